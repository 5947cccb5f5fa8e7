import PyProof.Rows.All
import Wide.All
import OpenK.AllK
import Wide.FinOn
import Lean
import PyProof.EqAt
import PyProof.EqKinds
import PyProof.TupleCall
import PyProof.ExcBaseAll.ValueError
import KE.KDictList
import PyProof.WalkInts
import PyProof.SeqI3
import PyProof.Rows.SetFrom
import PyProof.CompUse
import PyProof.ZipIter
import PyProof.ListRange
import PyProof.Rows.SumAny
import PyProof.Rows.SetObj
import PyProof.SetRoads
import KE.KIsAll
import PyProof.AttrMissSeq
import KE.KDictOf
import PyProof.Rows.SortShell
import PyProof.Rows.SortWalk
import KE.KIsNot
import PyProof.ExcArgs
import PyProof.Seq
import PyProof.Rows.TupIter
import PyProof.RulesAs
import PyProof.DictWalks
import PyProof.Rows.FStr
import KE.KEqDict
import KE.KDictSum
import KE.KSortTup
import PyProof.MinMaxWalk
import PySem.Challenge.RW_buildhall_k08_alarms
set_option Elab.async false
set_option linter.all false
set_option maxRecDepth 100000
namespace PySem.W.Fast
def tw11062769441304349728 : Unit := ()
def tw14363431167885879424 : Unit := ()
def tw16386292283618786496 : Unit := ()
def tw7684074463673036096 : Unit := ()
def tw9131299983183915360 : Unit := ()
def tw12879594434742154944 : Unit := ()
def tw10275632478424076032 : Unit := ()
def tw7977457962940943232 : Unit := ()
def tw16647596926285085568 : Unit := ()
def tw15832828921003045792 : Unit := ()
def tw8547301915658521568 : Unit := ()
def tw9808558120687816672 : Unit := ()
def tw11319411006928352385 : Unit := ()
def tw6379800209946756257 : Unit := ()
def tw25733754776121569 : Unit := ()
def tw7781798759791270337 : Unit := ()
def tw7845175537015193153 : Unit := ()
def tw12115734545936565953 : Unit := ()
def tw7949500678199448289 : Unit := ()
def tw3937944689989591777 : Unit := ()
def tw8434332114250869505 : Unit := ()
def tw5053041161185216353 : Unit := ()
def tw8493722500989078401 : Unit := ()
def tw17653827147883035746 : Unit := ()
def tw8136501794940995682 : Unit := ()
def tw3040275867938103458 : Unit := ()
def tw16075821756403279106 : Unit := ()
def tw9421450859044478242 : Unit := ()
def tw15140405415754315042 : Unit := ()
def tw5023185767899036994 : Unit := ()
def tw495460660780444002 : Unit := ()
def tw16186345223039012226 : Unit := ()
def tw14449334270401741250 : Unit := ()
def tw10202120987335408066 : Unit := ()
def tw12185846393033699906 : Unit := ()
def tw1450166769771806434 : Unit := ()
def tw2043183724338011906 : Unit := ()
def tw8862086668835361634 : Unit := ()
def tw5724053326771174306 : Unit := ()
def tw7759583366056601538 : Unit := ()
def tw13680168518632572898 : Unit := ()
def tw13620945608485186563 : Unit := ()
def tw13171028090562167811 : Unit := ()
def tw2722450101968563203 : Unit := ()
def tw18409736697385120803 : Unit := ()
def tw2362664550901962851 : Unit := ()
def tw8238055822729002147 : Unit := ()
def tw12309537422660200643 : Unit := ()
def tw16985232117314651363 : Unit := ()
def tw5554225053638307043 : Unit := ()
def tw17998097547340789155 : Unit := ()
def tw14062878094495118755 : Unit := ()
def tw16703270741001647619 : Unit := ()
def tw3700208617641566755 : Unit := ()
def tw9523191472015432323 : Unit := ()
def tw13380923866422241987 : Unit := ()
def tw4904353847067751203 : Unit := ()
def tw16240773576691903267 : Unit := ()
def tw7644836315206868803 : Unit := ()
def tw404120246095877091 : Unit := ()
def tw7831883412332889092 : Unit := ()
def tw12394206373358556164 : Unit := ()
def tw7264127012225475620 : Unit := ()
def tw16933291752232723524 : Unit := ()
def tw16466800312336787524 : Unit := ()
def tw10178553895545685124 : Unit := ()
def tw17646087599040510116 : Unit := ()
def tw1058756982213415172 : Unit := ()
def tw7345697369198181636 : Unit := ()
def tw8389771344013692484 : Unit := ()
def tw10782854291966005892 : Unit := ()
def tw12327774506930781956 : Unit := ()
def tw6569524120465298180 : Unit := ()
def tw17697863992382227236 : Unit := ()
def tw6345757015690208068 : Unit := ()
def tw14855899661355654020 : Unit := ()
def tw14995160484067217380 : Unit := ()
def tw11427180785925831717 : Unit := ()
def tw7210225354005024933 : Unit := ()
def tw2666210837140077765 : Unit := ()
def tw13387762189504448869 : Unit := ()
def tw15101755115400609125 : Unit := ()
def tw14785110300558188005 : Unit := ()
def tw12569282893464891909 : Unit := ()
def tw16066624721222049317 : Unit := ()
def tw11115117561414073925 : Unit := ()
def tw6409443695984331429 : Unit := ()
def tw11194784617510001317 : Unit := ()
def tw175174025184250565 : Unit := ()
def tw4209122109459262309 : Unit := ()
def tw3734005473469855621 : Unit := ()
def tw8931250507151791045 : Unit := ()
def tw16345986633499246694 : Unit := ()
def tw13032082597061593222 : Unit := ()
def tw14568165180938895558 : Unit := ()
def tw1942792053934951750 : Unit := ()
def tw8493239394950176070 : Unit := ()
def tw4878462552459135334 : Unit := ()
def tw14240581719541128646 : Unit := ()
def tw12145366723642145254 : Unit := ()
def tw15755596902875703814 : Unit := ()
def tw13315487380232309286 : Unit := ()
def tw4083388216031886950 : Unit := ()
def tw7594434078265286278 : Unit := ()
def tw3220098312530636454 : Unit := ()
def tw630558287619210022 : Unit := ()
def tw12981948639804236614 : Unit := ()
def tw4134903294865518406 : Unit := ()
def tw17415640117379286886 : Unit := ()
def tw1608111098084842342 : Unit := ()
def tw7954382300119192454 : Unit := ()
def tw2432798888665054118 : Unit := ()
def tw3561942965891254214 : Unit := ()
def tw1948382274204768230 : Unit := ()
def tw6937068970342951910 : Unit := ()
def tw4265488890574938215 : Unit := ()
def tw8287740193845103719 : Unit := ()
def tw8741323266527157351 : Unit := ()
def tw15696906403819061383 : Unit := ()
def tw16169939852989297831 : Unit := ()
def tw6495358418044840135 : Unit := ()
def tw2217062943646424295 : Unit := ()
def tw935068712349826279 : Unit := ()
def tw12762647241879637255 : Unit := ()
def tw10160769025398383079 : Unit := ()
def tw5625094583072941575 : Unit := ()
def tw13388320449240849959 : Unit := ()
def tw2100348596853769863 : Unit := ()
def tw4196364145500789415 : Unit := ()
def tw10578141838902653639 : Unit := ()
def tw16611610350755643079 : Unit := ()
def tw13706042200215882471 : Unit := ()
def tw2017000697329332967 : Unit := ()
def tw11436030079200673511 : Unit := ()
def tw10151918992975387399 : Unit := ()
def tw3193639836327877415 : Unit := ()
def tw1609367164348233703 : Unit := ()
def tw7974733055602791464 : Unit := ()
def tw10322032071963205704 : Unit := ()
def tw9230039994889907304 : Unit := ()
def tw4923014070533892264 : Unit := ()
def tw16336694479412889800 : Unit := ()
def tw12628126030104892712 : Unit := ()
def tw12018532309279931784 : Unit := ()
def tw16264285374942554600 : Unit := ()
def tw5497379097894339080 : Unit := ()
def tw11917346896872612424 : Unit := ()
def tw7357777249567289960 : Unit := ()
def tw3672171533345688200 : Unit := ()
def tw864955836717250216 : Unit := ()
def tw17825676236065963688 : Unit := ()
def tw2208895505822941896 : Unit := ()
def tw2746755409237983976 : Unit := ()
def tw7670090072543297256 : Unit := ()
def tw2280111421137977128 : Unit := ()
def tw1319262050310958920 : Unit := ()
def tw10578290813218846536 : Unit := ()
def tw6850905339750008841 : Unit := ()
def tw4641669404785266793 : Unit := ()
def tw1320603379415869577 : Unit := ()
def tw14567638355834596489 : Unit := ()
def tw8229215915531698345 : Unit := ()
def tw3188197548043275433 : Unit := ()
def tw10130815821406338217 : Unit := ()
def tw9453323892273193257 : Unit := ()
def tw15301363014490061129 : Unit := ()
def tw6642551787874046473 : Unit := ()
def tw10266909397090840105 : Unit := ()
def tw17276852491432819625 : Unit := ()
def tw14044626217532592138 : Unit := ()
def tw14352988525069869098 : Unit := ()
def tw15610359853877996682 : Unit := ()
def tw17653426245913519338 : Unit := ()
def tw2803703409699995882 : Unit := ()
def tw2858815625112674570 : Unit := ()
def tw888938651177412906 : Unit := ()
def tw9655187761384140106 : Unit := ()
def tw13281505438232238506 : Unit := ()
def tw10644401237960092106 : Unit := ()
def tw9610123493741569514 : Unit := ()
def tw15487960213721794058 : Unit := ()
def tw5123390921452000810 : Unit := ()
def tw18031383310934706762 : Unit := ()
def tw7737176335495967338 : Unit := ()
def tw9048625229441161898 : Unit := ()
def tw16542010471208870602 : Unit := ()
def tw11978112804726238986 : Unit := ()
def tw4538425892361642794 : Unit := ()
def tw10735576654803527530 : Unit := ()
def tw14662862059391227786 : Unit := ()
def tw16551185190493531147 : Unit := ()
def tw17857728541971236971 : Unit := ()
def tw10067333689887996075 : Unit := ()
def tw9986887453429787851 : Unit := ()
def tw10714259746546338059 : Unit := ()
def tw3663634928853219595 : Unit := ()
def tw7571154490953297259 : Unit := ()
def tw12675838423663574379 : Unit := ()
def tw16043914197226998283 : Unit := ()
def tw1298867036145553995 : Unit := ()
def tw8035646060019138155 : Unit := ()
def tw15951392057390055019 : Unit := ()
def tw13075339362241505035 : Unit := ()
def tw11739799819130075051 : Unit := ()
def tw12205800958082062283 : Unit := ()
def tw11424446789088019468 : Unit := ()
def tw18160178118849684588 : Unit := ()
def tw17241957865964085420 : Unit := ()
def tw6795556409417452748 : Unit := ()
def tw12769512955046482124 : Unit := ()
def tw5202618469986846988 : Unit := ()
def tw15781923230729572812 : Unit := ()
def tw18895316605052428 : Unit := ()
def tw6042587162824497676 : Unit := ()
def tw1236004537511324204 : Unit := ()
def tw9487201926480387628 : Unit := ()
def tw6615461770856371788 : Unit := ()
def tw13342831373884324460 : Unit := ()
def tw11949758995865693836 : Unit := ()
def tw9174184936728795884 : Unit := ()
def tw16646749906266682092 : Unit := ()
def tw332041368355250988 : Unit := ()
def tw15742281099474096940 : Unit := ()
def tw1133830474345439116 : Unit := ()
def tw3763641267949093868 : Unit := ()
def tw10729806431355813901 : Unit := ()
def tw14063233654088888333 : Unit := ()
def tw9498810360479985709 : Unit := ()
def tw2527636134513394733 : Unit := ()
def tw1810146655090248781 : Unit := ()
def tw11566772681634037837 : Unit := ()
def tw10125485247492800653 : Unit := ()
def tw17072086407869519053 : Unit := ()
def tw15717338988465835309 : Unit := ()
def tw13909022070091090317 : Unit := ()
def tw1635290579326575117 : Unit := ()
def tw1468652729754440269 : Unit := ()
def tw11952409952204750477 : Unit := ()
def tw17142972485977729709 : Unit := ()
def tw5364237021804905165 : Unit := ()
def tw15670313915545472781 : Unit := ()
def tw15847792538544845645 : Unit := ()
def tw11531006271051386701 : Unit := ()
def tw12207522862173577101 : Unit := ()
def tw5340707251270001581 : Unit := ()
def tw3855048944158768077 : Unit := ()
def tw8750464995392916494 : Unit := ()
def tw9577696659806972078 : Unit := ()
def tw4455673508662454478 : Unit := ()
def tw8336576812524211438 : Unit := ()
def tw16702652029783531790 : Unit := ()
def tw8373557882854310350 : Unit := ()
def tw4537426912758266318 : Unit := ()
def tw6543302567740318222 : Unit := ()
def tw15494614780115186222 : Unit := ()
def tw2069233885292555854 : Unit := ()
def tw6293178724409164494 : Unit := ()
def tw11824406411572993870 : Unit := ()
def tw7000842683060519854 : Unit := ()
def tw16877759415063284654 : Unit := ()
def tw1985682480363494350 : Unit := ()
def tw12404103956293171182 : Unit := ()
def tw5347310390291955951 : Unit := ()
def tw16805417842472632687 : Unit := ()
def tw15205707230967199119 : Unit := ()
def tw13481817131484900815 : Unit := ()
def tw283994280624209359 : Unit := ()
def tw6308907819093728783 : Unit := ()
def tw7306421381034276367 : Unit := ()
def tw8713083293230237423 : Unit := ()
def tw13369539298131248943 : Unit := ()
def tw6537214517695558479 : Unit := ()
def tw14715358835648025423 : Unit := ()
def tw16280292803431621519 : Unit := ()
def tw17176241284082162864 : Unit := ()
def tw17638456113077979344 : Unit := ()
def tw5348559357087404240 : Unit := ()
def tw8489990780565649616 : Unit := ()
def tw1512295659580179728 : Unit := ()
def tw3890772289625316720 : Unit := ()
def tw3794572684337946032 : Unit := ()
def tw7219879434476431792 : Unit := ()
def tw551244580915192304 : Unit := ()
def tw7157476318058743344 : Unit := ()
def tw11987451343947880144 : Unit := ()
def tw618490663516371696 : Unit := ()
def tw17299009033289719696 : Unit := ()
def tw4455454183499270225 : Unit := ()
def tw17906832390630424849 : Unit := ()
def tw18142734008938903889 : Unit := ()
def tw4573418960910970289 : Unit := ()
def tw13833313305113326193 : Unit := ()
def tw7168254575720579729 : Unit := ()
def tw5847936806634656433 : Unit := ()
def tw14437140829224597169 : Unit := ()
def tw9068407564066263761 : Unit := ()
def tw4831651360111689489 : Unit := ()
def tw8978626975935605617 : Unit := ()
def tw9287943858865286162 : Unit := ()
def tw10943235606976626802 : Unit := ()
def tw7865501609586022514 : Unit := ()
def tw13493334268958400786 : Unit := ()
def tw8999681688410703122 : Unit := ()
def tw21119653502124402 : Unit := ()
def tw7446274612362678674 : Unit := ()
def tw540044194975067570 : Unit := ()
def tw11534209374034895314 : Unit := ()
def tw1194607796230785554 : Unit := ()
def tw7441775297829787250 : Unit := ()
def tw5993013808474190450 : Unit := ()
def tw7800867067985098354 : Unit := ()
def tw16646598512953083570 : Unit := ()
def tw150571607180178162 : Unit := ()
def tw14015068893830982514 : Unit := ()
def tw17008755403676547954 : Unit := ()
def tw3834537638854471570 : Unit := ()
def tw15768246508380292018 : Unit := ()
def tw13709868254111546354 : Unit := ()
def tw9765516572735086611 : Unit := ()
def tw8623765337698572339 : Unit := ()
def tw787114409478587475 : Unit := ()
def tw5508981654808766611 : Unit := ()
def tw12450501725079607475 : Unit := ()
def tw8931541138114317619 : Unit := ()
def tw1410880285532670259 : Unit := ()
def tw12203617309538652499 : Unit := ()
def tw2987661539624613203 : Unit := ()
def tw13502246390730132851 : Unit := ()
def tw15331446224963741107 : Unit := ()
def tw16508887067595262451 : Unit := ()
def tw12248699906613516819 : Unit := ()
def tw8859488409229568531 : Unit := ()
def tw3855878755086520947 : Unit := ()
def tw11585386032925960851 : Unit := ()
def tw17483471115227516787 : Unit := ()
def tw10354897570256497587 : Unit := ()
def tw1786558311585985491 : Unit := ()
def tw13224940208440830004 : Unit := ()
def tw1482321445155326068 : Unit := ()
def tw1873031928975740020 : Unit := ()
def tw12822871738923421044 : Unit := ()
def tw11118161628691993044 : Unit := ()
def tw17328383518964311508 : Unit := ()
def tw7528534846730772980 : Unit := ()
def tw13153835421249859060 : Unit := ()
def tw7172105536394998292 : Unit := ()
def tw13798530609825739316 : Unit := ()
def tw6039977955686301396 : Unit := ()
def tw17181143778485041908 : Unit := ()
def tw3785897392407422836 : Unit := ()
def tw4456568847110498164 : Unit := ()
def tw11027115200726788980 : Unit := ()
def tw3455852695983061940 : Unit := ()
def tw5755274436940591060 : Unit := ()
def tw4916219008494343156 : Unit := ()
def tw4339914719984227445 : Unit := ()
def tw13661986057356080277 : Unit := ()
def tw11480428665799749141 : Unit := ()
def tw17979669109388034581 : Unit := ()
def tw949765736721901109 : Unit := ()
def tw13252573823150582389 : Unit := ()
def tw941111089471374037 : Unit := ()
def tw8344576701392123669 : Unit := ()
def tw5144898339509854005 : Unit := ()
def tw2433515984838246229 : Unit := ()
def tw17051995662635480949 : Unit := ()
def tw6746182035990672309 : Unit := ()
def tw15073301841532999766 : Unit := ()
def tw11135869728157635766 : Unit := ()
def tw16170128419052695862 : Unit := ()
def tw8816384412528119126 : Unit := ()
def tw1458180792282971542 : Unit := ()
def tw14819412864944449974 : Unit := ()
def tw2920517214234627510 : Unit := ()
def tw4257449816778430902 : Unit := ()
def tw17747207734542264886 : Unit := ()
def tw18444720265796037334 : Unit := ()
def tw11785765508474610422 : Unit := ()
def tw12246917557782185750 : Unit := ()
def tw16757477505733560150 : Unit := ()
def tw244082036260156246 : Unit := ()
def tw16757792482257975126 : Unit := ()
def tw6854266095989181366 : Unit := ()
def tw15781406463006836694 : Unit := ()
def tw8682166561195690998 : Unit := ()
def tw9941791946341986294 : Unit := ()
def tw7556898247198455863 : Unit := ()
def tw186904999824954487 : Unit := ()
def tw4171822835612286071 : Unit := ()
def tw7241012015109190999 : Unit := ()
def tw13522929645370806647 : Unit := ()
def tw10901587097574607255 : Unit := ()
def tw17560987738930595447 : Unit := ()
def tw4737772976197167735 : Unit := ()
def tw8367659542992545559 : Unit := ()
def tw2625319547072540663 : Unit := ()
def tw12839621481643275480 : Unit := ()
def tw3217461421965112536 : Unit := ()
def tw17675881034977841400 : Unit := ()
def tw18418051065270448504 : Unit := ()
def tw10920639207416696376 : Unit := ()
def tw9199978172568117880 : Unit := ()
def tw8846208171381325432 : Unit := ()
def tw9635145369296713368 : Unit := ()
def tw18310708827900465880 : Unit := ()
def tw10445418985778325240 : Unit := ()
def tw7555924216881011576 : Unit := ()
def tw5215562709077773176 : Unit := ()
def tw9132074928460958616 : Unit := ()
def tw16688722760762388376 : Unit := ()
def tw18218814443841140728 : Unit := ()
def tw12741963046320165913 : Unit := ()
def tw14351780124852080697 : Unit := ()
def tw6975390036011117657 : Unit := ()
def tw16275505298173315193 : Unit := ()
def tw10366868098568390841 : Unit := ()
def tw7193695925462563001 : Unit := ()
def tw14278106515804392665 : Unit := ()
def tw12493708439969833177 : Unit := ()
def tw10927622845570291993 : Unit := ()
def tw8878568308652786969 : Unit := ()
def tw5730470279827704121 : Unit := ()
def tw10118933117250087353 : Unit := ()
def tw14624850200619321945 : Unit := ()
def tw12946815302119185049 : Unit := ()
def tw5144188328908985049 : Unit := ()
def tw10837109554765597497 : Unit := ()
def tw17667199165567185817 : Unit := ()
def tw7154808428209317881 : Unit := ()
def tw1617050218056110170 : Unit := ()
def tw14972474170869730394 : Unit := ()
def tw152143249161192666 : Unit := ()
def tw17173601173334508922 : Unit := ()
def tw2301627738811467226 : Unit := ()
def tw4665700257718713818 : Unit := ()
def tw13757540027666347514 : Unit := ()
def tw7707254869132956154 : Unit := ()
def tw16880664309557664282 : Unit := ()
def tw13551646693922646586 : Unit := ()
def tw14812442158950394458 : Unit := ()
def tw758157445081522778 : Unit := ()
def tw9030362026887579258 : Unit := ()
def tw4390233235620645562 : Unit := ()
def tw1372059963015547738 : Unit := ()
def tw9159522073303657402 : Unit := ()
def tw13684279989894343642 : Unit := ()
def tw6028863743266275355 : Unit := ()
def tw7143236227966623771 : Unit := ()
def tw17327511226256465019 : Unit := ()
def tw10139546353644840059 : Unit := ()
def tw15798115695247197371 : Unit := ()
def tw8701846695697291451 : Unit := ()
def tw4418742196034320571 : Unit := ()
def tw9396275231435122907 : Unit := ()
def tw16154920836046109947 : Unit := ()
def tw4902322776608624891 : Unit := ()
def tw1777374679595208955 : Unit := ()
def tw6370317782644243739 : Unit := ()
def tw9009238282025297179 : Unit := ()
def tw5327242117580418363 : Unit := ()
def tw4119194878081106299 : Unit := ()
def tw8307588032599995771 : Unit := ()
def tw10806639625839753595 : Unit := ()
def tw3992986282630560155 : Unit := ()
def tw8867853861306815899 : Unit := ()
def tw13164493858158183995 : Unit := ()
def tw12333887669184928347 : Unit := ()
def tw12349823658442641019 : Unit := ()
def tw369062927048290011 : Unit := ()
def tw6320036682966876891 : Unit := ()
def tw3917578429675067099 : Unit := ()
def tw12490830788754463483 : Unit := ()
def tw5571065201917580187 : Unit := ()
def tw17314068599780280283 : Unit := ()
def tw12787747077636628475 : Unit := ()
def tw4628434177683011804 : Unit := ()
def tw4641982113441117436 : Unit := ()
def tw1723750489761605020 : Unit := ()
def tw18051202733082343964 : Unit := ()
def tw3434239482596314748 : Unit := ()
def tw4078321567151104732 : Unit := ()
def tw16959617551029194620 : Unit := ()
def tw5170650499189181404 : Unit := ()
def tw9578264411384589308 : Unit := ()
def tw17896063624435124285 : Unit := ()
def tw10588182469678676093 : Unit := ()
def tw11568942317024273629 : Unit := ()
def tw14469142781049273693 : Unit := ()
def tw6500406016986217917 : Unit := ()
def tw4776074333028615677 : Unit := ()
def tw1709015217958106653 : Unit := ()
def tw14075239800808618589 : Unit := ()
def tw6921168663785456253 : Unit := ()
def tw18206746109063128701 : Unit := ()
def tw10310434374574647965 : Unit := ()
def tw14134544405836863197 : Unit := ()
def tw6964443591325259517 : Unit := ()
def tw10489487773787452285 : Unit := ()
def tw6617250214704968573 : Unit := ()
def tw4709543380129713053 : Unit := ()
def tw1601272274593911709 : Unit := ()
def tw13460669195149864861 : Unit := ()
def tw17787659512335577021 : Unit := ()
def tw483461085488720958 : Unit := ()
def tw12256452131913304158 : Unit := ()
def tw3949754077896385790 : Unit := ()
def tw10478662943159545118 : Unit := ()
def tw1716934838454185374 : Unit := ()
def tw15132177571134478814 : Unit := ()
def tw10827997028090116574 : Unit := ()
def tw5940098597291760254 : Unit := ()
def tw1578192217728196222 : Unit := ()
def tw10690498050493601534 : Unit := ()
def tw4034667892230691678 : Unit := ()
def tw12802533449864415102 : Unit := ()
def tw7168398027786664926 : Unit := ()
def tw5330332832499487710 : Unit := ()
def tw15985274428733180063 : Unit := ()
def tw5758387648224518303 : Unit := ()
def tw11968903342010628319 : Unit := ()
def tw1258428271977880959 : Unit := ()
def tw14297303095337900543 : Unit := ()
def tw11730062951480756799 : Unit := ()
def tw5987652879104037439 : Unit := ()
def tw4024671453648689759 : Unit := ()
def tw5827539042832732799 : Unit := ()
def tw8935044231837447839 : Unit := ()
def tw13959223662468259519 : Unit := ()
def tw1949537998947166079 : Unit := ()
end PySem.W.Fast
set_option Elab.async false
set_option linter.all false
set_option maxRecDepth 100000
/-! THE HAND LAYER, for ints, bools, texts, own classes, LISTS and tuples (index, slices, in, append, pop ..), calls, loops. Paste it whole ahead of your own text; what your proof does not reach may be deleted. -/
namespace L2
open PySem PySem.Spec PyProof.Rows

/-- a key: an int or a str -/
abbrev Key := Sum Int Str
def keyIs : Key → Value → Bool
  | .inl k, v => Value.isInt k v
  | .inr x, v => Value.isStrOf x v
def keyH (w : World) : Key → Int
  | .inl k => hashInt k
  | .inr x => hashStr w x
theorem keyIs_shape : ∀ {k : Key} {v : Value}, keyIs k v = true → (∃ i t, k = Sum.inl i ∧ v = Value.int i t) ∨ (∃ x t, k = Sum.inr x ∧ v = Value.str x t)
  | .inl i, v, h => by
    obtain ⟨t, e⟩ := Value.isInt_shape (k := i) (v := v) h
    exact .inl ⟨i, t, rfl, e⟩
  | .inr x, v, h => by
    obtain ⟨t, e⟩ := Value.isStrOf_shape (x := x) (v := v) h
    exact .inr ⟨x, t, rfl, e⟩
theorem key_ll (a b : Int) : decide ((Sum.inl a : Key) = Sum.inl b) = (a == b) := by
  by_cases e : a = b
  · subst e; simp
  · have h : ¬ (Sum.inl a : Key) = Sum.inl b := fun q => e (Sum.inl.inj q)
    rw [decide_eq_false h]
    exact (beq_eq_false_iff_ne.mpr e).symm
theorem key_rr (a b : Str) : decide ((Sum.inr a : Key) = Sum.inr b) = decide (a = b) := by
  by_cases e : a = b
  · subst e; simp
  · have h : ¬ (Sum.inr a : Key) = Sum.inr b := fun q => e (Sum.inr.inj q)
    rw [decide_eq_false h, decide_eq_false e]
theorem key_lr (a : Int) (b : Str) : decide ((Sum.inl a : Key) = Sum.inr b) = false := decide_eq_false (fun q => nomatch q)
theorem key_rl (a : Str) (b : Int) : decide ((Sum.inr a : Key) = Sum.inl b) = false := decide_eq_false (fun q => nomatch q)

def mixKind (prog : Program) (w : World) : PySem.KeyKind prog w Key where
  is := keyIs
  hash := keyH w
  inj := fun v a b ha hb => by
    rcases keyIs_shape ha with ⟨i, t, rfl, rfl⟩ | ⟨x, t, rfl, rfl⟩
    · rcases keyIs_shape hb with ⟨j, u, rfl, e⟩ | ⟨y, u, rfl, e⟩
      · injection e with e1 _; rw [e1]
      · exact nomatch e
    · rcases keyIs_shape hb with ⟨j, u, rfl, e⟩ | ⟨y, u, rfl, e⟩
      · exact nomatch e
      · injection e with e1 _; rw [e1]
  byValue := fun k v h => by
    rcases keyIs_shape h with ⟨i, t, rfl, rfl⟩ | ⟨x, t, rfl, rfl⟩ <;> rfl
  pyHash := fun hv h => by
    rcases keyIs_shape hv with ⟨i, t, rfl, rfl⟩ | ⟨x, t, rfl, rfl⟩
    · exact wpAny_pyHash_int h
    · exact wpAny_pyHash_str h
  eqBool := fun hu hv h => by
    rcases keyIs_shape hu with ⟨i, t, rfl, rfl⟩ | ⟨x, t, rfl, rfl⟩
    · rcases keyIs_shape hv with ⟨j, u, rfl, rfl⟩ | ⟨y, u, rfl, rfl⟩
      · rw [key_ll] at h; exact wpAny_eqBool_int h
      · rw [key_lr] at h; exact SeqAt.EqAt.int_str i t y u _ _ _ _ h
    · rcases keyIs_shape hv with ⟨j, u, rfl, rfl⟩ | ⟨y, u, rfl, rfl⟩
      · rw [key_rl] at h; exact SeqAt.EqAt.str_int x t j u _ _ _ _ h
      · rw [key_rr] at h; exact wpAny_eqBool_str h
  «strs» := fun k x t v h => by
    rcases keyIs_shape h with ⟨i, u, rfl, e⟩ | ⟨y, u, rfl, e⟩
    · exact nomatch e
    · injection e with e1 _
      subst e1
      cases v <;> rfl

end L2

namespace L2
open PySem PySem.Spec PyProof.Rows

/-- a value, without the heap -/
inductive V where
  | non | bl (b : Bool) | int (i : Int) | str (x : Str) | byt (b : Array UInt8) | flt (b : UInt64) | ref (a : Addr) | ty (n : String)
  deriving DecidableEq

def RelV : V → Value → Prop
  | .non, u => u = Value.none
  | .bl b, u => u = Value.bool b
  | .int i, u => ∃ t, u = Value.int i t
  | .str x, u => ∃ t, u = Value.str x t
  | .byt b, u => ∃ t, u = Value.bytes b t
  | .flt b, u => ∃ t, u = Value.float b t
  | .ref a, u => u = Value.ref a
  | .ty n, u => u = Value.type n

abbrev Vals : List V → List Value → Prop := Paired RelV
theorem Vals.length {xs : List V} {us : List Value} (r : Vals xs us) : xs.length = us.length := Paired.length r
theorem Vals.get : ∀ {xs : List V} {us : List Value} {i : Nat} {x : V}, Vals xs us → xs[i]? = some x → ∃ u, us[i]? = some u ∧ RelV x u
  | _, _, _, _, .nil, e => by simp at e
  | _, _, 0, _, .cons r _, e => by simp at e; subst e; exact ⟨_, rfl, r⟩
  | _, _, i + 1, x, .cons _ t, e => by
    obtain ⟨u, h1, h2⟩ := Vals.get (i := i) (x := x) t (by simpa using e)
    exact ⟨u, by simpa using h1, h2⟩
theorem Vals.append : ∀ {xs ys : List V} {us ws : List Value}, Vals xs us → Vals ys ws → Vals (xs ++ ys) (us ++ ws)
  | _, _, _, _, .nil, s => s
  | _, _, _, _, .cons r t, s => .cons r (Vals.append t s)
theorem Vals.take : ∀ {xs : List V} {us : List Value} (n : Nat), Vals xs us → Vals (xs.take n) (us.take n)
  | _, _, 0, _ => .nil
  | _, _, _ + 1, .nil => .nil
  | _, _, n + 1, .cons r t => .cons r (Vals.take n t)
theorem Vals.drop : ∀ {xs : List V} {us : List Value} (n : Nat), Vals xs us → Vals (xs.drop n) (us.drop n)
  | _, _, 0, r => r
  | _, _, _ + 1, .nil => .nil
  | _, _, n + 1, .cons _ t => Vals.drop n t

def RelO : Option V → Option Value → Prop
  | some v, some u => RelV v u
  | none, none => True
  | _, _ => False
def KV {κ : Type} : List (κ × V) → List (κ × Value) → Prop := Paired fun (p : κ × V) (q : κ × Value) => p.1 = q.1 ∧ RelV p.2 q.2

/-- a key of a dict (00_mix): an int or a text -/
def kV : Key → V
  | .inl i => .int i
  | .inr x => .str x

/-- what stands at a tracked address -/
inductive HO where
  /-- a list -/
  | lst (xs : List V)
  /-- a tuple (never changes) -/
  | tup (xs : List V)
  /-- a dict whose keys are ints and texts; one whose keys are tuples of ints and texts (the empty one is both) -/
  | dK (kvs : List (Key × V)) | dT (kvs : List (List Key × V))
  /-- a set of ints: its members, its size -/
  | set (S : Int → Bool) (n : Nat)
  /-- an instance of the class at C, its dict at dx, its attributes -/
  | ins (C dx : Addr) (fs : List (Str × V))
  /-- the dict of the instance at x -/
  | own (x : Addr)
  /-- the dict of an exception -/
  | xd (fs : List (Str × V))
  /-- a bound method, f of x -/
  | met (f x : Addr)
  /-- a range object lo, lo + 1, .. below hi -/
  | rng (lo hi : Int)
  /-- a thing that is known to the object (the script; a dict while a loop walks it): read, never written while it is so -/
  | frz (o : Obj) (u : HO)
  /-- a code object's table -/
  | tbl (ps : Array Value)
  /-- any other thing, by what is true of its one object (a def of one's own: SetO a S n := HO.ext fun h => ..) -/
  | ext (φ : Heap → Prop)

abbrev Hp := Addr → Option HO
def upd (H : Hp) (a : Addr) (o : HO) : Hp := fun b => if b = a then some o else H b
theorem upd_same {H : Hp} {a : Addr} {o : HO} : upd H a o a = some o := by unfold upd; rw [if_pos rfl]
theorem upd_ne {H : Hp} {a b : Addr} {o : HO} (h : b ≠ a) : upd H a o b = H b := by unfold upd; rw [if_neg h]
/-- two objects of different content stand apart -/
theorem ne_of {H : Hp} {a b : Addr} {o u : HO} (h : H a = some o) (h' : H b = some u) (d : o ≠ u) : a ≠ b := by
  intro e; subst e; rw [h] at h'; exact d (Option.some.inj h')
theorem ne_of_none {H : Hp} {a b : Addr} {o : HO} (h : H a = some o) (h' : H b = none) : a ≠ b := by
  intro e; subst e; rw [h] at h'; cases h'

section
variable (P : Program) (w : World)
def ObjOk (H : Hp) (h : Heap) (a : Addr) : HO → Prop
  | .lst xs => xs.length ≤ sizeLine ∧ ∃ (its : List Value) (n : Nat), Vals xs its ∧ h.get? a = some { cls := .type "list", data := .seq its.toArray n }
  | .tup xs => xs.length ≤ sizeLine ∧ ∃ its : List Value, Vals xs its ∧ IsTup h a its.toArray
  | .dK kvs => kvs.length ≤ sizeLine ∧ (a == sysModules) = false ∧ ∃ vs, KV kvs vs ∧ h.DictOf (mixKind P w) a vs
  | .dT kvs => kvs.length ≤ sizeLine ∧ (a == sysModules) = false ∧ ∃ xs : List (List Key × Addr × Value),
      Paired (fun (p : List Key × V) (q : List Key × Addr × Value) => p.1 = q.1 ∧ H q.2.1 = some (.tup (p.1.map kV)) ∧ RelV p.2 q.2.2) kvs xs ∧
      ∃ o es ep, h.get? a = some o ∧ o.ExactDict ∧ o.data = .dict es ep ∧ es.toList = xs.map (entryOfKey (tupleKind (mixKind P w))) ∧ (xs.map (·.1)).Nodup
  | .set S n => h.SetOf (intKind P w) a S n
  | .ins C dx fs => H dx = some (.own a) ∧ fs.length ≤ 1000 ∧ dx ≠ a ∧ h.get? a = some (PySem.W.instObj C dx) ∧
      ∃ mA, h.Ns1 dx mA ∧ (∀ f, RelO (fs.lookup f) (mA f)) ∧ PySem.Within mA (fs.map (·.1))
  | .own _ => ∃ o, h.get? a = some o
  | .xd fs => ∃ mA, h.Ns1 a mA ∧ ∀ f, RelO (fs.lookup f) (mA f)
  | .rng lo hi => ∃ t u v, h.get? a = some { cls := .type "range", data := .fields #[.int lo t, .int hi u, .int 1 v] }
  | .frz o u => h.get? a = some o ∧ ObjOk H h a u
  | .tbl ps => h.get? a = some { cls := .none, data := .fields ps }
  | .met f x => h.get? a = some (PySem.W.methodObj (.ref f) (.ref x))
  | .ext φ => φ h ∧ (∃ o, h.get? a = some o) ∧ ∀ h1 h2 : Heap, φ h1 → (∀ o, h1.get? a = some o → h2.get? a = some o) → φ h2
/-- the abstract heap is held -/
def HOk (H : Hp) (h : Heap) : Prop := ∀ a o, H a = some o → ObjOk P w H h a o
end

section
variable {P : Program} {w : World} {H H' : Hp} {h h' : Heap} {a : Addr} {o : HO}
theorem ObjOk.lt (x : ObjOk P w H h a o) : a < h.objs.size := by
  cases o with
  | lst xs => obtain ⟨_, _, _, _, e⟩ := x; exact Heap.lt_size e
  | tup xs => obtain ⟨_, _, _, p⟩ := x; exact p.lt
  | dK kvs => obtain ⟨_, _, _, _, o, _, _, e, _⟩ := x; exact Heap.lt_size e
  | dT kvs => obtain ⟨_, _, _, _, o, _, _, e, _⟩ := x; exact Heap.lt_size e
  | set S n => obtain ⟨o, _, _, _, e, _⟩ := x; exact Heap.lt_size e
  | ins C dx fs => obtain ⟨_, _, _, e, _⟩ := x; exact Heap.lt_size e
  | own y => obtain ⟨_, e⟩ := x; exact Heap.lt_size e
  | xd fs => obtain ⟨_, ⟨_, _, _, e, _⟩, _⟩ := x; exact Heap.lt_size e
  | rng lo hi => obtain ⟨_, _, _, e⟩ := x; exact Heap.lt_size e
  | frz ob u => obtain ⟨e, _⟩ := x; exact Heap.lt_size e
  | tbl ps => exact Heap.lt_size (show h.get? a = some _ from x)
  | met f y => exact Heap.lt_size (show h.get? a = some _ from x)
  | ext φ => obtain ⟨_, ⟨_, e⟩, _⟩ := x; exact Heap.lt_size e
theorem Paired.mapP {α β : Type} {F G : α → β → Prop} : ∀ {l₁ : List α} {l₂ : List β}, Paired F l₁ l₂ → (∀ a b, F a b → G a b) → Paired G l₁ l₂
  | _, _, .nil, _ => .nil
  | _, _, .cons r t, f => .cons (f _ _ r) (Paired.mapP t f)
/-- what an object's description leans on: its own object, its own dict, the tuples -/
theorem ObjOk.stay (x : ObjOk P w H h a o) (k : ∀ b u, (b = a ∨ H b = some (.own a)) → h.get? b = some u → h'.get? b = some u)
    (ho : ∀ b, H b = some (.own a) → H' b = some (.own a)) (ht : ∀ b xs, H b = some (.tup xs) → H' b = some (.tup xs)) : ObjOk P w H' h' a o := by
  induction o with
  | lst xs => obtain ⟨z, its, n, r, e⟩ := x; exact ⟨z, its, n, r, k _ _ (.inl rfl) e⟩
  | tup xs => obtain ⟨z, its, r, ob, e, c⟩ := x; exact ⟨z, its, r, ob, k _ _ (.inl rfl) e, c⟩
  | dK kvs => obtain ⟨z, y, vs, r, ob, es, ep, e, c⟩ := x; exact ⟨z, y, vs, r, ob, es, ep, k _ _ (.inl rfl) e, c⟩
  | dT kvs =>
    obtain ⟨z, y, xs, r, ob, es, ep, e, c⟩ := x
    exact ⟨z, y, xs, Paired.mapP r fun p q z => ⟨z.1, ht _ _ z.2.1, z.2.2⟩, ob, es, ep, k _ _ (.inl rfl) e, c⟩
  | set S n => obtain ⟨ob, es, ep, t, e, c⟩ := x; exact ⟨ob, es, ep, t, k _ _ (.inl rfl) e, c⟩
  | ins C dx fs =>
    obtain ⟨d, z, ne, e, mA, ⟨od, es, ep, e2, c⟩, r⟩ := x
    exact ⟨ho _ d, z, ne, k _ _ (.inl rfl) e, mA, ⟨od, es, ep, k _ _ (.inr d) e2, c⟩, r⟩
  | own y => obtain ⟨ob, e⟩ := x; exact ⟨ob, k _ _ (.inl rfl) e⟩
  | xd fs => obtain ⟨mA, ⟨od, es, ep, e, c⟩, r⟩ := x; exact ⟨mA, ⟨od, es, ep, k _ _ (.inl rfl) e, c⟩, r⟩
  | rng lo hi => obtain ⟨t, u, v, e⟩ := x; exact ⟨t, u, v, k _ _ (.inl rfl) e⟩
  | frz ob u ih => obtain ⟨e, q⟩ := x; exact ⟨k _ _ (.inl rfl) e, ih q⟩
  | tbl ps =>
    have e : h.get? a = some { cls := .none, data := .fields ps } := x
    show h'.get? a = some { cls := .none, data := .fields ps }
    exact k a _ (.inl rfl) e
  | met f y =>
    have e : h.get? a = some (PySem.W.methodObj (.ref f) (.ref y)) := x
    show h'.get? a = some (PySem.W.methodObj (.ref f) (.ref y))
    exact k a _ (.inl rfl) e
  | ext φ => obtain ⟨p, ⟨o, e⟩, st⟩ := x; exact ⟨st _ _ p fun o q => k _ _ (.inl rfl) q, ⟨o, k _ _ (.inl rfl) e⟩, st⟩
theorem HOk.lt (x : HOk P w H h) (e : H a = some o) : a < h.objs.size := (x a o e).lt
theorem HOk.fresh (x : HOk P w H h) (e : h.objs.size ≤ a) : H a = none := by
  cases q : H a with
  | none => rfl
  | some u => exact absurd (Nat.lt_of_lt_of_le (x.lt q) e) (Nat.lt_irrefl _)
/-- every object of the heap is kept -/
theorem HOk.kept (x : HOk P w H h) (k : ∀ b u, h.get? b = some u → h'.get? b = some u) : HOk P w H h' := fun a o e =>
  (x a o e).stay (fun b u _ q => k b u q) (fun _ q => q) fun _ _ q => q
/-- a new object is laid and tracked -/
theorem HOk.laid (x : HOk P w H h) (k : ∀ b u, h.get? b = some u → h'.get? b = some u) (hp : h.objs.size ≤ a) (new : ObjOk P w (upd H a o) h' a o) : HOk P w (upd H a o) h' := fun b u e => by
  have hn := x.fresh hp
  by_cases hb : b = a
  · subst hb; rw [upd_same] at e; cases e; exact new
  · rw [upd_ne hb] at e
    exact (x b u e).stay (fun c v _ q => k c v q) (fun c q => by rw [upd_ne (ne_of_none q hn)]; exact q) fun c xs q => by rw [upd_ne (ne_of_none q hn)]; exact q
end

/-- what may be read as u: it is u, or a known u -/
def Rd (H : Hp) (a : Addr) (u : HO) : Prop := H a = some u ∨ ∃ o, H a = some (.frz o u)
theorem Rd.ok {P : Program} {w : World} {H : Hp} {h : Heap} {a : Addr} {u : HO} (r : Rd H a u) (x : HOk P w H h) : ObjOk P w H h a u := by
  rcases r with r | ⟨o, r⟩
  · exact x a u r
  · obtain ⟨_, q⟩ := x a _ r
    exact q
/-- what may be written -/
def Mut : Option HO → Prop
  | some (.lst _) => True
  | some (.dK _) => True
  | some (.dT _) => True
  | some (.set _ _) => True
  | some (.ins _ _ _) => True
  | some (.ext _) => True
  | _ => False
section
variable {P : Program} {w : World} {H : Hp} {h h' : Heap} {x e : Addr} {o' : HO}
/-- the object at e is changed: x itself, or the dict of the instance x -/
theorem HOk.write (ok : HOk P w H h) (mu : Mut (H x)) (he : e = x ∨ H e = some (.own x)) (k : ∀ b u, b ≠ e → h.get? b = some u → h'.get? b = some u) (heo : ∃ u, h'.get? e = some u)
    (new : ObjOk P w (upd H x o') h' x o') : HOk P w (upd H x o') h' := fun b u q => by
  have nown : ∀ c y, H c = some (.own y) → c ≠ x := fun c y r z => by subst z; rw [r] at mu; exact mu
  have ntup : ∀ c xs, H c = some (.tup xs) → c ≠ x := fun c xs r z => by subst z; rw [r] at mu; exact mu
  by_cases hb : b = x
  · subst hb; rw [upd_same] at q; cases q; exact new
  · rw [upd_ne hb] at q
    by_cases hbe : b = e
    · have q' : H b = some (.own x) := by
        rcases he with z | z
        · exact absurd (hbe.trans z) hb
        · rw [hbe]; exact z
      rw [q] at q'; cases q'
      obtain ⟨v, hv⟩ := heo
      exact ⟨v, by rw [hbe]; exact hv⟩
    · refine (ok b u q).stay (fun c v hc r => k c v ?_ r) (fun c r => by rw [upd_ne (nown c b r)]; exact r) fun c xs r => by rw [upd_ne (ntup c xs r)]; exact r
      rcases hc with rfl | hc
      · exact hbe
      · rintro rfl
        rcases he with z | z
        · exact nown c b hc z
        · rw [hc] at z; cases z; exact hb rfl
end

/-! ### kept unless tracked; of the frames at fs (the callers') the slots may change (an exception that passes writes there); of the records at ex (iterators) nothing is said -/
structure Un (fs ex : List Addr) (H H' : Hp) (h h' : Heap) : Prop where
  keep : ∀ b o, h.get? b = some o → H b = none → b ∉ fs → b ∉ ex → h'.get? b = some o
  slot : ∀ b o, h.get? b = some o → H b = none → b ∈ fs → b ∉ ex → ∃ sl, h'.get? b = some { o with slots := sl }
  free : ∀ b o, h.get? b = some o → H b = none → b ∉ ex → H' b = none
  there : ∀ b o, h.get? b = some o → b ∉ ex → ∃ o', h'.get? b = some o'
  tups : ∀ b xs, H b = some (.tup xs) → H' b = some (.tup xs)
  frzs : ∀ b o u, H b = some (.frz o u) → H' b = some (.frz o u)
  tbls : ∀ b ps, H b = some (.tbl ps) → ∃ more, H' b = some (.tbl (ps ++ more))
section
variable {fs fs' ex ex' : List Addr} {H H1 H2 : Hp} {h h1 h2 h' : Heap} {a x e : Addr} {o : HO}
theorem Un.any (u : Un fs ex H H1 h h1) {b : Addr} {ob : Obj} (q : h.get? b = some ob) (n : H b = none) (hx : b ∉ ex) : ∃ sl, h1.get? b = some { ob with slots := sl } := by
  by_cases hb : b ∈ fs
  · exact u.slot b ob q n hb hx
  · exact ⟨ob.slots, u.keep b ob q n hb hx⟩
theorem Un.kept (k : ∀ b u, h.get? b = some u → h'.get? b = some u) : Un fs ex H H h h' :=
  ⟨fun b ob q _ _ _ => k b ob q, fun b ob q _ _ _ => ⟨ob.slots, k b ob q⟩, fun _ _ _ n _ => n, fun b ob q _ => ⟨ob, k b ob q⟩, fun _ _ q => q, fun _ _ _ q => q, fun _ ps q => ⟨#[], by rw [q]; simp⟩⟩
theorem Un.refl : Un fs ex H H h h := Un.kept fun _ _ q => q
theorem Un.laid (k : ∀ b u, h.get? b = some u → h'.get? b = some u) (hp : h.objs.size ≤ a) (hn : H a = none) : Un fs ex H (upd H a o) h h' where
  keep := fun b u q _ _ _ => k b u q
  slot := fun b u q _ _ _ => ⟨u.slots, k b u q⟩
  free := fun b u q n _ => by rw [upd_ne (Nat.ne_of_lt (Nat.lt_of_lt_of_le (Heap.lt_size q) hp))]; exact n
  there := fun b u q _ => ⟨u, k b u q⟩
  tups := fun b xs q => by rw [upd_ne (ne_of_none q hn)]; exact q
  frzs := fun b u xs q => by rw [upd_ne (ne_of_none q hn)]; exact q
  tbls := fun b ps q => ⟨#[], by rw [upd_ne (ne_of_none q hn), q]; simp⟩
theorem Un.write (mu : Mut (H x)) (he : e = x ∨ H e = some (.own x)) (k : ∀ b u, b ≠ e → h.get? b = some u → h'.get? b = some u) (heo : ∃ u, h'.get? e = some u) : Un fs ex H (upd H x o) h h' := by
  have hx : ∀ b, H b = none → b ≠ x := fun b n z => by subst z; rw [n] at mu; exact mu
  have hb : ∀ b, H b = none → b ≠ e := fun b n z => by
    subst z
    rcases he with r | r
    · exact hx b n r
    · rw [n] at r; cases r
  have hm : ∀ b u, H b = some u → ¬ Mut (some u) → b ≠ x := fun b u q nm z => by subst z; rw [q] at mu; exact nm mu
  refine ⟨fun b u q n _ _ => k b u (hb b n) q, fun b u q n _ _ => ⟨u.slots, k b u (hb b n) q⟩, fun b u q n _ => by rw [upd_ne (hx b n)]; exact n, fun b u q _ => ?_,
    fun b xs q => by rw [upd_ne (hm b _ q fun z => z)]; exact q, fun b u xs q => by rw [upd_ne (hm b _ q fun z => z)]; exact q, fun b ps q => ⟨#[], by rw [upd_ne (hm b _ q fun z => z), q]; simp⟩⟩
  by_cases hbe : b = e
  · subst hbe; exact heo
  · exact ⟨u, k b u hbe q⟩
end

/-! ### the heap without what is tracked -/
def trk (h : Heap) (H : Hp) : List Addr := (List.range h.objs.size).filter fun a => (H a).isSome
def hidT (h : Heap) (H : Hp) : Heap := PySem.W.hideAll h (trk h H)
theorem hidT_size (h : Heap) (H : Hp) : (hidT h H).objs.size = h.objs.size := PySem.W.hideAll_size _ _
theorem hidT_get {h : Heap} {H : Hp} {b : Addr} {o : Obj} (e : h.get? b = some o) (n : H b = none) : (hidT h H).get? b = some o :=
  PySem.W.hideAll_get _ e fun hm => by
    have q : (H b).isSome = true := (List.mem_filter.mp hm).2
    rw [n] at q; simp at q
theorem of_hidT {h : Heap} {H : Hp} {b : Addr} {o : Obj} (e : (hidT h H).get? b = some o) : h.get? b = some o ∧ H b = none := by
  have e' : h.get? b = some o := PySem.W.of_hideAll (trk h H) e
  refine ⟨e', ?_⟩
  cases q : H b with
  | none => rfl
  | some x =>
    have hm : b ∈ trk h H := List.mem_filter.mpr ⟨List.mem_range.mpr (Heap.lt_size e'), by simp [q]⟩
    have z : (hidT h H).get? b = none := PySem.W.hideAll_none (trk h H) hm
    rw [z] at e; cases e

/-! ### OpenK's ledger, filled with every new object but one -/
end L2

namespace L2
open PySem PySem.Spec PyProof.Rows

/-- the module's facts, over the base: the heap at the law's entry without what is tracked there -/
structure Mod (K : PySem.W.Frag) (mg : Str → Option Value) (base : Heap) : Prop where
  kin : K.In base
  glob : base.Ns mainGlobals mg
  blt : ∃ mb, base.Ns builtinsNs mb ∧ ∀ x : Str, x ≠ "__name__" → mb x = bootBuiltins x
  nolimit : base.NoLimit

/-- the context: a def's body (or a comprehension's block) running. base: fixed through the whole law; s₀, H₀: the entry; outer: the frames whose slots others may change (a def's callers); stack: all frames that run;
   ex: iterators that were made ahead of the entry and are walked here (a comprehension's); fn: the names whose cells were made at the entry (a def: all; a comprehension's block: its own); calm: not within an except suite; pn: pins that every state bears; xe: what is wanted of an exception that leaves the code -/
structure Cx where
  prog : Program
  w : World
  K : PySem.W.Frag
  mg : Str → Option Value
  base : Heap
  A : Around
  N : List Str
  s₀ : Shared
  H₀ : Hp
  env : Env
  outer : List Env
  stack : List Env
  ex : List Addr
  fn : Str → Bool
  calm : Bool
  pn : List (Addr × Obj)
  xe : Value → Shared → Prop
/-- the callers' frames -/
def frs (l : List Env) : List Addr := l.filterMap (·.frame)
abbrev Cx.fs (X : Cx) : List Addr := frs X.outer

def Vis (sc : Scope) (x : Str) : Prop := sc.names.lookup x = some .local ∨ sc.names.lookup x = some .cell ∨ sc.names.lookup x = some .free
def Loc (sc : Scope) (x : Str) : Prop := sc.names.lookup x = some .local ∨ sc.names.lookup x = some .cell
def Look (env : Env) (h : Heap) (m : Str → Option Value) (x : Str) (u : Value) : Prop :=
  (env.kindOf x = some .local ∧ m x = some u) ∨ ((env.kindOf x = some .cell ∨ env.kindOf x = some .free) ∧ ∃ c, env.cells.lookup x = some c ∧ h.IsCell c (some u))

structure Cx.Ok (X : Cx) : Prop where
  mod : Mod X.K X.mg X.base
  kind : X.env.scope.kind = .function
  glob : X.env.globals = mainGlobals
  blt : X.env.builtins = builtinsNs
  above : X.s₀.heap.objs.size ≤ X.env.locals
  inj : ∀ x y c, X.env.cells.lookup x = some c → X.env.cells.lookup y = some c → x = y
  has : ∀ x, (X.env.kindOf x = some .cell ∨ X.env.kindOf x = some .free) → ∃ c, X.env.cells.lookup x = some c
  cab : ∀ x c, X.fn x = true → X.env.cells.lookup x = some c → X.s₀.heap.objs.size ≤ c
  hd : X.calm = true → X.A.handled = none
  frames : X.A.frames = some X.stack
  stk : X.stack = X.outer ∨ (X.stack = X.env :: X.outer ∧ X.env.frame = some X.env.locals)
  exf : ∀ b ∈ X.ex, b ≠ X.env.locals ∧ ∀ x c, X.env.cells.lookup x = some c → c ≠ b
  bs : ∀ b o, X.base.get? b = some o → X.s₀.heap.get? b = some o ∧ X.H₀ b = none
  bsz : X.base.objs.size ≤ X.s₀.heap.objs.size
  noex : ∀ b o, X.base.get? b = some o → b ∉ X.ex
  exfs : ∀ b ∈ X.ex, b ∉ X.fs
  funs : X.s₀.heap.FunFrames X.base X.outer
  frf : ∀ b ∈ X.fs, X.H₀ b = none

structure Inv (X : Cx) (pins : List (Addr × Obj)) (σ : List (Option V)) (H : Hp) (s : Shared) : Prop where
  ok : X.Ok
  os : s.os = X.s₀.os
  bare : AllBare s.gens
  base : Un X.fs X.ex X.H₀ H X.s₀.heap s.heap
  loc : ∃ m, s.heap.Ns X.env.locals m ∧ ∀ (i : Nat) (x : Str) (v : V), X.N[i]? = some x → σ[i]? = some (some v) → Vis X.env.scope x → ∃ u, RelV v u ∧ Look X.env s.heap m x u
  cell : ∀ x c, X.env.cells.lookup x = some c → ∃ v, s.heap.IsCell c v
  free : H X.env.locals = none
  freeC : ∀ x c, X.env.cells.lookup x = some c → H c = none
  pin : ∀ p ∈ X.pn ++ pins, s.heap.get? p.1 = some p.2 ∧ H p.1 = none ∧ p.1 ≠ X.env.locals ∧ p.1 ∉ X.fs ∧ ∀ v, p.2.data ≠ .cell v
  hok : HOk X.prog X.w H s.heap
  len : σ.length = X.N.length

section
variable {X : Cx} {pins : List (Addr × Obj)} {σ : List (Option V)} {H H' : Hp} {s : Shared} {h' : Heap}

theorem Cx.Ok.nofr (ok : X.Ok) {b : Addr} {o : Obj} (e : X.base.get? b = some o) : b ∉ X.fs := fun hb => by
  have := (ok.funs.mem hb).1
  rw [e] at this; cases this
theorem Inv.bs (I : Inv X pins σ H s) : ∀ b o, X.base.get? b = some o → s.heap.get? b = some o ∧ H b = none := fun b o e =>
  ⟨I.base.keep b o (I.ok.bs b o e).1 (I.ok.bs b o e).2 (I.ok.nofr e) (I.ok.noex b o e), I.base.free b o (I.ok.bs b o e).1 (I.ok.bs b o e).2 (I.ok.noex b o e)⟩
theorem Inv.bk (I : Inv X pins σ H s) : ∀ b o, X.base.get? b = some o → s.heap.get? b = some o := fun b o e => (I.bs b o e).1
theorem Inv.mod (I : Inv X pins σ H s) : Mod X.K X.mg X.base := I.ok.mod
theorem Inv.kIn (I : Inv X pins σ H s) : X.K.In s.heap := I.ok.mod.kin.keeps I.bk
theorem Inv.lt (I : Inv X pins σ H s) : X.env.locals < s.heap.objs.size := let ⟨_, hn, _⟩ := I.loc; hn.lt
theorem Inv.sz (I : Inv X pins σ H s) : X.s₀.heap.objs.size ≤ s.heap.objs.size := Nat.le_trans I.ok.above (Nat.le_of_lt I.lt)
theorem Inv.nofs (I : Inv X pins σ H s) {a : Addr} (h : s.heap.objs.size ≤ a) : a ∉ X.fs := fun hb => by
  obtain ⟨_, o, ho, _⟩ := I.ok.funs.mem hb
  exact absurd (Nat.lt_of_lt_of_le (Heap.lt_size ho) (Nat.le_trans I.sz h)) (Nat.lt_irrefl _)
theorem Inv.cne (I : Inv X pins σ H s) : ∀ x c, X.env.cells.lookup x = some c → c ≠ X.env.locals := fun x c e z => by
  obtain ⟨v, o, ho, hd⟩ := I.cell x c e
  obtain ⟨m, ⟨o', es, ep, ho', hd', _⟩, _⟩ := I.loc
  rw [z, ho'] at ho; cases ho; rw [hd'] at hd; cases hd
theorem Inv.funs (I : Inv X pins σ H s) : s.heap.FunFrames X.base X.outer := by
  have all : ∀ (l : List Env), (∀ b ∈ frs l, b ∈ X.fs) → X.s₀.heap.FunFrames X.base l → s.heap.FunFrames X.base l := by
    intro l
    induction l with
    | nil => intro _ _; trivial
    | cons env r ih =>
      intro hs hl
      obtain ⟨hk, ⟨L, o, hf, hn, ho, hd⟩, hr⟩ := hl
      have hL : L ∈ X.fs := hs L (by unfold frs; rw [List.filterMap_cons, hf]; exact List.mem_cons_self)
      obtain ⟨sl, e⟩ := I.base.slot L o ho (I.ok.frf L hL) hL fun z => I.ok.exfs L z hL
      exact ⟨hk, ⟨L, _, hf, hn, e, hd⟩, ih (fun b hb => hs b (by unfold frs; rw [List.filterMap_cons, hf]; exact List.mem_cons_of_mem _ hb)) hr⟩
  exact all X.outer (fun _ hb => hb) I.ok.funs

/-- the frames that run, for a call -/
theorem Inv.stack (I : Inv X pins σ H s) : s.heap.FunFrames X.base X.stack := by
  rcases I.ok.stk with e | ⟨e, hf⟩
  · rw [e]; exact I.funs
  · rw [e]
    obtain ⟨m, hn, _⟩ := I.loc
    refine .cons (by rw [I.ok.kind]; decide) hf hn ?_ I.funs
    exact Heap.get?_none_of_le (Nat.le_trans I.ok.bsz I.ok.above)
theorem Inv.stkSub (I : Inv X pins σ H s) : ∀ b ∈ frs X.stack, b ∈ X.env.locals :: X.fs := fun b hb => by
  rcases I.ok.stk with e | ⟨e, hf⟩
  · rw [e] at hb; exact List.mem_cons_of_mem _ hb
  · rw [e] at hb
    unfold frs at hb
    rw [List.filterMap_cons, hf] at hb
    exact hb
theorem Inv.stkFree (I : Inv X pins σ H s) : ∀ b ∈ frs X.stack, H b = none := fun b hb => by
  rcases List.mem_cons.mp (I.stkSub b hb) with e | hb
  · rw [e]; exact I.free
  · obtain ⟨_, o, ho, _⟩ := I.ok.funs.mem hb
    exact I.base.free b o ho (I.ok.frf b hb) fun z => I.ok.exfs b z hb

/-- THE STEP: the untracked objects but the frame and the records at ch are kept (the callers' frames up to slots), the frame's map is kept, the new abstract heap is held -/
theorem Inv.step {g' : Array GenState} {t' : Nat} {d' : Drawn} {ch : List Addr} (I : Inv X pins σ H s)
    (hch : ∀ b ∈ ch, (b ∈ X.ex ∨ X.s₀.heap.objs.size ≤ b) ∧ b ≠ X.env.locals ∧ (∀ x c, X.env.cells.lookup x = some c → c ≠ b) ∧ ∀ p ∈ X.pn ++ pins, p.1 ≠ b)
    (keep : ∀ b o, b ≠ X.env.locals → b ∉ X.fs → b ∉ ch → s.heap.get? b = some o → H b = none → h'.get? b = some o)
    (slot : ∀ b o, b ≠ X.env.locals → b ∈ X.fs → b ∉ ch → s.heap.get? b = some o → H b = none → ∃ sl, h'.get? b = some { o with slots := sl }) (free : ∀ b o, b ∉ ch → s.heap.get? b = some o → H b = none → H' b = none)
    (there : ∀ b o, b ∉ ch → s.heap.get? b = some o → ∃ o', h'.get? b = some o')
    (tups : ∀ b xs, H b = some (.tup xs) → H' b = some (.tup xs)) (frzs : ∀ b o u, H b = some (.frz o u) → H' b = some (.frz o u)) (tbls : ∀ b ps, H b = some (.tbl ps) → ∃ more, H' b = some (.tbl (ps ++ more)))
    (ns : ∀ m, s.heap.Ns X.env.locals m → h'.Ns X.env.locals m) (hok : HOk X.prog X.w H' h') (hg : AllBare g') :
    Inv X pins σ H' { s with heap := h', gens := g', drawn := d', toks := t' } := by
  have neL : ∀ b o, X.s₀.heap.get? b = some o → b ≠ X.env.locals := fun b o e => Nat.ne_of_lt (Nat.lt_of_lt_of_le (Heap.lt_size e) I.ok.above)
  have neC : ∀ b o, X.s₀.heap.get? b = some o → b ∉ X.ex → b ∉ ch := fun b o e hx hb => by
    rcases (hch b hb).1 with z | z
    · exact hx z
    · exact absurd (Nat.lt_of_lt_of_le (Heap.lt_size e) z) (Nat.lt_irrefl _)
  have cellK : ∀ x c, X.env.cells.lookup x = some c → ∀ v, s.heap.IsCell c v → h'.IsCell c v := fun x c e v ⟨o, ho, hd⟩ => by
    have nch : c ∉ ch := fun z => (hch c z).2.2.1 x c e rfl
    by_cases hc : c ∈ X.fs
    · obtain ⟨sl, q⟩ := slot c o (I.cne x c e) hc nch ho (I.freeC x c e)
      exact ⟨_, q, hd⟩
    · exact ⟨o, keep c o (I.cne x c e) hc nch ho (I.freeC x c e), hd⟩
  refine ⟨I.ok, I.os, hg, ⟨fun b o e n hb hx => ?_, fun b o e n hb hx => ?_, fun b o e n hx => ?_, fun b o e hx => ?_, fun b xs e => tups b xs (I.base.tups b xs e), fun b o xs e => frzs b o xs (I.base.frzs b o xs e), fun b ps e => ?_⟩, ?_, fun x c e => ?_, ?_, fun x c e => ?_, fun p hp => ?_, hok, I.len⟩
  · exact keep b o (neL b o e) hb (neC b o e hx) (I.base.keep b o e n hb hx) (I.base.free b o e n hx)
  · obtain ⟨sl, e1⟩ := I.base.slot b o e n hb hx
    obtain ⟨sl', e2⟩ := slot b _ (neL b o e) hb (neC b o e hx) e1 (I.base.free b o e n hx)
    exact ⟨sl', e2⟩
  · obtain ⟨o', e1⟩ := I.base.there b o e hx
    exact free b o' (neC b o e hx) e1 (I.base.free b o e n hx)
  · obtain ⟨o', e1⟩ := I.base.there b o e hx
    exact there b o' (neC b o e hx) e1
  · obtain ⟨m1, e1⟩ := I.base.tbls b ps e
    obtain ⟨m2, e2⟩ := tbls b _ e1
    exact ⟨m1 ++ m2, by rw [e2, Array.append_assoc]⟩
  · obtain ⟨m, hn, hl⟩ := I.loc
    refine ⟨m, ns m hn, fun i x v e1 e2 e3 => ?_⟩
    obtain ⟨u, r, l⟩ := hl i x v e1 e2 e3
    refine ⟨u, r, ?_⟩
    rcases l with l | ⟨k, c, e, z⟩
    · exact .inl l
    · exact .inr ⟨k, c, e, cellK x c e _ z⟩
  · obtain ⟨v, z⟩ := I.cell x c e
    exact ⟨v, cellK x c e v z⟩
  · obtain ⟨m, ⟨o, _, _, ho, _⟩, _⟩ := I.loc
    exact free _ o (fun z => (hch _ z).2.1 rfl) ho I.free
  · obtain ⟨v, o, ho, hd⟩ := I.cell x c e
    exact free c o (fun z => (hch c z).2.2.1 x c e rfl) ho (I.freeC x c e)
  · obtain ⟨e, n, ne, nf, d⟩ := I.pin p hp
    have nch : p.1 ∉ ch := fun z => (hch p.1 z).2.2.2 p hp rfl
    exact ⟨keep p.1 p.2 ne nf nch e n, free p.1 p.2 nch e n, ne, nf, d⟩
/-- .. where the frame's own object is kept too -/
theorem Inv.un {t' : Nat} (I : Inv X pins σ H s) (u : Un X.fs [] H H' s.heap h') (hok : HOk X.prog X.w H' h') : Inv X pins σ H' { s with heap := h', toks := t' } := by
  obtain ⟨m, ⟨o, es, ep, ho, r⟩, _⟩ := id I.loc
  obtain ⟨sl, hL⟩ := u.any ho I.free (by simp)
  exact I.step (g' := s.gens) (d' := s.drawn) (ch := []) (fun _ z => nomatch z) (fun b o _ hb _ e n => u.keep b o e n hb (by simp)) (fun b o _ hb _ e n => u.slot b o e n hb (by simp)) (fun b o _ e n => u.free b o e n (by simp)) (fun b o _ e => u.there b o e (by simp)) u.tups u.frzs u.tbls (fun m' hm => by
    obtain ⟨o', es', ep', ho', r'⟩ := hm
    rw [ho] at ho'; cases ho'
    exact ⟨_, es', ep', hL, r'⟩) hok I.bare
/-- behind a call (or a comprehension's block): the slots of this frame may have changed too, the records at ch may have turned -/
theorem Inv.call {g' : Array GenState} {t' : Nat} {d' : Drawn} {ch : List Addr} (I : Inv X pins σ H s) (u : Un (frs X.stack) ch H H' s.heap h') (hok : HOk X.prog X.w H' h') (hg : AllBare g')
    (hch : ∀ b ∈ ch, (b ∈ X.ex ∨ X.s₀.heap.objs.size ≤ b) ∧ b ≠ X.env.locals ∧ (∀ x c, X.env.cells.lookup x = some c → c ≠ b) ∧ ∀ p ∈ X.pn ++ pins, p.1 ≠ b) :
    Inv X pins σ H' { s with heap := h', gens := g', drawn := d', toks := t' } := by
  obtain ⟨m, ⟨o, es, ep, ho, r⟩, _⟩ := id I.loc
  obtain ⟨sl, hL⟩ := u.any ho I.free fun z => (hch _ z).2.1 rfl
  exact I.step (ch := ch) hch (fun b o hL hb hc e n => u.keep b o e n (fun z => (List.mem_cons.mp (I.stkSub b z)).elim hL hb) hc) (fun b o _ _ hc e n => u.any e n hc) (fun b o hc e n => u.free b o e n hc) (fun b o hc e => u.there b o e hc) u.tups u.frzs u.tbls (fun m' hm => by
    obtain ⟨o', es', ep', ho', r'⟩ := hm
    rw [ho] at ho'; cases ho'
    exact ⟨_, es', ep', hL, r'⟩) hok hg
/-- an untracked record of ours (an iterator) has turned -/
theorem Inv.turned {t' : Nat} {it : Addr} (I : Inv X pins σ H s) (k : ∀ b o, b ≠ it → s.heap.get? b = some o → h'.get? b = some o) (hn : H it = none) (hL : it ≠ X.env.locals)
    (h1 : it ∈ X.ex ∨ X.s₀.heap.objs.size ≤ it) (h2 : ∀ x c, X.env.cells.lookup x = some c → c ≠ it) (h3 : ∀ p ∈ X.pn ++ pins, p.1 ≠ it) : Inv X pins σ H { s with heap := h', toks := t' } := by
  have nit : ∀ b u, H b = some u → b ≠ it := fun b u e z => by rw [z, hn] at e; cases e
  refine I.step (g' := s.gens) (d' := s.drawn) (ch := [it]) (fun b hb => ?_) (fun b o _ _ hc e _ => k b o (fun z => hc (by simp [z])) e) (fun b o _ _ hc e _ => ⟨o.slots, k b o (fun z => hc (by simp [z])) e⟩) (fun _ _ _ _ n => n)
    (fun b o hc e => ⟨o, k b o (fun z => hc (by simp [z])) e⟩) (fun _ _ e => e) (fun _ _ _ e => e) (fun b ps e => ⟨#[], by rw [e]; simp⟩) (fun m hm => ?_) (fun b u e => ?_) I.bare
  · have e : b = it := by simpa using hb
    subst e
    exact ⟨h1, hL, h2, h3⟩
  · obtain ⟨o, es, ep, ho, r⟩ := hm
    exact ⟨o, es, ep, k _ o (Ne.symm hL) ho, r⟩
  · refine (I.hok b u e).stay (fun c v hc q => k c v ?_ q) (fun _ q => q) fun _ _ q => q
    rcases hc with z | z
    · rw [z]; exact nit b u e
    · exact nit c _ z
theorem Inv.tok (I : Inv X pins σ H s) (t : Nat) : Inv X pins σ H { s with toks := t } := I.un (h' := s.heap) (t' := t) Un.refl I.hok
/-- all objects kept -/
theorem Inv.kept {t' : Nat} (I : Inv X pins σ H s) (k : ∀ b u, s.heap.get? b = some u → h'.get? b = some u) : Inv X pins σ H { s with heap := h', toks := t' } := I.un (Un.kept k) (I.hok.kept k)
/-- a new object laid and tracked -/
theorem Inv.laid {a : Addr} {o : HO} {t' : Nat} (I : Inv X pins σ H s) (k : ∀ b u, s.heap.get? b = some u → h'.get? b = some u) (hp : s.heap.objs.size ≤ a) (new : ObjOk X.prog X.w (upd H a o) h' a o) :
    Inv X pins σ (upd H a o) { s with heap := h', toks := t' } := I.un (Un.laid k hp (I.hok.fresh hp)) (I.hok.laid k hp new)
/-- an object written -/
theorem Inv.write {x e : Addr} {o : HO} {t' : Nat} (I : Inv X pins σ H s) (mu : Mut (H x)) (he : e = x ∨ H e = some (.own x)) (k : ∀ b u, b ≠ e → s.heap.get? b = some u → h'.get? b = some u) (heo : ∃ u, h'.get? e = some u)
    (new : ObjOk X.prog X.w (upd H x o) h' x o) : Inv X pins σ (upd H x o) { s with heap := h', toks := t' } := I.un (Un.write mu he k heo) (I.hok.write mu he k heo new)
theorem Inv.pins_of {pins' : List (Addr × Obj)} (I : Inv X pins σ H s) (h : ∀ p ∈ pins', s.heap.get? p.1 = some p.2 ∧ H p.1 = none ∧ p.1 ≠ X.env.locals ∧ p.1 ∉ X.fs ∧ ∀ v, p.2.data ≠ .cell v) : Inv X pins' σ H s :=
  ⟨I.ok, I.os, I.bare, I.base, I.loc, I.cell, I.free, I.freeC, fun p hp => (List.mem_append.mp hp).elim (fun z => I.pin p (List.mem_append_left _ z)) (h p), I.hok, I.len⟩

theorem nodup_ix {N : List Str} (hN : N.Nodup) {i j : Nat} {x : Str} (a : N[i]? = some x) (b : N[j]? = some x) : i = j := by
  obtain ⟨h1, e1⟩ := List.getElem?_eq_some_iff.mp a
  obtain ⟨h2, e2⟩ := List.getElem?_eq_some_iff.mp b
  exact (List.getElem_inj hN).mp (e1.trans e2.symm)

/-- a name is stored; what changed -/
theorem store_ok2 {M : Model} {A : Around} {E : Value → Shared → Prop} {i : Nat} {x : Str} {v : V} {u : Value} {Q : Unit → Shared → Prop} (I : Inv X pins σ H s) (hN : X.N.Nodup) (hi : X.N[i]? = some x) (hx : Loc X.env.scope x) (r : RelV v u)
    (h : ∀ s', Inv X pins (σ.set i (some v)) H s' → (∃ a, Heap.SameBut a s.heap s'.heap ∧ (a = X.env.locals ∨ X.env.cells.lookup x = some a)) → Q () s') (hf : X.fn x = true ∨ X.env.scope.names.lookup x = some .local := by first | exact .inl rfl | exact .inr rfl | assumption) : wpAny M A (storeName X.env x u) Q E s := by
  obtain ⟨m, hn, hl⟩ := id I.loc
  have hcls : (X.env.scope.kind == .class || (X.env.scope.kind == .module && X.env.locals != X.env.globals)) = false := by rw [I.ok.kind]; rfl
  have hiσ : i < σ.length := by rw [I.len]; exact (List.getElem?_eq_some_iff.mp hi).1
  have cne := I.cne
  have tracked : ∀ {a : Addr} {h' : Heap}, (∃ o, s.heap.get? a = some o ∧ H a = none) → Heap.SameBut a s.heap h' → HOk X.prog X.w H h' := fun {a h'} ha hs b ob e => by
    obtain ⟨_, _, hfree⟩ := ha
    refine (I.hok b ob e).stay (fun c w' hc q => (hs.2 c ?_).trans q) (fun _ q => q) fun _ _ q => q
    rintro rfl
    rcases hc with rfl | hc
    · rw [hfree] at e; cases e
    · rw [hfree] at hc; cases hc
  rcases hx with hk | hk
  · refine wpAny_storeName_local hk hn (fun h' hn' hs => ?_) hcls
    obtain ⟨oL, _, _, hoL, _⟩ := id hn
    refine h _ ⟨I.ok, I.os, I.bare, ⟨fun b o e n hb hx => ?_, fun b o e n hb hx => ?_, I.base.free, fun b o e hx => ?_, I.base.tups, I.base.frzs, I.base.tbls⟩, ⟨_, hn', fun j y v' e1 e2 e3 => ?_⟩, fun y c e => ?_, I.free, I.freeC, fun p hp => ?_, tracked ⟨oL, hoL, I.free⟩ hs, by simpa using I.len⟩ ⟨_, hs, .inl rfl⟩
    · exact (hs.2 b (Nat.ne_of_lt (Nat.lt_of_lt_of_le (Heap.lt_size e) I.ok.above))).trans (I.base.keep b o e n hb hx)
    · obtain ⟨sl, e1⟩ := I.base.slot b o e n hb hx
      exact ⟨sl, (hs.2 b (Nat.ne_of_lt (Nat.lt_of_lt_of_le (Heap.lt_size e) I.ok.above))).trans e1⟩
    · obtain ⟨o', e1⟩ := I.base.there b o e hx
      exact ⟨o', (hs.2 b (Nat.ne_of_lt (Nat.lt_of_lt_of_le (Heap.lt_size e) I.ok.above))).trans e1⟩
    · by_cases hj : j = i
      · subst hj
        rw [hi] at e1; cases e1
        rw [List.getElem?_set_self hiσ] at e2
        cases e2
        exact ⟨u, r, .inl ⟨hk, by simp⟩⟩
      · rw [List.getElem?_set_ne (Ne.symm hj)] at e2
        obtain ⟨u', r', q⟩ := hl j y v' e1 e2 e3
        refine ⟨u', r', ?_⟩
        rcases q with ⟨k, e⟩ | ⟨k, c, e, z⟩
        · refine .inl ⟨k, ?_⟩
          have : y ≠ x := fun e => hj (nodup_ix hN e1 (e ▸ hi))
          simp [this, e]
        · exact .inr ⟨k, c, e, z.sameBut hs (cne y c e)⟩
    · obtain ⟨w', z⟩ := I.cell y c e
      exact ⟨w', z.sameBut hs (cne y c e)⟩
    · obtain ⟨e, n, ne, nf, d⟩ := I.pin p hp
      exact ⟨(hs.2 p.1 ne).trans e, n, ne, nf, d⟩
  · have hfn : X.fn x = true := by
      rcases hf with z | z
      · exact z
      · rw [z] at hk; cases hk
    obtain ⟨c, hc⟩ := I.ok.has x (.inl hk)
    obtain ⟨w', z⟩ := I.cell x c hc
    refine wpAny_storeName_cell I.ok.kind hk hc z (fun h' hc' hs => ?_)
    obtain ⟨oc, hoc, hocd⟩ := id z
    refine h { s with heap := h' } ⟨I.ok, I.os, I.bare, ⟨fun b o e n hb hx => ?_, fun b o e n hb hx => ?_, I.base.free, fun b o e hx => ?_, I.base.tups, I.base.frzs, I.base.tbls⟩, ⟨m, hn.sameBut hs (Ne.symm (cne x c hc)), fun j y v' e1 e2 e3 => ?_⟩, fun y c' e => ?_, I.free, I.freeC, fun p hp => ?_, tracked ⟨oc, hoc, I.freeC x c hc⟩ hs, by simpa using I.len⟩ ⟨c, hs, .inr hc⟩
    · exact (hs.2 b (Nat.ne_of_lt (Nat.lt_of_lt_of_le (Heap.lt_size e) (I.ok.cab x c hfn hc)))).trans (I.base.keep b o e n hb hx)
    · obtain ⟨sl, e1⟩ := I.base.slot b o e n hb hx
      exact ⟨sl, (hs.2 b (Nat.ne_of_lt (Nat.lt_of_lt_of_le (Heap.lt_size e) (I.ok.cab x c hfn hc)))).trans e1⟩
    · obtain ⟨o', e1⟩ := I.base.there b o e hx
      exact ⟨o', (hs.2 b (Nat.ne_of_lt (Nat.lt_of_lt_of_le (Heap.lt_size e) (I.ok.cab x c hfn hc)))).trans e1⟩
    · by_cases hj : j = i
      · subst hj
        rw [hi] at e1; cases e1
        rw [List.getElem?_set_self hiσ] at e2
        cases e2
        exact ⟨u, r, .inr ⟨.inl hk, c, hc, hc'⟩⟩
      · rw [List.getElem?_set_ne (Ne.symm hj)] at e2
        obtain ⟨u', r', q⟩ := hl j y v' e1 e2 e3
        refine ⟨u', r', ?_⟩
        rcases q with q | ⟨k, c', e, z'⟩
        · exact .inl q
        · refine .inr ⟨k, c', e, z'.sameBut hs ?_⟩
          rintro rfl
          exact hj (nodup_ix hN e1 (I.ok.inj _ _ _ e hc ▸ hi))
    · by_cases hcc : c' = c
      · subst hcc; exact ⟨_, hc'⟩
      · obtain ⟨w2, z2⟩ := I.cell y c' e
        exact ⟨w2, z2.sameBut hs hcc⟩
    · obtain ⟨e, n, ne, nf, d⟩ := I.pin p hp
      refine ⟨(hs.2 p.1 ?_).trans e, n, ne, nf, d⟩
      intro q
      rw [q, hoc] at e
      have q' : oc = p.2 := Option.some.inj e
      exact d w' (by rw [← q']; exact hocd)
theorem store_ok {M : Model} {A : Around} {E : Value → Shared → Prop} {i : Nat} {x : Str} {v : V} {u : Value} {Q : Unit → Shared → Prop} (I : Inv X pins σ H s) (hN : X.N.Nodup) (hi : X.N[i]? = some x) (hx : Loc X.env.scope x) (r : RelV v u)
    (h : ∀ s', Inv X pins (σ.set i (some v)) H s' → Q () s') (hf : X.fn x = true ∨ X.env.scope.names.lookup x = some .local := by first | exact .inl rfl | exact .inr rfl | assumption) : wpAny M A (storeName X.env x u) Q E s :=
  store_ok2 I hN hi hx r (fun s' I' _ => h s' I') hf
/-- behind a call or a block, the state as it is -/
theorem Inv.call' {s' : Shared} {ch : List Addr} (I : Inv X pins σ H s) (ho : s'.os = s.os) (u : Un (frs X.stack) ch H H' s.heap s'.heap) (hok : HOk X.prog X.w H' s'.heap) (hg : AllBare s'.gens)
    (hch : ∀ b ∈ ch, (b ∈ X.ex ∨ X.s₀.heap.objs.size ≤ b) ∧ b ≠ X.env.locals ∧ (∀ x c, X.env.cells.lookup x = some c → c ≠ b) ∧ ∀ p ∈ X.pn ++ pins, p.1 ≠ b) : Inv X pins σ H' s' := by
  obtain ⟨h', g', d', t', o'⟩ := s'
  have e : o' = s.os := ho
  subst e
  exact I.call (g' := g') (t' := t') (d' := d') u hok hg hch
end

/-! ### the judgements -/
/-- an exception: its class, its own dict's address (where it has one), the abstract heap behind it -/
abbrev XK := Value → Option Addr → Hp → Prop
abbrev St := List (Option V)
abbrev VK := V → Hp → Prop
/-- an expression's reading; a test's; an argument list's -/
abbrev TE := St → Hp → VK → Prop
abbrev TT := St → Hp → (Bool → Hp → Prop) → Prop
abbrev TA := St → Hp → (List V → Hp → Prop) → Prop
/-- what is wanted behind a statement -/
structure Ends where
  nx : St → Hp → Prop
  rt : VK
  bk : St → Hp → Prop := fun _ _ => False
  ct : St → Hp → Prop := fun _ _ => False
abbrev TS := Ends → St → Hp → Prop

def EP (X : Cx) (pins : List (Addr × Obj)) (σ : St) (Q : VK) (u : Value) (s' : Shared) : Prop := ∃ v H', Inv X pins σ H' s' ∧ RelV v u ∧ Q v H'
def TP (X : Cx) (pins : List (Addr × Obj)) (σ : St) (Q : Bool → Hp → Prop) (b : Bool) (s' : Shared) : Prop := ∃ H', Inv X pins σ H' s' ∧ Q b H'
def AP (X : Cx) (pins : List (Addr × Obj)) (σ : St) (Q : List V → Hp → Prop) (us : List Value) (s' : Shared) : Prop := ∃ vs H', Inv X pins σ H' s' ∧ Vals vs us ∧ Q vs H'
def SP (X : Cx) (pins : List (Addr × Obj)) (D : Ends) (f : Flow) (s' : Shared) : Prop :=
  match f with
  | .next => ∃ σ' H', Inv X pins σ' H' s' ∧ D.nx σ' H'
  | .brk => ∃ σ' H', Inv X pins σ' H' s' ∧ D.bk σ' H'
  | .cont => ∃ σ' H', Inv X pins σ' H' s' ∧ D.ct σ' H'
  | .ret u => ∃ v σ' H', Inv X pins σ' H' s' ∧ RelV v u ∧ D.rt v H'

def PE (X : Cx) (e : Expr) (t : TE) : Prop :=
  ∀ (pins : List (Addr × Obj)) (s : Shared) (σ : St) (H : Hp) (Q : VK), Inv X pins σ H s → t σ H Q → wpAny (model X.prog X.w) X.A (eval e X.env) (EP X pins σ Q) X.xe s
def PT (X : Cx) (e : Expr) (t : TT) : Prop :=
  ∀ (pins : List (Addr × Obj)) (s : Shared) (σ : St) (H : Hp) (Q : Bool → Hp → Prop), Inv X pins σ H s → t σ H Q → wpAny (model X.prog X.w) X.A (isTrue e X.env (eval e X.env)) (TP X pins σ Q) X.xe s
/-- a test whatever its 'whole' is (and, or) -/
def PW (X : Cx) (e : Expr) (t : TT) : Prop :=
  ∀ (whole : Sem Value) (pins : List (Addr × Obj)) (s : Shared) (σ : St) (H : Hp) (Q : Bool → Hp → Prop), Inv X pins σ H s → t σ H Q → wpAny (model X.prog X.w) X.A (isTrue e X.env whole) (TP X pins σ Q) X.xe s
theorem PW.pt {X : Cx} {e : Expr} {t : TT} (h : PW X e t) : PT X e t := h _
/-- an argument list (no star), from the left -/
def PA (X : Cx) (es : List Expr) (t : TA) : Prop :=
  ∀ (pos : Pos) (pins : List (Addr × Obj)) (s : Shared) (σ : St) (H : Hp) (Q : List V → Hp → Prop), Inv X pins σ H s → t σ H Q → wpAny (model X.prog X.w) X.A (spliced (backTo pos (starEach es X.env))) (AP X pins σ Q) X.xe s
def PS (X : Cx) (st : Stmt) (t : TS) : Prop :=
  ∀ (pins : List (Addr × Obj)) (s : Shared) (σ : St) (H : Hp) (D : Ends), Inv X pins σ H s → t D σ H → wpAny (model X.prog X.w) X.A (exec st X.env) (SP X pins D) X.xe s
def PSs (X : Cx) (st : List Stmt) (t : TS) : Prop :=
  ∀ (pins : List (Addr × Obj)) (s : Shared) (σ : St) (H : Hp) (D : Ends), Inv X pins σ H s → t D σ H → wpAny (model X.prog X.w) X.A (execs st X.env) (SP X pins D) X.xe s
/-- weaken the end -/
theorem thn {α : Type} {t : Sem α} {Q Q' : α → Shared → Prop} {M : Model} {A : Around} {E : Value → Shared → Prop} {s : Shared} (h : wpAny M A t Q E s) (hQ : ∀ a s, Q a s → Q' a s) : wpAny M A t Q' E s := wpAny_mono h hQ fun _ _ x => x
end L2

namespace L2
open PySem PySem.Spec PyProof.Rows
section
variable {X : Cx}


/-! ### names and constants -/
def tVar (i : Nat) : TE := fun σ H Q => ∃ v, σ[i]? = some (some v) ∧ Q v H
def tC (v : V) : TE := fun _ H Q => Q v H
theorem pe_var {i : Nat} {x : Str} {pos : Pos} (hN : X.N[i]? = some x) (hv : Vis X.env.scope x) (hd : (x == ("__debug__" : Str)) = false := by decide) (hcd : (x == ("__classdict__" : Str)) = false := by decide) : PE X (.Name x pos) (tVar i) := by
  intro pins s σ H Q I h
  obtain ⟨v, e, h⟩ := h
  obtain ⟨m, hn, hl⟩ := I.loc
  obtain ⟨u, r, l⟩ := hl i x v hN e hv
  have fin : EP X pins σ Q u s := ⟨v, H, I, r, h⟩
  rcases l with ⟨hk, hm⟩ | ⟨hk, c, hc, hcell⟩
  · exact wpAny_Name (wpAny_loadName_local I.ok.kind hk hn hm fin) hd
  · rcases hk with hk | hk
    · exact wpAny_Name (wpAny_loadName_cell I.ok.kind hk hc hcell fin) hd
    · exact wpAny_Name (wpAny_loadName_free I.ok.kind hk hc hcell fin hcd) hd
theorem pe_int {i j pos} : PE X (.Constant (.int i) j pos) (tC (.int i)) := fun _ _ _ H _ I h => wpAny_Constant_int ⟨.int i, H, I.tok _, ⟨_, rfl⟩, h⟩
theorem pe_bl {b j pos} : PE X (.Constant (.bool b) j pos) (tC (.bl b)) := fun _ _ _ H _ I h => Constant_bool ⟨.bl b, H, I, rfl, h⟩
theorem pe_non {j pos} : PE X (.Constant .none j pos) (tC .non) := fun _ _ _ H _ I h => Constant_none ⟨.non, H, I, rfl, h⟩
theorem pe_str {x j pos} : PE X (.Constant (.str x) j pos) (tC (.str x)) := fun _ _ _ H _ I h => Calls.Constant_str ⟨.str x, H, I.tok _, ⟨_, rfl⟩, h⟩

/-- a global name of the def -/
def Gl (X : Cx) (x : Str) : Prop := X.env.kindOf x = some .globalImplicit
theorem ld_glob {E : Value → Shared → Prop} {pins : List (Addr × Obj)} {s : Shared} {σ : St} {H : Hp} {x : Str} {u : Value} {pos : Pos} {Q : Value → Shared → Prop} (I : Inv X pins σ H s) (hg : Gl X x) (hm : X.mg x = some u) (h : Q u s)
    (hd : (x == ("__debug__" : Str)) = false := by decide) : wpAny (model X.prog X.w) X.A (eval (.Name x pos) X.env) Q E s :=
  Calls.Name_function_global I.ok.kind hg (Calls.loadGlobal_global (by rw [I.ok.glob]; exact I.mod.glob.keeps I.bk) hm h) hd
theorem ld_blt {E : Value → Shared → Prop} {pins : List (Addr × Obj)} {s : Shared} {σ : St} {H : Hp} {x : Str} {u : Value} {pos : Pos} {Q : Value → Shared → Prop} (I : Inv X pins σ H s) (hg : Gl X x) (hm : X.mg x = none) (hv : bootBuiltins x = some u) (h : Q u s)
    (hn : x ≠ "__name__" := by decide) (hd : (x == ("__debug__" : Str)) = false := by decide) : wpAny (model X.prog X.w) X.A (eval (.Name x pos) X.env) Q E s := by
  obtain ⟨mb, h1, h2⟩ := I.mod.blt
  exact Calls.Name_function_global I.ok.kind hg (Calls.loadGlobal_builtin (by rw [I.ok.glob]; exact I.mod.glob.keeps I.bk) hm (by rw [I.ok.blt]; exact h1.keeps I.bk) ((h2 x hn).trans hv) h) hd
/-- a module's constant, a class, a function, as a value -/
theorem pe_glob {x : Str} {v : V} {u : Value} {pos : Pos} (hg : Gl X x) (hm : X.mg x = some u) (r : RelV v u) (hd : (x == ("__debug__" : Str)) = false := by decide) : PE X (.Name x pos) (tC v) :=
  fun _ _ _ H _ I h => ld_glob I hg hm ⟨v, H, I, r, h⟩ hd
theorem pe_bltn {x : Str} {v : V} {u : Value} {pos : Pos} (hg : Gl X x) (hm : X.mg x = none) (hv : bootBuiltins x = some u) (r : RelV v u) (hn : x ≠ "__name__" := by decide) (hd : (x == ("__debug__" : Str)) = false := by decide) : PE X (.Name x pos) (tC v) :=
  fun _ _ _ H _ I h => ld_blt I hg hm hv ⟨v, H, I, r, h⟩ hn hd

/-! ### arithmetic -/
variable {a b : Expr} {ta tb : TE} {pos : Pos}

/-! ### comparisons -/
def PC (X : Cx) (op : CmpOp) (a b : Expr) (t : TE) : Prop :=
  ∀ (pins : List (Addr × Obj)) (s : Shared) (σ : St) (H : Hp) (Q : VK), Inv X pins σ H s → t σ H Q →
    wpAny (model X.prog X.w) X.A (eval a X.env) (fun v s₁ => wpAny (model X.prog X.w) X.A (eval b X.env) (fun u s₂ => wpAny (model X.prog X.w) X.A (compareOp op v u) (EP X pins σ Q) X.xe s₂) X.xe s₁) X.xe s
/-- a comparison as a value, as a test -/
def tB (t : TE) : TT := fun σ H Q => t σ H fun x H1 => ∃ c, x = .bl c ∧ Q c H1
/-- an expression whose value is a bool, as a test -/
theorem pt_val {e : Expr} {t : TE} (h : PE X e t) (he : ∀ whole, isTrue e X.env whole = (do let v ← whole; standAt e.pos; holding [v] (truthy v)) := by intro _; rfl) : PT X e (tB t) := by
  intro pins s σ H Q I hw
  refine isTrue_plain (thn (h pins s σ H _ I hw) fun v s1 ⟨x, H1, I1, r1, q1⟩ => ?_) (he _)
  obtain ⟨d, rfl, q⟩ := q1
  cases r1
  exact wpAny_truthy_bool ⟨H1, I1, q⟩

/-! ### and, or, not -/
variable {tA tB' : TT} {rest : List Expr}
def tAnd (t u : TT) : TT := fun σ H Q => t σ H fun c H1 => if c = true then u σ H1 Q else Q false H1
def tOr (t u : TT) : TT := fun σ H Q => t σ H fun c H1 => if c = true then Q true H1 else u σ H1 Q
def tNot (t : TT) : TT := fun σ H Q => t σ H fun c H1 => Q (!c) H1
theorem pw_and1 (ha : PT X a tA) : PW X (.BoolOp .And [a] pos) tA := by
  intro wh pins s σ H Q I h
  refine isTrue_and (thn (ha pins s σ H Q I h) fun c s1 e => ?_)
  cases c with
  | true => exact isTrue_and_nil e
  | false => exact e
theorem pw_or1 (ha : PT X a tA) : PW X (.BoolOp .Or [a] pos) tA := by
  intro wh pins s σ H Q I h
  refine isTrue_or (thn (ha pins s σ H Q I h) fun c s1 e => ?_)
  cases c with
  | false => exact isTrue_or_nil e
  | true => exact e
theorem pw_and (ha : PT X a tA) (hb : PW X (.BoolOp .And (b :: rest) pos) tB') : PW X (.BoolOp .And (a :: b :: rest) pos) (tAnd tA tB') := by
  intro wh pins s σ H Q I h
  refine isTrue_and (thn (ha pins s σ H _ I h) fun c s1 ⟨H1, I1, q1⟩ => ?_)
  cases c with
  | true => exact hb wh pins s1 σ H1 Q I1 q1
  | false => exact ⟨H1, I1, q1⟩
theorem pw_or (ha : PT X a tA) (hb : PW X (.BoolOp .Or (b :: rest) pos) tB') : PW X (.BoolOp .Or (a :: b :: rest) pos) (tOr tA tB') := by
  intro wh pins s σ H Q I h
  refine isTrue_or (thn (ha pins s σ H _ I h) fun c s1 ⟨H1, I1, q1⟩ => ?_)
  cases c with
  | true => exact ⟨H1, I1, q1⟩
  | false => exact hb wh pins s1 σ H1 Q I1 q1
theorem pt_not (ha : PT X a tA) : PT X (.UnaryOp .Not a pos) (tNot tA) := by
  intro pins s σ H Q I h
  exact isTrue_not (ha pins s σ H (fun c H1 => Q (!c) H1) I h)
/-- .. as values (bools) -/
def tAndV (ta tb : TE) : TE := fun σ H Q => ta σ H fun x H1 => ∃ c, x = .bl c ∧ if c = true then tb σ H1 Q else Q (.bl false) H1
def tNotV (ta : TE) : TE := fun σ H Q => ta σ H fun x H1 => ∃ c, x = .bl c ∧ Q (.bl (!c)) H1
theorem pe_one {op} {t : TE} (h : PE X a t) : PE X (.BoolOp op [a] pos) t := fun pins s σ H Q I hw => BoolOp_one (h pins s σ H Q I hw)
theorem pe_and (ha : PE X a ta) (hb : PE X (.BoolOp .And (b :: rest) pos) tb) : PE X (.BoolOp .And (a :: b :: rest) pos) (tAndV ta tb) := by
  intro pins s σ H Q I h
  refine BoolOp_and (thn (ha pins s σ H _ I h) fun v s1 ⟨x, H1, I1, r1, q1⟩ => ?_)
  obtain ⟨c, rfl, q1⟩ := q1
  cases r1
  refine wpAny_truthy_bool ?_
  cases c with
  | true => exact hb pins s1 σ H1 Q I1 q1
  | false => exact ⟨.bl false, H1, I1, rfl, q1⟩
theorem pe_not (ha : PE X a ta) : PE X (.UnaryOp .Not a pos) (tNotV ta) := by
  intro pins s σ H Q I h
  refine UnaryOp_ (thn (ha pins s σ H _ I h) fun v s1 ⟨x, H1, I1, r1, q1⟩ => ?_)
  obtain ⟨c, rfl, q1⟩ := q1
  cases r1
  exact not_of (wpAny_truthy_bool ⟨.bl (!c), H1, I1, rfl, q1⟩)
/-- a if t else b -/
def tIf (t : TT) (ta tb : TE) : TE := fun σ H Q => t σ H fun c H1 => if c = true then ta σ H1 Q else tb σ H1 Q
theorem pe_ifExp {c : Expr} (hc : PT X c tA) (ha : PE X a ta) (hb : PE X b tb) : PE X (.IfExp c a b pos) (tIf tA ta tb) := by
  intro pins s σ H Q I h
  refine wpAny_IfExp (thn (hc pins s σ H _ I h) fun d s1 ⟨H1, I1, q1⟩ => ?_)
  cases d with
  | true => exact ha pins s1 σ H1 Q I1 q1
  | false => exact hb pins s1 σ H1 Q I1 q1
end
end L2

namespace L2
open PySem PySem.Spec PyProof.Rows

/-! ### a list, a tuple that is read: tracked, frozen, or an object of the module -/
def SqL (K : PySem.W.Frag) (H : Hp) (a : Addr) (xs : List V) : Prop :=
  Rd H a (.lst xs) ∨
    ∃ (o : Obj) (its : Array Value) (n : Nat), K.lookup a = some o ∧ o.cls = .type "list" ∧ o.dict = none ∧ o.data = .seq its n ∧ its.size ≤ sizeLine ∧ Vals xs its.toList
def SqT (K : PySem.W.Frag) (H : Hp) (a : Addr) (xs : List V) : Prop :=
  Rd H a (.tup xs) ∨
    ∃ (o : Obj) (its : Array Value) (n : Nat), K.lookup a = some o ∧ o.cls = .type "tuple" ∧ o.data = .seq its n ∧ its.size ≤ sizeLine ∧ Vals xs its.toList
def absV : Value → Option V
  | .none => some .non
  | .bool b => some (.bl b)
  | .int i _ => some (.int i)
  | .str x _ => some (.str x)
  | .bytes b _ => some (.byt b)
  | .float b _ => some (.flt b)
  | .ref a => some (.ref a)
  | .type n => some (.ty n)
  | _ => none
theorem RelV.abs {x : V} {u : Value} (r : RelV x u) : absV u = some x := by
  cases x with
  | non => cases r; rfl
  | bl _ => cases r; rfl
  | int _ => obtain ⟨t, rfl⟩ := r; rfl
  | str _ => obtain ⟨t, rfl⟩ := r; rfl
  | byt _ => obtain ⟨t, rfl⟩ := r; rfl
  | flt _ => obtain ⟨t, rfl⟩ := r; rfl
  | ref _ => cases r; rfl
  | ty _ => cases r; rfl
theorem RelV.inj {x y : V} {u : Value} (r : RelV x u) (q : RelV y u) : x = y := Option.some.inj (r.abs.symm.trans q.abs)
theorem Vals.inj : ∀ {xs ys : List V} {us : List Value}, Vals xs us → Vals ys us → xs = ys
  | _, _, _, .nil, .nil => rfl
  | _, _, _, .cons r t, .cons r' t' => by rw [r.inj r', Vals.inj t t']
section
variable {X : Cx} {pins : List (Addr × Obj)} {σ : St} {H : Hp} {s : Shared} {a : Addr} {xs ys : List V}
theorem SqL.of {K : PySem.W.Frag} (h : H a = some (.lst xs)) : SqL K H a xs := .inl (.inl h)
theorem SqT.of {K : PySem.W.Frag} (h : H a = some (.tup xs)) : SqT K H a xs := .inl (.inl h)
theorem Inv.list (I : Inv X pins σ H s) (h : SqL X.K H a xs) : ∃ its : List Value, Vals xs its ∧ PlainL s.heap a its.toArray ∧ xs.length ≤ sizeLine := by
  rcases h with h | ⟨o, its, n, hk, hc, hd, hs, hz, r⟩
  · obtain ⟨z, its, n, r, e⟩ := h.ok I.hok
    exact ⟨its, r, ⟨_, n, e, rfl, rfl, rfl⟩, z⟩
  · refine ⟨its.toList, r, ⟨o, n, I.kIn a o hk, hc, hd, by simpa using hs⟩, ?_⟩
    have e := r.length
    simp only [Array.length_toList] at e
    omega
theorem Inv.tuple (I : Inv X pins σ H s) (h : SqT X.K H a xs) : ∃ its : List Value, Vals xs its ∧ IsTup s.heap a its.toArray ∧ xs.length ≤ sizeLine := by
  rcases h with h | ⟨o, its, n, hk, hc, hs, hz, r⟩
  · obtain ⟨z, its, r, p⟩ := h.ok I.hok
    exact ⟨its, r, p, z⟩
  · refine ⟨its.toList, r, ⟨o, I.kIn a o hk, hc, n, by simpa using hs⟩, ?_⟩
    have e := r.length
    simp only [Array.length_toList] at e
    omega
theorem Inv.list_inj (I : Inv X pins σ H s) (h : SqL X.K H a xs) (h' : SqL X.K H a ys) : xs = ys := by
  obtain ⟨its, r, ⟨o, n, e, _, _, d⟩, _⟩ := I.list h
  obtain ⟨its', r', ⟨o', n', e', _, _, d'⟩, _⟩ := I.list h'
  rw [e] at e'; cases e'
  rw [d] at d'
  injection d' with d1 _
  have : its = its' := by simpa using congrArg Array.toList d1
  subst this
  exact r.inj r'
theorem Inv.tuple_inj (I : Inv X pins σ H s) (h : SqT X.K H a xs) (h' : SqT X.K H a ys) : xs = ys := by
  obtain ⟨its, r, ⟨o, e, _, n, d⟩, _⟩ := I.tuple h
  obtain ⟨its', r', ⟨o', e', _, n', d'⟩, _⟩ := I.tuple h'
  rw [e] at e'; cases e'
  rw [d] at d'
  injection d' with d1 _
  have : its = its' := by simpa using congrArg Array.toList d1
  subst this
  exact r.inj r'
end

/-! ### another wish about exceptions -/
abbrev Cx.wish (X : Cx) (E : Value → Shared → Prop) : Cx := { X with xe := E }
/-- no exception leaves -/
abbrev Cx.nox (X : Cx) : Cx := X.wish fun _ _ => False
theorem Cx.Ok.wish {X : Cx} (ok : X.Ok) (E : Value → Shared → Prop) : (X.wish E).Ok :=
  ⟨ok.mod, ok.kind, ok.glob, ok.blt, ok.above, ok.inj, ok.has, ok.cab, ok.hd, ok.frames, ok.stk, ok.exf, ok.bs, ok.bsz, ok.noex, ok.exfs, ok.funs, ok.frf⟩
theorem Cx.Ok.unwish {X : Cx} {E : Value → Shared → Prop} (ok : (X.wish E).Ok) : X.Ok :=
  ⟨ok.mod, ok.kind, ok.glob, ok.blt, ok.above, ok.inj, ok.has, ok.cab, ok.hd, ok.frames, ok.stk, ok.exf, ok.bs, ok.bsz, ok.noex, ok.exfs, ok.funs, ok.frf⟩
section
variable {X : Cx} {pins : List (Addr × Obj)} {σ : St} {H : Hp} {s : Shared} {E : Value → Shared → Prop}
theorem Inv.wish (I : Inv X pins σ H s) (E : Value → Shared → Prop) : Inv (X.wish E) pins σ H s := ⟨I.ok.wish E, I.os, I.bare, I.base, I.loc, I.cell, I.free, I.freeC, I.pin, I.hok, I.len⟩
theorem Inv.unwish (I : Inv (X.wish E) pins σ H s) : Inv X pins σ H s := ⟨I.ok.unwish, I.os, I.bare, I.base, I.loc, I.cell, I.free, I.freeC, I.pin, I.hok, I.len⟩
theorem SP.unwish {D : Ends} {f : Flow} {s' : Shared} (h : SP (X.wish E) pins D f s') : SP X pins D f s' := by
  cases f with
  | next => obtain ⟨σ', H', I, q⟩ := h; exact ⟨σ', H', I.unwish, q⟩
  | brk => obtain ⟨σ', H', I, q⟩ := h; exact ⟨σ', H', I.unwish, q⟩
  | cont => obtain ⟨σ', H', I, q⟩ := h; exact ⟨σ', H', I.unwish, q⟩
  | ret u => obtain ⟨v, σ', H', I, r, q⟩ := h; exact ⟨v, σ', H', I.unwish, r, q⟩
theorem PSs.nox {st : List Stmt} {t : TS} (h : PSs X.nox st t) : PSs X st t := fun pins s σ H D I hw =>
  wpAny_mono (h pins s σ H D (I.wish _) hw) (fun _ _ q => q.unwish) fun _ _ z => False.elim z
end

/-! ### blocks and small statements -/
section
variable {X : Cx} {st : Stmt} {rest : List Stmt} {t u : TS} {e : Expr} {te : TE} {pos : Pos}
def tNext : TS := fun D σ H => D.nx σ H
def tSeq (t u : TS) : TS := fun D σ H => t { D with nx := u D } σ H
theorem pss_nil : PSs X [] tNext := fun _ _ σ H _ I h => wpAny_execs_nil ⟨σ, H, I, h⟩
theorem pss_cons (h1 : PS X st t) (h2 : PSs X rest u) : PSs X (st :: rest) (tSeq t u) := by
  intro pins s σ H D I h
  refine wpAny_execs_cons (thn (h1 pins s σ H { D with nx := u D } I h) fun f s1 q => ?_)
  cases f with
  | next =>
    obtain ⟨σ', H', I', q⟩ := q
    exact h2 pins s1 σ' H' D I' q
  | ret v => exact q
  | brk => exact q
  | cont => exact q
theorem pss_one (h1 : PS X st t) : PSs X [st] t := by
  intro pins s σ H D I h
  refine wpAny_execs_cons (thn (h1 pins s σ H D I h) fun f s1 q => ?_)
  cases f with
  | next => exact wpAny_execs_nil q
  | ret v => exact q
  | brk => exact q
  | cont => exact q
/-- in a def's body nothing is shown -/
theorem Inv.quiet {pins : List (Addr × Obj)} {σ : St} {H : Hp} {s : Shared} (I : Inv X pins σ H s) : interactive X.env = false := by simp [interactive, I.ok.kind]
/-- an expression whose value is dropped -/
def tDrop (te : TE) : TS := fun D σ H => te σ H fun _ H1 => D.nx σ H1
theorem ps_expr (he : PE X e te) (hs : swapsWith e none pos.line X.env = pure false := by rfl) : PS X (.Expr e pos) (tDrop te) := by
  intro pins s σ H D I h
  exact wpAny_Expr_any (thn (he pins s σ H _ I h) fun v s1 ⟨x, H1, I1, r1, q1⟩ => ⟨σ, H1, I1, q1⟩) I.quiet hs
def tRet (te : TE) : TS := fun D σ H => te σ H D.rt
theorem ps_ret (he : PE X e te) : PS X (.Return (some e) pos) (tRet te) := by
  intro pins s σ H D I h
  exact wpAny_Return_some (thn (he pins s σ H _ I h) fun v s1 ⟨x, H1, I1, r1, q1⟩ => ⟨x, σ, H1, I1, r1, q1⟩)
def tIfS (c : TT) (t u : TS) : TS := fun D σ H => c σ H fun b H1 => if b = true then t D σ H1 else u D σ H1
theorem ps_if {c : Expr} {a b : List Stmt} {tc : TT} (hc : PT X c tc) (ha : PSs X a t) (hb : PSs X b u) : PS X (.If c a b pos) (tIfS tc t u) := by
  intro pins s σ H D I h
  refine wpAny_If (thn (hc pins s σ H _ I h) fun d s1 ⟨H1, I1, q1⟩ => ?_)
  cases d with
  | true => exact ha pins s1 σ H1 D I1 q1
  | false => exact hb pins s1 σ H1 D I1 q1
end

/-! ### targets -/
abbrev TG := V → St → Hp → (St → Hp → Prop) → Prop
abbrev TGs := List V → St → Hp → (St → Hp → Prop) → Prop
def PG (X : Cx) (target : Expr) (t : TG) : Prop :=
  ∀ (pins : List (Addr × Obj)) (s : Shared) (σ : St) (H : Hp) (v : V) (u : Value) (Q : St → Hp → Prop), Inv X pins σ H s → RelV v u → t v σ H Q →
    wpAny (model X.prog X.w) X.A (assign target X.env u) (fun _ s' => ∃ σ' H', Inv X pins σ' H' s' ∧ Q σ' H') X.xe s
/-- several targets, one after another -/
def PGs (X : Cx) (ts : List Expr) (t : TGs) : Prop :=
  ∀ (pins : List (Addr × Obj)) (s : Shared) (σ : St) (H : Hp) (vs : List V) (us : List Value) (Q : St → Hp → Prop), Inv X pins σ H s → Vals vs us → t vs σ H Q →
    wpAny (model X.prog X.w) X.A (assignInOrder ((assignEach ts X.env).map (·.2)) us) (fun _ s' => ∃ σ' H', Inv X pins σ' H' s' ∧ Q σ' H') X.xe s
/-- o[i] = v, by values -/
abbrev TSet := V → V → V → Hp → (Hp → Prop) → Prop
def PSet (X : Cx) (t : TSet) : Prop :=
  ∀ (pins : List (Addr × Obj)) (s : Shared) (σ : St) (H : Hp) (o i v : V) (ov iv u : Value) (Q : Hp → Prop), Inv X pins σ H s → RelV o ov → RelV i iv → RelV v u → t o i v H Q →
    wpAny (model X.prog X.w) X.A (setItem ov iv u) (fun _ s' => ∃ H', Inv X pins σ H' s' ∧ Q H') X.xe s
/-- a op= b, by values -/
abbrev TIp := V → V → Hp → VK → Prop
def PIp (X : Cx) (op : Operator) (t : TIp) : Prop :=
  ∀ (pins : List (Addr × Obj)) (s : Shared) (σ : St) (H : Hp) (x y : V) (v u : Value) (Q : VK), Inv X pins σ H s → RelV x v → RelV y u → t x y H Q →
    wpAny (model X.prog X.w) X.A (inplaceOp op v u) (EP X pins σ Q) X.xe s
section
variable {X : Cx} {pos : Pos}
def gName (i : Nat) : TG := fun v σ H Q => Q (σ.set i (some v)) H
theorem pg_name {i : Nat} {x : Str} (hN : X.N.Nodup) (hi : X.N[i]? = some x) (hx : Loc X.env.scope x) (hf : X.fn x = true ∨ X.env.scope.names.lookup x = some .local := by first | exact .inl rfl | exact .inr rfl | assumption) : PG X (.Name x pos) (gName i) := by
  intro pins s σ H v u Q I r h
  exact wpAny_assign_Name (store_ok I hN hi hx r (fun s' I' => ⟨_, H, I', h⟩) hf)
def gNil : TGs := fun vs σ H Q => vs = [] ∧ Q σ H
def gCons (t : TG) (u : TGs) : TGs := fun vs σ H Q => ∃ v r, vs = v :: r ∧ t v σ H fun σ' H' => u r σ' H' Q
theorem pgs_nil : PGs X [] gNil := by
  intro pins s σ H vs us Q I r h
  obtain ⟨e, h⟩ := h
  subst e
  cases r
  exact assignInOrder_nil ⟨σ, H, I, h⟩
theorem pgs_cons {e : Expr} {es : List Expr} {t : TG} {u : TGs} (h1 : PG X e t) (h2 : PGs X es u)
    (hs : (assignEach (e :: es) X.env).map (·.2) = assign e X.env :: (assignEach es X.env).map (·.2) := by rfl) : PGs X (e :: es) (gCons t u) := by
  intro pins s σ H vs us Q I r h
  obtain ⟨v, vr, e1, h⟩ := h
  subst e1
  cases r with
  | cons r rr =>
    rw [hs]
    refine assignInOrder_cons (thn (h1 pins s σ H _ _ _ I r h) fun _ s1 ⟨σ1, H1, I1, q1⟩ => ?_)
    exact h2 pins s1 σ1 H1 _ _ Q I1 rr q1
/-- (a, b, ..) = a tuple of that length -/
def gTup (K : PySem.W.Frag) (n : Nat) (t : TGs) : TG := fun v σ H Q => ∃ a xs, v = .ref a ∧ SqT K H a xs ∧ xs.length = n ∧ t xs σ H Q
/-- target = value -/
def tAsg (te : TE) (g : TG) : TS := fun D σ H => te σ H fun x H1 => g x σ H1 D.nx
/-- name = value -/
theorem ps_set {i : Nat} {x : Str} {e : Expr} {te : TE} {pos' : Pos} (hN : X.N.Nodup) (hi : X.N[i]? = some x) (hx : Loc X.env.scope x) (he : PE X e te) (hs : swapsWith e (some (.Name x pos')) pos.line X.env = pure false := by rfl) (hf : X.fn x = true ∨ X.env.scope.names.lookup x = some .local := by first | exact .inl rfl | exact .inr rfl | assumption) :
    PS X (.Assign [.Name x pos'] e pos) (tAsg te (gName i)) := by
  intro pins s σ H D I h
  refine wpAny_Assign_Name (thn (he pins s σ H _ I h) fun v s1 ⟨y, H1, I1, r1, q1⟩ => ?_) hs
  exact store_ok I1 hN hi hx r1 (fun s2 I2 => ⟨_, H1, I2, q1⟩) hf
/-- o[i], by values -/
def PGet (X : Cx) (t : V → V → Hp → VK → Prop) : Prop :=
  ∀ (pins : List (Addr × Obj)) (s : Shared) (σ : St) (H : Hp) (o i : V) (ov iv : Value) (Q : VK), Inv X pins σ H s → RelV o ov → RelV i iv → t o i H Q →
    wpAny (model X.prog X.w) X.A (getItem ov iv) (EP X pins σ Q) X.xe s
end

/-! ### while -/
section
variable {X : Cx} {pos : Pos}
/-- the invariant W with its measure -/
def tWhile (c : TT) (tb : TS) : TS := fun D σ H => ∃ W : Nat → St → Hp → Prop, (∃ m, W m σ H) ∧ ∀ m σ H, W m σ H →
  c σ H fun b H1 => if b = true then ∃ N : St → Hp → Prop, (∀ σ' H', N σ' H' → ∃ m', m' < m ∧ W m' σ' H') ∧ tb { D with nx := N, ct := N, bk := D.nx } σ H1 else D.nx σ H1
theorem ps_while {c : Expr} {body : List Stmt} {tc : TT} {tb : TS} (hp : PassesOwn (model X.prog X.w) X.A X.env X.xe) (hc : PT X c tc) (hb : PSs X body tb) : PS X (.While c body [] pos) (tWhile tc tb) := by
  intro pins s σ H D I h
  obtain ⟨W, ⟨m0, w0⟩, turn⟩ := h
  refine wpAny_While (codeAny_whileLoop (fun n s' => ∃ σ' H', Inv X pins σ' H' s' ∧ W n σ' H') ?_ m0 ⟨σ, H, I, w0⟩)
  rintro n s1 ⟨σ1, H1, I1, w1⟩
  refine wpAny_passesOwn hp (thn (hc pins s1 σ1 H1 _ I1 (turn n σ1 H1 w1)) fun b s2 ⟨H2, I2, q2⟩ => ?_)
  cases b with
  | true =>
    obtain ⟨N, hN, q2⟩ := q2
    rw [if_pos rfl]
    refine wpAny_passesOwn hp (thn (hb pins s2 σ1 H2 _ I2 q2) fun f s3 q3 => ?_)
    cases f with
    | next =>
      obtain ⟨σ3, H3, I3, n3⟩ := q3
      obtain ⟨m', hm, w3⟩ := hN σ3 H3 n3
      exact ⟨m', hm, σ3, H3, I3, w3⟩
    | cont =>
      obtain ⟨σ3, H3, I3, n3⟩ := q3
      obtain ⟨m', hm, w3⟩ := hN σ3 H3 n3
      exact ⟨m', hm, σ3, H3, I3, w3⟩
    | brk => exact q3
    | ret v => exact q3
  | false =>
    rw [if_neg Bool.false_ne_true]
    exact wpAny_execs_nil ⟨σ1, H2, I2, q2⟩
end

/-! ### what a loop or a comprehension walks -/
/-- at turn i: it yields x (the heap may grow), or it stops -/
structure It where
  go : Nat → Hp → Prop
  yld : Nat → Hp → V → Hp → Prop
  stop : Nat → Hp → Prop
/-- the iterator's own objects may turn: they are not the frame's, not pinned, younger than the entry (or a comprehension's own) -/
def FpOk (X : Cx) (pins : List (Addr × Obj)) (H : Hp) (b : Addr) : Prop :=
  H b = none ∧ b ≠ X.env.locals ∧ b ∉ X.fs ∧ (b ∈ X.ex ∨ X.s₀.heap.objs.size ≤ b) ∧ (∀ x c, X.env.cells.lookup x = some c → c ≠ b) ∧ ∀ p ∈ X.pn ++ pins, p.1 ≠ b
theorem Inv.fpOk {X : Cx} {pins : List (Addr × Obj)} {σ : St} {H H' : Hp} {s : Shared} {b : Addr} (I : Inv X pins σ H s) (hb : s.heap.objs.size ≤ b) (hn : H' b = none) : FpOk X pins H' b := by
  refine ⟨hn, Nat.ne_of_gt (Nat.lt_of_lt_of_le I.lt hb), I.nofs hb, .inr (Nat.le_trans I.sz hb), fun x c e z => ?_, fun p hp z => ?_⟩
  · obtain ⟨v, q⟩ := I.cell x c e
    exact absurd (Nat.lt_of_lt_of_le q.lt (by rw [z]; exact hb)) (Nat.lt_irrefl _)
  · exact absurd (Nat.lt_of_lt_of_le (Heap.lt_size (I.pin p hp).1) (by rw [z]; exact hb)) (Nat.lt_irrefl _)
structure Turn (P : Program) (w : World) (K : PySem.W.Frag) (tg : Expr) (J : It) (fp : List Addr) (it : Addr) (tn : Nat → Heap → Prop) : Prop where
  mem : it ∈ fp
  obj : ∀ i h, tn i h → ∀ b ∈ fp, ∃ o, h.get? b = some o ∧ ∀ v, o.data ≠ .cell v
  keep : ∀ i h h', tn i h → (∀ b ∈ fp, ∀ o, h.get? b = some o → h'.get? b = some o) → tn i h'
  item : ∀ (X : Cx), X.prog = P → X.w = w → X.K = K → X.calm = true → ∀ (i : Nat) (pins : List (Addr × Obj)) (s : Shared) (σ : St) (H : Hp) (E : Value → Shared → Prop), Inv X pins σ H s → (∀ b ∈ fp, FpOk X pins H b) → tn i s.heap → J.go i H →
    wpAny (model P w) X.A (pyNext (.ref it)) (fun r s1 => ∃ u, r = some u ∧
      wpAny (model P w) X.A (letOwnedTupleGo tg (.ref it) u) (fun _ s2 => ∃ x H', Inv X pins σ H' s2 ∧ RelV x u ∧ J.yld i H x H' ∧ tn (i + 1) s2.heap ∧ ∀ b ∈ fp, H' b = none) E s1) E s
  done : ∀ (X : Cx), X.prog = P → X.w = w → X.K = K → X.calm = true → ∀ (i : Nat) (pins : List (Addr × Obj)) (s : Shared) (σ : St) (H : Hp) (E : Value → Shared → Prop), Inv X pins σ H s → (∀ b ∈ fp, FpOk X pins H b) → tn i s.heap → J.stop i H →
    wpAny (model P w) X.A (pyNext (.ref it)) (fun r s1 => r = none ∧ Inv X pins σ H s1) E s
  self : ∀ (A : Around) (i : Nat) (s : Shared) (Q : Value → Shared → Prop) (E : Value → Shared → Prop), tn i s.heap → Q (.ref it) s → wpAny (model P w) A (pyIter (.ref it)) Q E s
abbrev TI := St → Hp → (It → Hp → Prop) → Prop
/-- an iterator has come -/
def PIE (X : Cx) (pins : List (Addr × Obj)) (σ : St) (tg : Expr) (R : It → Hp → Prop) (itv : Value) (s2 : Shared) : Prop :=
  ∃ (it : Addr) (fp : List Addr) (tn : Nat → Heap → Prop) (J : It) (H' : Hp), itv = .ref it ∧ Inv X pins σ H' s2 ∧ Turn X.prog X.w X.K tg J fp it tn ∧ tn 0 s2.heap ∧ (∀ b ∈ fp, FpOk X pins H' b) ∧ R J H'
def PI (X : Cx) (tg iter : Expr) (wi : TI) : Prop :=
  ∀ (pins : List (Addr × Obj)) (s : Shared) (σ : St) (H : Hp) (R : It → Hp → Prop), Inv X pins σ H s → wi σ H R →
    wpAny (model X.prog X.w) X.A (eval iter X.env) (fun v s1 => wpAny (model X.prog X.w) X.A (pyIter v) (PIE X pins σ tg R) X.xe s1) X.xe s

/-- the step ahead of the store is nothing for an iterator that keeps no tuple -/
theorem go_of {M : Model} {A : Around} {E : Value → Shared → Prop} {s : Shared} {tg : Expr} {it : Addr} {u : Value} {o : Obj} {n : String} {vs : Array Value} {Q : Unit → Shared → Prop} (ho : s.heap.get? it = some o) (hc : o.cls = .type n) (hd : o.data = .fields vs)
    (hn : ["enumerate", "zip", "dict_itemiterator", "dict_reverseitemiterator", "odict_iterator", "itertools.zip_longest", "itertools.pairwise"].contains n = false) (hQ : Q () s) : wpAny M A (letOwnedTupleGo tg (.ref it) u) Q E s := by
  unfold letOwnedTupleGo
  cases tg <;> first
    | exact wpAny_pure hQ
    | (cases u <;> first
        | exact wpAny_pure hQ
        | (refine wpAny_bind (wpAny_load ho ?_)
           rw [hc, hd]
           show wpAny M A (if (["enumerate", "zip", "dict_itemiterator", "dict_reverseitemiterator", "odict_iterator", "itertools.zip_longest", "itertools.pairwise"].contains n && vs[0]? == some (rawInt _)) = true then _ else _) Q E s
           rw [if_neg (by intro h; rw [hn, Bool.false_and] at h; cases h)]
           exact wpAny_pure hQ))

/-- the list at a, as it stands at each turn (a loop may append to it) -/
def Itl (K : PySem.W.Frag) (a : Addr) : It :=
  ⟨fun i H => ∃ xs x, SqL K H a xs ∧ xs[i]? = some x, fun i H x H' => H' = H ∧ ∀ xs, SqL K H a xs → xs[i]? = some x, fun i H => ∃ xs, SqL K H a xs ∧ xs.length ≤ i⟩
/-- lo, lo + 1, .. (n of them) -/
def Itr (lo : Int) (n : Nat) : It := ⟨fun i _ => i < n, fun i H x H' => H' = H ∧ x = .int (lo + i), fun i _ => n ≤ i⟩
theorem turn_list {P : Program} {w : World} {K : PySem.W.Frag} {tg : Expr} (a it : Addr) : Turn P w K tg (Itl K a) [it] it (fun i h => h.IsListIter it a i) where
  mem := by simp
  obj := fun i h st b hb => by
    have e : b = it := by simpa using hb
    subst e
    obtain ⟨o, e, c, d⟩ := st
    exact ⟨o, e, fun v z => by rw [d] at z; cases z⟩
  keep := fun i h h' st k => st.at fun o e => k it (by simp) o e
  item := by
    intro X hP hw hK hc i pins s σ H E I hf st hg
    subst hP hw hK
    obtain ⟨xs, x, hq, hx⟩ := hg
    obtain ⟨its, rv, p, hz⟩ := I.list hq
    obtain ⟨u, hu, ru⟩ := rv.get hx
    obtain ⟨f0, f1, f2, f3, f4, f5⟩ := hf it (by simp)
    refine wpAny_pyNext_list_item st p.isList (x := u) (by simpa using hu) fun h' st' sb => ?_
    have I1 : Inv X pins σ H { s with heap := h' } := I.turned (t' := s.toks) (fun b o hb e => (sb.2 b hb).trans e) f0 f1 f3 f4 f5
    obtain ⟨o, e, c, d⟩ := id st'
    exact ⟨u, rfl, go_of (s := { s with heap := h' }) e c d (by decide) ⟨x, H, I1, ru, ⟨rfl, fun ys hy => by rw [I.list_inj hy hq]; exact hx⟩, st', fun b hb => (hf b hb).1⟩⟩
  done := by
    intro X hP hw hK hc i pins s σ H E I hf st hg
    subst hP hw hK
    obtain ⟨xs, hq, hx⟩ := hg
    obtain ⟨its, rv, p, hz⟩ := I.list hq
    obtain ⟨f0, f1, f2, f3, f4, f5⟩ := hf it (by simp)
    have hl := rv.length
    exact wpAny_pyNext_list_end (I.ok.hd hc) st p.isList (by simp; omega) fun h' eb => ⟨rfl, I.turned (t' := s.toks) (fun b o hb e => eb b o hb e) f0 f1 f3 f4 f5⟩
  self := fun _ _ _ _ _ st h => wpAny_pyIter_listiter st h
theorem turn_range {P : Program} {w : World} {K : PySem.W.Frag} {tg : Expr} (it : Addr) (lo : Int) (n : Nat) : Turn P w K tg (Itr lo n) [it] it (fun i h => IsRangeIter h it (lo + (i : Nat) * 1) ((n : Int) - (i : Nat)) 1) where
  mem := by simp
  obj := fun i h st b hb => by
    have e : b = it := by simpa using hb
    subst e
    exact ⟨_, st, fun v z => by
      have z' : Data.fields _ = Data.cell v := z
      cases z'⟩
  keep := fun i h h' st k => k it (by simp) _ st
  item := by
    intro X hP hw hK hc i pins s σ H E I hf st hg
    subst hP hw hK
    obtain ⟨f0, f1, f2, f3, f4, f5⟩ := hf it (by simp)
    have W := Walks.range (prog := X.prog) (w := X.w) (I.ok.hd hc) it lo 1 n
    refine W.item i s _ _ hg st fun v h' tk hv st' kk => ?_
    obtain ⟨t, rfl⟩ := hv
    have I1 : Inv X pins σ H { s with heap := h', toks := tk } := I.turned (fun b o hb e => kk b o (by simpa using hb) e) f0 f1 f3 f4 f5
    refine ⟨_, rfl, go_of (s := { s with heap := h', toks := tk }) (n := "range_iterator") st' rfl rfl (by decide) ⟨.int (lo + i), H, I1, ⟨t, ?_⟩, ⟨rfl, rfl⟩, st', fun b hb => (hf b hb).1⟩⟩
    rw [Int.mul_one]
  done := by
    intro X hP hw hK hc i pins s σ H E I hf st hg
    subst hP hw hK
    obtain ⟨f0, f1, f2, f3, f4, f5⟩ := hf it (by simp)
    exact wpAny_pyNext_range_end (I.ok.hd hc) st (by have : n ≤ i := hg; omega) fun h' eb => ⟨rfl, I.turned (t' := s.toks) (fun b o hb e => eb b o hb e) f0 f1 f3 f4 f5⟩
  self := fun _ _ _ _ _ st h => wpAny_pyIter_rangeiter st h
end L2

namespace L2
open PySem PySem.Spec PyProof.Rows
section
variable {X : Cx} {tg : Expr}
def iList (K : PySem.W.Frag) (tl : TE) : TI := fun σ H R => tl σ H fun x H1 => ∃ a, x = .ref a ∧ (∃ xs, SqL K H1 a xs) ∧ R (Itl K a) H1
theorem pi_list {l : Expr} {tl : TE} (hl : PE X l tl) : PI X tg l (iList X.K tl) := by
  intro pins s σ H R I h
  refine thn (hl pins s σ H _ I h) fun v s1 ⟨x, H1, I1, r1, q1⟩ => ?_
  obtain ⟨a, e, ⟨xs, hq⟩, q⟩ := q1
  subst e
  cases r1
  obtain ⟨its, rv, p, hz⟩ := I1.list hq
  refine wpAny_pyIter_list p.isList ?_
  refine ⟨s1.heap.objs.size, [s1.heap.objs.size], _, _, H1, rfl, I1.kept (t' := s1.toks) fun b o e => Heap.get?_push_of_some _ e, turn_list a _, ⟨_, Heap.get?_push_size _ rfl, rfl, rfl⟩, fun b hb => ?_, q⟩
  have e : b = s1.heap.objs.size := by simpa using hb
  subst e
  exact I1.fpOk (Nat.le_refl _) (I1.hok.fresh (Nat.le_refl _))
/-- a range object just made, walked -/
theorem range_it {pins : List (Addr × Obj)} {σ : St} {H : Hp} {s : Shared} {R : It → Hp → Prop} {E : Value → Shared → Prop} {lo hi : Int} {t u v : Tok} {tk : Nat} (I : Inv X pins σ H s) (h1 : -(2 ^ 62) ≤ lo) (h2 : lo < 2 ^ 62) (h3 : -(2 ^ 62) ≤ hi) (h4 : hi < 2 ^ 62)
    (q : R (Itr lo (hi - lo).toNat) H) : wpAny (model X.prog X.w) X.A (pyIter (.ref s.heap.objs.size)) (PIE X pins σ tg R) E { s with heap := s.heap.push { cls := .type "range", data := .fields #[.int lo t, .int hi u, .int 1 v] }, toks := tk } := by
  refine wpAny_pyIter_range (IsRange.new ..) (small_one h1 h2 h3 h4) ?_
  have I1 : Inv X pins σ H { s with heap := s.heap.push { cls := .type "range", data := .fields #[.int lo t, .int hi u, .int 1 v] }, toks := tk } := I.kept fun b o e => Heap.get?_push_of_some _ e
  refine ⟨(s.heap.push { cls := .type "range", data := .fields #[.int lo t, .int hi u, .int 1 v] }).objs.size, [(s.heap.push { cls := .type "range", data := .fields #[.int lo t, .int hi u, .int 1 v] }).objs.size], _, _, H, rfl,
    I1.kept (t' := tk) fun b o e => Heap.get?_push_of_some _ e, turn_range _ lo (hi - lo).toNat, ?_, fun b hb => ?_, q⟩
  · have e1 : lo + ((0 : Nat) : Int) * 1 = lo := by simp
    have e2 : (((hi - lo).toNat : Nat) : Int) - ((0 : Nat) : Int) = Builtin.Range.rangeSize lo hi 1 := by rw [rangeSize_one]; split <;> omega
    show IsRangeIter _ _ (lo + ((0 : Nat) : Int) * 1) ((((hi - lo).toNat : Nat) : Int) - ((0 : Nat) : Int)) 1
    rw [e1, e2]
    exact Heap.get?_push_size _ rfl
  · have e : b = (s.heap.push { cls := .type "range", data := .fields #[.int lo t, .int hi u, .int 1 v] }).objs.size := by simpa using hb
    subst e
    exact I1.fpOk (Nat.le_refl _) (I1.hok.fresh (Nat.le_refl _))
def iRng1 (ta : TA) : TI := fun σ H R => ta σ H fun vs H1 => ∃ j : Int, vs = [.int j] ∧ -(2 ^ 62) ≤ j ∧ j < 2 ^ 62 ∧ R (Itr 0 j.toNat) H1
def iRng2 (ta : TA) : TI := fun σ H R => ta σ H fun vs H1 => ∃ i j : Int, vs = [.int i, .int j] ∧ (-(2 ^ 62) ≤ i ∧ i < 2 ^ 62 ∧ -(2 ^ 62) ≤ j ∧ j < 2 ^ 62) ∧ R (Itr i (j - i).toNat) H1
theorem pi_range1 {a : Expr} {ta : TA} {p pos : Pos} (hg : Gl X "range") (hm : X.mg "range" = none) (ha : PA X [a] ta) (hs : starEach [a] X.env = [(false, eval a X.env)] := by rfl) : PI X tg (.Call (.Name "range" p) [a] [] pos) (iRng1 ta) := by
  intro pins s σ H R I h
  refine Call_ (ld_blt I hg hm boot_range (PyProof.Rows.callWith_type1 (thn (ha pos pins s σ H _ I h) fun us s1 ⟨vs, H1, I1, r1, q1⟩ => ?_) hs rfl))
  obtain ⟨j, e, q1, q2, q⟩ := q1
  subst e
  cases r1 with
  | cons r rr =>
    cases rr
    obtain ⟨t, rfl⟩ := r
    exact call_range_1 (range_it I1 (by omega) (by omega) q1 q2 (by simpa using q))
theorem pi_range2 {a b : Expr} {ta : TA} {p pos : Pos} (hg : Gl X "range") (hm : X.mg "range" = none) (ha : PA X [a, b] ta) (hs : starEach [a, b] X.env = [(false, eval a X.env), (false, eval b X.env)] := by rfl) (hs2 : starEach [b] X.env = [(false, eval b X.env)] := by rfl) :
    PI X tg (.Call (.Name "range" p) [a, b] [] pos) (iRng2 ta) := by
  intro pins s σ H R I h
  refine Call_ (ld_blt I hg hm boot_range (PyProof.Rows.callWith_type1 (thn (ha pos pins s σ H _ I h) fun us s1 ⟨vs, H1, I1, r1, q1⟩ => ?_) (by rw [hs, hs2]) (by rw [hs2]; rfl)))
  obtain ⟨i, j, e, ⟨q1, q2, q3, q4⟩, q⟩ := q1
  subst e
  cases r1 with
  | cons r rr =>
    cases rr with
    | cons r' rr =>
      cases rr
      obtain ⟨t, rfl⟩ := r
      obtain ⟨t', rfl⟩ := r'
      exact call_range_2 (range_it I1 q1 q2 q3 q4 q)

/-! ### for -/
/-- W: the invariant by the turn and a measure; N: what the body is to reach -/
def tFor (wi : TI) (g : TG) (tb : TS) : TS := fun D σ H => wi σ H fun J H1 => ∃ W : Nat → Nat → St → Hp → Prop, (∃ m, W 0 m σ H1) ∧ ∀ i m σ H, W i m σ H →
  (J.stop i H ∧ D.nx σ H) ∨ (J.go i H ∧ ∃ N : St → Hp → Prop, (∀ σ' H', N σ' H' → ∃ m', m' < m ∧ W (i + 1) m' σ' H') ∧ ∀ x H', J.yld i H x H' → g x σ H' fun σ2 H2 => tb { D with nx := N, ct := N, bk := D.nx } σ2 H2)
/-- the records at fp as they stand -/
def pinsAt (fp : List Addr) (h : Heap) : List (Addr × Obj) := fp.filterMap fun b => (h.get? b).map fun o => (b, o)
theorem mem_pinsAt {fp : List Addr} {h : Heap} {b : Addr} {o : Obj} (hb : b ∈ fp) (e : h.get? b = some o) : (b, o) ∈ pinsAt fp h := List.mem_filterMap.mpr ⟨b, hb, by rw [e]; rfl⟩
theorem of_pinsAt {fp : List Addr} {h : Heap} {p : Addr × Obj} (hp : p ∈ pinsAt fp h) : p.1 ∈ fp ∧ h.get? p.1 = some p.2 := by
  obtain ⟨b, hb, e⟩ := List.mem_filterMap.mp hp
  cases q : h.get? b with
  | none => rw [q] at e; cases e
  | some o =>
    rw [q] at e
    have e' : (b, o) = p := Option.some.inj e
    subst e'
    exact ⟨hb, q⟩
theorem Inv.pinned {pins : List (Addr × Obj)} {σ : St} {H : Hp} {s : Shared} {fp : List Addr} (I : Inv X pins σ H s) (hf : ∀ b ∈ fp, FpOk X pins H b) (ho : ∀ b ∈ fp, ∃ o, s.heap.get? b = some o ∧ ∀ v, o.data ≠ .cell v) : Inv X (pins ++ pinsAt fp s.heap) σ H s :=
  I.pins_of fun p hp => (List.mem_append.mp hp).elim (fun z => I.pin p (List.mem_append_right _ z)) fun z => by
    obtain ⟨hb, e⟩ := of_pinsAt z
    obtain ⟨f0, f1, f2, _⟩ := hf p.1 hb
    obtain ⟨o, e', d⟩ := ho p.1 hb
    rw [e] at e'; cases e'
    exact ⟨e, f0, f1, f2, d⟩
theorem Inv.unpinned {pins pl : List (Addr × Obj)} {σ : St} {H : Hp} {s : Shared} (I : Inv X (pins ++ pl) σ H s) : Inv X pins σ H s := I.pins_of fun p hp => I.pin p (List.mem_append_right _ (List.mem_append_left _ hp))
theorem ps_for {iter : Expr} {body : List Stmt} {wi : TI} {g : TG} {tb : TS} {pos : Pos} (hp : PassesOwn (model X.prog X.w) X.A X.env X.xe) (hc : X.calm = true) (hi : PI X tg iter wi) (hg : PG X tg g) (hb : PSs X body tb)
    (hs : ∀ x, foldedSetIterable iter X.env x = pure x := by intro _; rfl) : PS X (.For tg iter body [] pos) (tFor wi g tb) := by
  intro pins s σ H D I h
  refine wpAny_For (thn (hi pins s σ H _ I h) fun v s1 h1 => thn h1 fun itv s2 h2 => ?_) hs
  obtain ⟨it, fp, tn, J, H2, e, I2, T, st2, f2, W, ⟨m0, w0⟩, turn⟩ := h2
  subst e
  -- what stays true of the iterator's objects through the loop
  have stat : ∀ {H' : Hp}, (∀ b ∈ fp, H' b = none) → ∀ b ∈ fp, FpOk X pins H' b := fun hn b hb => ⟨hn b hb, (f2 b hb).2⟩
  refine codeAny_forLoop_any (fun n s' => ∃ i σ' H', Inv X pins σ' H' s' ∧ tn i s'.heap ∧ (∀ b ∈ fp, H' b = none) ∧ W i n σ' H') ?_ m0 ⟨0, σ, H2, I2, st2, fun b hb => (f2 b hb).1, w0⟩
  rintro n s3 ⟨i, σ3, H3, I3, st3, fr3, w3⟩
  rcases turn i n σ3 H3 w3 with ⟨stop, qn⟩ | ⟨go, N, hN, step⟩
  · refine wpAny_passesOwn hp (thn (T.done X rfl rfl rfl hc i pins s3 σ3 H3 X.xe I3 (stat fr3) st3 stop) fun r s4 ⟨hr, I4⟩ => ?_)
    subst hr
    exact wpAny_execs_nil ⟨σ3, H3, I4, qn⟩
  · refine wpAny_passesOwn hp (thn (T.item X rfl rfl rfl hc i pins s3 σ3 H3 X.xe I3 (stat fr3) st3 go) fun r s4 ⟨u, hr, h4⟩ => ?_)
    subst hr
    refine wpAny_passesOwn hp (thn h4 fun _ s5 ⟨x, H5, I5, r5, y5, st5, fr5⟩ => ?_)
    have I5' := I5.pinned (stat fr5) (T.obj _ _ st5)
    refine wpAny_passesOwn hp (thn (hg _ s5 σ3 H5 x u _ I5' r5 (step x H5 y5)) fun _ s6 ⟨σ6, H6, I6, q6⟩ => ?_)
    refine wpAny_passesOwn hp (thn (hb _ s6 σ6 H6 _ I6 q6) fun f s7 q7 => ?_)
    have again : ∀ {σ7 : St} {H7 : Hp}, Inv X (pins ++ pinsAt fp s5.heap) σ7 H7 s7 → N σ7 H7 → ∃ m, m < n ∧ ∃ i σ' H', Inv X pins σ' H' s7 ∧ tn i s7.heap ∧ (∀ b ∈ fp, H' b = none) ∧ W i m σ' H' := fun {σ7 H7} I7 n7 => by
      obtain ⟨m', hm, w7⟩ := hN σ7 H7 n7
      refine ⟨m', hm, i + 1, σ7, H7, I7.unpinned, T.keep _ _ _ st5 fun b hb o e => (I7.pin (b, o) (List.mem_append_right _ (List.mem_append_right _ (mem_pinsAt hb e)))).1, fun b hb => ?_, w7⟩
      obtain ⟨o, e, d⟩ := T.obj _ _ st5 b hb
      exact (I7.pin (b, o) (List.mem_append_right _ (List.mem_append_right _ (mem_pinsAt hb e)))).2.1
    cases f with
    | next => obtain ⟨σ7, H7, I7, n7⟩ := q7; exact again I7 n7
    | cont => obtain ⟨σ7, H7, I7, n7⟩ := q7; exact again I7 n7
    | brk => obtain ⟨σ7, H7, I7, q7⟩ := q7; exact ⟨σ7, H7, I7.unpinned, q7⟩
    | ret v => obtain ⟨x7, σ7, H7, I7, r7, q7⟩ := q7; exact ⟨x7, σ7, H7, I7.unpinned, r7, q7⟩
end

/-! ### the forms one uses -/
theorem for_range {lo : Int} {n : Nat} {g : TG} {tb : TS} {D : Ends} {σ : St} {H : Hp} (Pv : Nat → St → Hp → Prop) (h0 : Pv 0 σ H)
    (hs : ∀ i σ H, i < n → Pv i σ H → g (.int (lo + i)) σ H fun σ2 H2 => tb { D with nx := Pv (i + 1), ct := Pv (i + 1), bk := D.nx } σ2 H2) (hd : ∀ σ H, Pv n σ H → D.nx σ H) :
    ∃ W : Nat → Nat → St → Hp → Prop, (∃ m, W 0 m σ H) ∧ ∀ i m σ H, W i m σ H →
      ((Itr lo n).stop i H ∧ D.nx σ H) ∨ ((Itr lo n).go i H ∧ ∃ N : St → Hp → Prop, (∀ σ' H', N σ' H' → ∃ m', m' < m ∧ W (i + 1) m' σ' H') ∧ ∀ x H', (Itr lo n).yld i H x H' → g x σ H' fun σ2 H2 => tb { D with nx := N, ct := N, bk := D.nx } σ2 H2) := by
  refine ⟨fun i m σ H => m = n - i ∧ i ≤ n ∧ Pv i σ H, ⟨n, by simp, Nat.zero_le _, h0⟩, ?_⟩
  rintro i m σ H ⟨rfl, hi, p⟩
  by_cases hlt : i < n
  · refine .inr ⟨hlt, Pv (i + 1), fun σ' H' p' => ⟨n - (i + 1), by omega, rfl, hlt, p'⟩, fun x H' y => ?_⟩
    obtain ⟨e, y⟩ := y
    subst e y
    exact hs i σ _ hlt p
  · have e : i = n := by omega
    subst e
    exact .inl ⟨Nat.le_refl _, hd σ H p⟩
/-- while, by a word and a measure of the state -/
theorem while_by {c : TT} {tb : TS} {D : Ends} {σ : St} {H : Hp} (Pv : St → Hp → Prop) (μ : St → Hp → Nat) (h0 : Pv σ H)
    (hs : ∀ σ H, Pv σ H → c σ H fun b H1 => if b = true then tb { D with nx := fun σ' H' => Pv σ' H' ∧ μ σ' H' < μ σ H, ct := fun σ' H' => Pv σ' H' ∧ μ σ' H' < μ σ H, bk := D.nx } σ H1 else D.nx σ H1)
    (mono : ∀ σ H Q Q', (∀ b H1, Q b H1 → Q' b H1) → c σ H Q → c σ H Q') : tWhile c tb D σ H := by
  refine ⟨fun m σ H => m = μ σ H ∧ Pv σ H, ⟨_, rfl, h0⟩, ?_⟩
  rintro m σ H ⟨rfl, p⟩
  refine mono σ H _ _ (fun b H1 q => ?_) (hs σ H p)
  cases b with
  | true => exact ⟨_, fun σ' H' ⟨p', l⟩ => ⟨_, l, rfl, p'⟩, q⟩
  | false => exact q
end L2

namespace L2
open PySem PySem.Spec PyProof.Rows

abbrev R2 := V → V → Hp → VK → Prop
/-- a two-place operation on values: f is binaryOp op, inplaceOp op or compareOp op -/
def OpR (X : Cx) (f : Value → Value → Sem Value) (r : R2) : Prop :=
  ∀ (pins : List (Addr × Obj)) (s : Shared) (σ : St) (H : Hp) (x y : V) (v u : Value) (Q : VK), Inv X pins σ H s → RelV x v → RelV y u → r x y H Q →
    wpAny (model X.prog X.w) X.A (f v u) (EP X pins σ Q) X.xe s
/-- a one-place operation -/
def UnR (X : Cx) (f : Value → Sem Value) (r : V → Hp → VK → Prop) : Prop :=
  ∀ (pins : List (Addr × Obj)) (s : Shared) (σ : St) (H : Hp) (x : V) (v : Value) (Q : VK), Inv X pins σ H s → RelV x v → r x H Q →
    wpAny (model X.prog X.w) X.A (f v) (EP X pins σ Q) X.xe s
/-- a call of a value that is known (a builtin, a type) with values -/
def CallR (X : Cx) (f : Value) (r : List V → Hp → VK → Prop) : Prop :=
  ∀ (pins : List (Addr × Obj)) (s : Shared) (σ : St) (H : Hp) (xs : List V) (us : List Value) (Q : VK), Inv X pins σ H s → Vals xs us → r xs H Q →
    wpAny (model X.prog X.w) X.A (call f us) (EP X pins σ Q) X.xe s
/-- a value's truth -/
def TruR (X : Cx) (r : V → Hp → (Bool → Hp → Prop) → Prop) : Prop :=
  ∀ (pins : List (Addr × Obj)) (s : Shared) (σ : St) (H : Hp) (x : V) (v : Value) (Q : Bool → Hp → Prop), Inv X pins σ H s → RelV x v → r x H Q →
    wpAny (model X.prog X.w) X.A (truthy v) (TP X pins σ Q) X.xe s

def tOp (r : R2) (ta tb : TE) : TE := fun σ H Q => ta σ H fun x H1 => tb σ H1 fun y H2 => r x y H2 Q
def tUn (r : V → Hp → VK → Prop) (ta : TE) : TE := fun σ H Q => ta σ H fun x H1 => r x H1 Q
/-- ints in, under C, and a value out -/
def rI (C : Int → Int → Prop) (g : Int → Int → V) : R2 := fun x y H Q => ∃ i j, x = .int i ∧ y = .int j ∧ C i j ∧ Q (g i j) H
def rI0 (g : Int → Int → V) : R2 := fun x y H Q => ∃ i j, x = .int i ∧ y = .int j ∧ Q (g i j) H
def rU (g : Int → V) : V → Hp → VK → Prop := fun x H Q => ∃ i, x = .int i ∧ Q (g i) H

section
variable {X : Cx} {a b c : Expr} {ta tb tc : TE} {pos : Pos}

theorem binT (ha : PE X a ta) (hb : PE X b tb) {pins : List (Addr × Obj)} {s : Shared} {σ : St} {H : Hp} {R : V → V → Hp → Prop} (I : Inv X pins σ H s)
    (h : ta σ H fun x H1 => tb σ H1 fun y H2 => R x y H2) {Q : Value → Shared → Prop} {f : Value → Value → Sem Value}
    (hf : ∀ v u s2 x y H2, Inv X pins σ H2 s2 → RelV x v → RelV y u → R x y H2 → wpAny (model X.prog X.w) X.A (f v u) Q X.xe s2) :
    wpAny (model X.prog X.w) X.A (eval a X.env) (fun v s₁ => wpAny (model X.prog X.w) X.A (eval b X.env) (fun u s₂ => wpAny (model X.prog X.w) X.A (f v u) Q X.xe s₂) X.xe s₁) X.xe s := by
  refine thn (ha pins s σ H _ I h) fun v s1 ⟨x, H1, I1, r1, q1⟩ => ?_
  refine thn (hb pins s1 σ H1 _ I1 q1) fun u s2 ⟨y, H2, I2, r2, q2⟩ => ?_
  exact hf v u s2 x y H2 I2 r1 r2 q2

theorem pe_op {op : Operator} {r : R2} (ho : OpR X (binaryOp op) r) (ha : PE X a ta) (hb : PE X b tb) : PE X (.BinOp a op b pos) (tOp r ta tb) := by
  intro pins s σ H Q I h
  exact wpAny_BinOp (binT ha hb I h fun v u s2 x y H2 I2 rx ry q => ho pins s2 σ H2 x y v u Q I2 rx ry q)
theorem pe_un {op : UnaryOp} {r : V → Hp → VK → Prop} (ho : UnR X (unaryOp op) r) (ha : PE X a ta) : PE X (.UnaryOp op a pos) (tUn r ta) := by
  intro pins s σ H Q I h
  exact UnaryOp_ (thn (ha pins s σ H _ I h) fun v s1 ⟨x, H1, I1, r1, q1⟩ => ho pins s1 σ H1 x v Q I1 r1 q1)

/-! ### ints -/
theorem opI {f : Value → Value → Sem Value} {C : Int → Int → Prop} {g : Int → Int → Int}
    (rule : ∀ (i j : Int) (t u : Tok) (s : Shared) (Q : Value → Shared → Prop) (E : Value → Shared → Prop), C i j → Q (.int (g i j) s.toks) { s with toks := s.toks + 1 } → wpAny (model X.prog X.w) X.A (f (.int i t) (.int j u)) Q E s) :
    OpR X f (rI C fun i j => .int (g i j)) := by
  intro pins s σ H x y v u Q I rx ry h
  obtain ⟨i, j, rfl, rfl, hc, q⟩ := h
  obtain ⟨t, rfl⟩ := rx
  obtain ⟨t', rfl⟩ := ry
  exact rule i j t t' s _ _ hc ⟨.int (g i j), H, I.tok _, ⟨_, rfl⟩, q⟩
theorem opI0 {f : Value → Value → Sem Value} {g : Int → Int → Int}
    (rule : ∀ (i j : Int) (t u : Tok) (s : Shared) (Q : Value → Shared → Prop) (E : Value → Shared → Prop), Q (.int (g i j) s.toks) { s with toks := s.toks + 1 } → wpAny (model X.prog X.w) X.A (f (.int i t) (.int j u)) Q E s) :
    OpR X f (rI0 fun i j => .int (g i j)) := by
  intro pins s σ H x y v u Q I rx ry h
  obtain ⟨i, j, rfl, rfl, q⟩ := h
  obtain ⟨t, rfl⟩ := rx
  obtain ⟨t', rfl⟩ := ry
  exact rule i j t t' s _ _ ⟨.int (g i j), H, I.tok _, ⟨_, rfl⟩, q⟩
theorem opB0 {f : Value → Value → Sem Value} {g : Int → Int → Bool}
    (rule : ∀ (i j : Int) (t u : Tok) (s : Shared) (Q : Value → Shared → Prop) (E : Value → Shared → Prop), Q (.bool (g i j)) s → wpAny (model X.prog X.w) X.A (f (.int i t) (.int j u)) Q E s) :
    OpR X f (rI0 fun i j => .bl (g i j)) := by
  intro pins s σ H x y v u Q I rx ry h
  obtain ⟨i, j, rfl, rfl, q⟩ := h
  obtain ⟨t, rfl⟩ := rx
  obtain ⟨t', rfl⟩ := ry
  exact rule i j t t' s _ _ ⟨.bl (g i j), H, I, rfl, q⟩

def CDiv (i j : Int) : Prop := 0 < j ∧ j < 1073741824
def CMul (i j : Int) : Prop := (-(2 ^ 64) < i ∧ i < 2 ^ 64) ∨ (-(2 ^ 64) < j ∧ j < 2 ^ 64)
theorem CMul.ok {i j : Int} (h : CMul i j) : IntMulOk i j := by
  rcases h with ⟨h1, h2⟩ | ⟨h1, h2⟩
  · exact .of_left (intBits_le_64 h1 h2)
  · exact .of_right (intBits_le_64 h1 h2)

theorem op_add : OpR X (binaryOp .Add) (rI0 fun i j => .int (i + j)) := opI0 fun _ _ _ _ _ _ _ q => add_int q
theorem op_mul : OpR X (binaryOp .Mult) (rI CMul fun i j => .int (i * j)) := opI fun _ _ _ _ _ _ _ hc q => mul_int q hc.ok
/-- // by a positive divisor -/
theorem op_fdiv : OpR X (binaryOp .FloorDiv) (rI CDiv fun i j => .int (i / j)) := opI fun i j _ _ _ _ _ hc q => by
  have h1 : (0 : Int) < j := hc.1
  have h2 : j < 1073741824 := hc.2
  exact floordiv_int (by omega) (by rw [Int.fdiv_eq_ediv_of_nonneg i (by omega)]; exact q) (.inl (PyProof.noPylong_small (by omega)))
/-- % by a positive divisor of any size -/
theorem op_mod : OpR X (binaryOp .Mod) (rI (fun _ j => 0 < j) fun i j => .int (i % j)) := opI fun i j _ _ _ _ _ hc q => by
  have h1 : (0 : Int) < j := hc
  exact mod_int' (by omega) (by rw [Int.fmod_eq_emod_of_nonneg i (by omega)]; exact q)


theorem unI {f : Value → Sem Value} {g : Int → Int}
    (rule : ∀ (i : Int) (t : Tok) (s : Shared) (Q : Value → Shared → Prop) (E : Value → Shared → Prop), Q (.int (g i) s.toks) { s with toks := s.toks + 1 } → wpAny (model X.prog X.w) X.A (f (.int i t)) Q E s) :
    UnR X f (rU fun i => .int (g i)) := by
  intro pins s σ H x v Q I rx h
  obtain ⟨i, rfl, q⟩ := h
  obtain ⟨t, rfl⟩ := rx
  exact rule i t s _ _ ⟨.int (g i), H, I.tok _, ⟨_, rfl⟩, q⟩
theorem un_neg : UnR X (unaryOp .USub) (rU fun i => .int (-i)) := unI fun _ _ _ _ _ q => neg_int q

/-! ### bools among ints: n += (a < b) -/
end

/-! ### comparisons -/
/-- the scalars that == tells apart as data does -/
def scal : V → V → Bool
  | .non, .non => true | .non, .int _ => true | .int _, .non => true | .non, .bl _ => true | .bl _, .non => true | .non, .str _ => true | .str _, .non => true
  | .int _, .int _ => true | .bl _, .bl _ => true | .str _, .str _ => true | .byt _, .byt _ => true
  | .int _, .str _ => true | .str _, .int _ => true | .bl _, .str _ => true | .str _, .bl _ => true
  | _, _ => false
def rEq : R2 := fun x y H Q => scal x y = true ∧ Q (.bl (decide (x = y))) H
def rNe : R2 := fun x y H Q => scal x y = true ∧ Q (.bl (!decide (x = y))) H

theorem dec_int {i j : Int} : decide (V.int i = V.int j) = (i == j) := by
  rw [Bool.eq_iff_iff]
  simp
theorem dec_bl {i j : Bool} : decide (V.bl i = V.bl j) = (i == j) := by
  rw [Bool.eq_iff_iff]
  simp
theorem dec_str {i j : Str} : decide (V.str i = V.str j) = (i == j) := by
  rw [Bool.eq_iff_iff]
  simp
theorem dec_byt {i j : Array UInt8} : decide (V.byt i = V.byt j) = (i.toList == j.toList) := by
  rw [Bool.eq_iff_iff]
  cases i
  cases j
  simp

section
variable {X : Cx} {a b c : Expr} {ta tb tc : TE} {pos : Pos}
theorem fin_bl {pins : List (Addr × Obj)} {σ : St} {H : Hp} {s : Shared} {Q : VK} {k k' : Bool} (I : Inv X pins σ H s) (q : Q (.bl k) H) (e : k = k') : EP X pins σ Q (.bool k') s := by
  subst e
  exact ⟨.bl k, H, I, rfl, q⟩
theorem op_eq : OpR X (compareOp .Eq) rEq := by
  intro pins s σ H x y v u Q I rx ry h
  obtain ⟨hs, q⟩ := h
  cases x with
  | non =>
    cases rx
    cases y with
    | non => cases ry; exact PySem.EqNone.eq_none_none (fin_bl I q (by simp))
    | bl j => cases ry; exact PySem.EqNone.eq_none_bool (fin_bl I q (by simp))
    | int j => obtain ⟨t', rfl⟩ := ry; exact PySem.EqNone.eq_none_int (fin_bl I q (by simp))
    | str j => obtain ⟨t', rfl⟩ := ry; exact PySem.EqNone.eq_none_str (fin_bl I q (by simp))
    | _ => exact absurd (show false = true from hs) Bool.false_ne_true
  | bl i =>
    cases rx
    cases y with
    | non => cases ry; exact PySem.EqNone.eq_bool_none (fin_bl I q (by simp))
    | bl j => cases ry; exact eq_bool (fin_bl I q dec_bl)
    | str j => obtain ⟨t', rfl⟩ := ry; exact PySem.EqMixed.eq_bool_str (fin_bl I q (by simp))
    | _ => exact absurd (show false = true from hs) Bool.false_ne_true
  | int i =>
    obtain ⟨t, rfl⟩ := rx
    cases y with
    | non => cases ry; exact PySem.EqNone.eq_int_none (fin_bl I q (by simp))
    | int j => obtain ⟨t', rfl⟩ := ry; exact eq_int (fin_bl I q dec_int)
    | str j => obtain ⟨t', rfl⟩ := ry; exact PySem.EqMixed.eq_int_str (fin_bl I q (by simp))
    | _ => exact absurd (show false = true from hs) Bool.false_ne_true
  | str i =>
    obtain ⟨t, rfl⟩ := rx
    cases y with
    | non => cases ry; exact PySem.EqNone.eq_str_none (fin_bl I q (by simp))
    | bl j => cases ry; exact PySem.EqMixed.eq_str_bool (fin_bl I q (by simp))
    | int j => obtain ⟨t', rfl⟩ := ry; exact PySem.EqMixed.eq_str_int (fin_bl I q (by simp))
    | str j => obtain ⟨t', rfl⟩ := ry; exact eq_str (fin_bl I q dec_str)
    | _ => exact absurd (show false = true from hs) Bool.false_ne_true
  | byt i =>
    obtain ⟨t, rfl⟩ := rx
    cases y with
    | byt j => obtain ⟨t', rfl⟩ := ry; exact PySem.W.eq_bytes (fin_bl I q dec_byt)
    | _ => exact absurd (show false = true from hs) Bool.false_ne_true
  | _ => cases y <;> exact absurd (show false = true from hs) Bool.false_ne_true
theorem op_ne : OpR X (compareOp .NotEq) rNe := by
  intro pins s σ H x y v u Q I rx ry h
  obtain ⟨hs, q⟩ := h
  cases x with
  | non =>
    cases rx
    cases y with
    | non => cases ry; exact PySem.EqNone.ne_none_none (fin_bl I q (by simp))
    | bl j => cases ry; exact PySem.EqNone.ne_none_bool (fin_bl I q (by simp))
    | int j => obtain ⟨t', rfl⟩ := ry; exact PySem.EqNone.ne_none_int (fin_bl I q (by simp))
    | str j => obtain ⟨t', rfl⟩ := ry; exact PySem.EqNone.ne_none_str (fin_bl I q (by simp))
    | _ => exact absurd (show false = true from hs) Bool.false_ne_true
  | bl i =>
    cases rx
    cases y with
    | non => cases ry; exact PySem.EqNone.ne_bool_none (fin_bl I q (by simp))
    | bl j => cases ry; exact ne_bool (fin_bl I q (congrArg not dec_bl))
    | str j => obtain ⟨t', rfl⟩ := ry; exact PySem.EqMixed.ne_bool_str (fin_bl I q (by simp))
    | _ => exact absurd (show false = true from hs) Bool.false_ne_true
  | int i =>
    obtain ⟨t, rfl⟩ := rx
    cases y with
    | non => cases ry; exact PySem.EqNone.ne_int_none (fin_bl I q (by simp))
    | int j => obtain ⟨t', rfl⟩ := ry; exact ne_int (fin_bl I q (congrArg not dec_int))
    | str j => obtain ⟨t', rfl⟩ := ry; exact PySem.EqMixed.ne_int_str (fin_bl I q (by simp))
    | _ => exact absurd (show false = true from hs) Bool.false_ne_true
  | str i =>
    obtain ⟨t, rfl⟩ := rx
    cases y with
    | non => cases ry; exact PySem.EqNone.ne_str_none (fin_bl I q (by simp))
    | bl j => cases ry; exact PySem.EqMixed.ne_str_bool (fin_bl I q (by simp))
    | int j => obtain ⟨t', rfl⟩ := ry; exact PySem.EqMixed.ne_str_int (fin_bl I q (by simp))
    | str j => obtain ⟨t', rfl⟩ := ry; exact ne_str (fin_bl I q (congrArg not dec_str))
    | _ => exact absurd (show false = true from hs) Bool.false_ne_true
  | byt i =>
    obtain ⟨t, rfl⟩ := rx
    cases y with
    | byt j => obtain ⟨t', rfl⟩ := ry; exact PySem.W.ne_bytes (fin_bl I q (congrArg not dec_byt))
    | _ => exact absurd (show false = true from hs) Bool.false_ne_true
  | _ => cases y <;> exact absurd (show false = true from hs) Bool.false_ne_true

theorem op_lt : OpR X (compareOp .Lt) (rI0 fun i j => .bl (decide (i < j))) := opB0 fun _ _ _ _ _ _ _ q => lt_int q
theorem op_gt : OpR X (compareOp .Gt) (rI0 fun i j => .bl (decide (j < i))) := opB0 fun _ _ _ _ _ _ _ q => gt_int q

/-- is None, is not None: the right side a value none -/
theorem op_isN : OpR X (compareOp .Is) (fun x y H Q => y = .non ∧ Q (.bl (decide (x = .non))) H) := by
  intro pins s σ H x y v u Q I rx ry h
  obtain ⟨rfl, q⟩ := h
  cases ry
  refine is_none_gen (fin_bl I q ?_)
  cases x <;> first
    | (cases rx; rfl)
    | (obtain ⟨t, rfl⟩ := rx; rfl)
theorem op_notN : OpR X (compareOp .IsNot) (fun x y H Q => y = .non ∧ Q (.bl (!decide (x = .non))) H) := by
  intro pins s σ H x y v u Q I rx ry h
  obtain ⟨rfl, q⟩ := h
  cases ry
  refine isnot_none_gen (fin_bl I q ?_)
  cases x <;> first
    | (cases rx; rfl)
    | (obtain ⟨t, rfl⟩ := rx; rfl)



theorem nomark (b : Expr) {op : CmpOp} (h : op ≠ .In := by decide) (h2 : op ≠ .NotIn := by decide) : behindInMarks op b = false := by
  have e1 : (op == CmpOp.In) = false := by cases op <;> first | rfl | exact absurd rfl h
  have e2 : (op == CmpOp.NotIn) = false := by cases op <;> first | rfl | exact absurd rfl h2
  cases b <;> simp [behindInMarks, e1, e2]
/-- a comparison as a value; hm: nomark b, or (for in, not in) by with_unfolding_all rfl -/
theorem pe_cmpR {op : CmpOp} {r : R2} (ho : OpR X (compareOp op) r) (ha : PE X a ta) (hb : PE X b tb) (hm : behindInMarks op b = false) : PE X (.Compare a [op] [b] pos) (tOp r ta tb) := by
  intro pins s σ H Q I h
  exact wpAny_Compare1 (binT ha hb I h fun v u s2 x y H2 I2 rx ry q => ho pins s2 σ H2 x y v u Q I2 rx ry q) hm
/-- a reading of a value as a test -/
def tTest (t : TE) : TT := fun σ H Q => t σ H fun x H' => ∃ k, x = .bl k ∧ Q k H'
theorem pt_cmpR {op : CmpOp} {r : R2} (ho : OpR X (compareOp op) r) (ha : PE X a ta) (hb : PE X b tb) (hm : behindInMarks op b = false) : PT X (.Compare a [op] [b] pos) (tTest (tOp r ta tb)) := by
  intro pins s σ H Q I h
  refine wpAny_isTrue_Compare1 (thn (ha pins s σ H _ I h) fun v s1 ⟨x, H1, I1, r1, q1⟩ => thn (hb pins s1 σ H1 _ I1 q1) fun u s2 ⟨y, H2, I2, r2, q2⟩ =>
    thn (ho pins s2 σ H2 x y v u _ I2 r1 r2 q2) fun c s3 ⟨z, H3, I3, r3, k, e, q3⟩ => ?_) hm
  subst e
  cases r3
  exact wpAny_truthy_bool ⟨H3, I3, q3⟩

/-! ### truth -/
/-- a value's truth by the abstract heap -/
def TruV (K : PySem.W.Frag) (x : V) (H : Hp) (k : Bool) : Prop :=
  match x with
  | .non => k = false
  | .bl b => k = b
  | .int i => k = (i != 0)
  | .str y => y.length ≤ sizeLine ∧ k = ((y.length : Int) != 0)
  | .byt y => y.size ≤ sizeLine ∧ k = ((y.size : Int) != 0)
  | .ref p => (∃ xs, SqL K H p xs ∧ k = !xs.isEmpty) ∨ (∃ xs, SqT K H p xs ∧ k = !xs.isEmpty) ∨ ∃ kvs, H p = some (.dK kvs) ∧ k = !kvs.isEmpty
  | _ => False
theorem isEmpty_kv {κ : Type} {kvs : List (κ × V)} {vs : List (κ × Value)} (r : KV kvs vs) : (!vs.isEmpty) = !kvs.isEmpty := by
  cases r <;> rfl
theorem isEmpty_of {xs : List V} {its : List Value} (r : Vals xs its) : (!its.toArray.isEmpty) = !xs.isEmpty := by
  cases r <;> simp
theorem line63 : (sizeLine : Nat) < 2 ^ 63 := by rw [sizeLine_eq]; decide
theorem tru_ok : TruR X (fun x H Q => ∃ k, TruV X.K x H k ∧ Q k H) := by
  intro pins s σ H x v Q I rx h
  obtain ⟨k, e, q⟩ := h
  have hl := line63
  have hs : sizeLine = 16777216 := sizeLine_eq
  cases x with
  | non =>
    cases rx
    have e' : k = false := e
    subst e'
    exact truthy_none ⟨H, I, q⟩
  | bl b =>
    cases rx
    have e' : k = b := e
    subst e'
    exact wpAny_truthy_bool ⟨H, I, q⟩
  | int i =>
    obtain ⟨t, rfl⟩ := rx
    have e' : k = (i != 0) := e
    subst e'
    exact PySem.P.truthy_int ⟨H, I, q⟩
  | str y =>
    obtain ⟨t, rfl⟩ := rx
    obtain ⟨hy, e'⟩ : y.length ≤ sizeLine ∧ k = ((y.length : Int) != 0) := e
    subst e'
    exact PySem.P.truthy_str (by omega) ⟨H, I.tok _, q⟩
  | byt y =>
    obtain ⟨t, rfl⟩ := rx
    obtain ⟨hy, e'⟩ : y.size ≤ sizeLine ∧ k = ((y.size : Int) != 0) := e
    subst e'
    exact PySem.W.truthy_bytes (by omega) ⟨H, I.tok _, q⟩
  | ref p =>
    cases rx
    have e' : (∃ xs, SqL X.K H p xs ∧ k = !xs.isEmpty) ∨ (∃ xs, SqT X.K H p xs ∧ k = !xs.isEmpty) ∨ ∃ kvs, H p = some (.dK kvs) ∧ k = !kvs.isEmpty := e
    rcases e' with ⟨xs, hx, e'⟩ | ⟨xs, hx, e'⟩ | ⟨kvs, hx, e'⟩
    · subst e'
      obtain ⟨its, r, pl, hz⟩ := I.list hx
      have hlen := r.length
      exact wpAny_truthy_list pl.isList (by simp only [List.size_toArray]; omega) ⟨H, I.tok _, by rw [isEmpty_of r]; exact q⟩
    · subst e'
      obtain ⟨its, r, pl, hz⟩ := I.tuple hx
      have hlen := r.length
      exact truthy_tuple pl (by simp only [List.size_toArray]; omega) ⟨H, I.tok _, by rw [isEmpty_of r]; exact q⟩
    · subst e'
      obtain ⟨hz, hS, vs, r, m⟩ : kvs.length ≤ sizeLine ∧ (p == sysModules) = false ∧ ∃ vs, KV kvs vs ∧ s.heap.DictOf (mixKind X.prog X.w) p vs := I.hok p _ hx
      have hlen : kvs.length = vs.length := Paired.length r
      exact wpAny_truthy_dict hS m (by omega) ⟨H, I.tok _, by rw [isEmpty_kv r]; exact q⟩
  | _ => exact (show False from e).elim
/-- any expression whose test is its value's truth (a name, a call, a subscript, a field ..: he by fun _ => rfl) -/
theorem pt_truth (ha : PE X a ta) (he : ∀ whole, isTrue a X.env whole = (do let v ← whole; standAt a.pos; holding [v] (truthy v))) :
    PT X a (fun σ H Q => ta σ H fun x H' => ∃ k, TruV X.K x H' k ∧ Q k H') := by
  intro pins s σ H Q I h
  exact isTrue_plain (thn (ha pins s σ H _ I h) fun v s1 ⟨x, H1, I1, r1, q1⟩ => tru_ok pins s1 σ H1 x v Q I1 r1 q1) (he _)

/-! ### strs and bytes -/


/-! ### scalar builtins, by CallR -/
theorem vals1 {x : V} {us : List Value} (r : Vals [x] us) : ∃ u, us = [u] ∧ RelV x u := by
  cases r with
  | cons r1 r2 => cases r2; exact ⟨_, rfl, r1⟩
theorem vals2 {x y : V} {us : List Value} (r : Vals [x, y] us) : ∃ u w', us = [u, w'] ∧ RelV x u ∧ RelV y w' := by
  cases r with
  | cons r1 r2 =>
    cases r2 with
    | cons r3 r4 => cases r4; exact ⟨_, _, rfl, r1, r3⟩
theorem call_min2 (hc : X.calm = true) : CallR X (.builtin "min") (fun xs H Q => ∃ i j, xs = [.int i, .int j] ∧ Q (.int (if j < i then j else i)) H) := by
  intro pins s σ H xs us Q I r h
  obtain ⟨i, j, rfl, q⟩ := h
  obtain ⟨u, w', rfl, ⟨t, rfl⟩, ⟨t', rfl⟩⟩ := vals2 r
  refine min_two_ints (I.ok.hd hc) fun h' tk k => ⟨_, H, I.kept k, ?_, q⟩
  by_cases hj : j < i
  · rw [if_pos hj, if_pos hj]; exact ⟨_, rfl⟩
  · rw [if_neg hj, if_neg hj]; exact ⟨_, rfl⟩
end
end L2

namespace L2
open PySem PySem.Spec PyProof.Rows

/-! ### an instance, its attributes a map -/
structure ObjM (h : Heap) (x dx C : Addr) (mA : Str → Option Value) : Prop where
  obj : h.get? x = some (PySem.W.instObj C dx)
  ns : h.Ns1 dx mA
  ne : dx ≠ x

theorem lookIn_ns {h : Heap} {dx : Addr} {mA : Str → Option Value} (n : h.Ns1 dx mA) : ∃ od, h.get? dx = some od ∧ ∀ name, PySem.W.lookIn name od = some (mA name) := by
  obtain ⟨o, es, ep, ho, hd, hk, _, hm⟩ := n
  refine ⟨o, ho, fun name => ?_⟩
  have e := hm name
  unfold nsFind findBy at e
  rw [← Array.find?_toList] at e
  unfold PySem.W.lookIn
  rw [hd]
  dsimp only
  split
  · rename_i y q
    rw [q] at e
    exact congrArg some e
  · rename_i q
    rw [q] at e
    have a : es.toList.any (·.refKey) = false := by
      rw [List.any_eq_false]
      intro y hy
      obtain ⟨z, t, hkey⟩ := hk y (Array.mem_toList_iff.mp hy)
      simp [DictEntry.refKey, hkey]
    have a' : ¬ es.toList.any (·.refKey) = true := by rw [a]; exact Bool.false_ne_true
    rw [if_neg a']
    exact congrArg some e

theorem ObjM.look {h : Heap} {x dx C : Addr} {mA : Str → Option Value} (I : ObjM h x dx C mA) : ∃ od, PySem.W.InstAt h x (PySem.W.instObj C dx) C (some od) ∧ ∀ name, PySem.W.lookIn name od = some (mA name) :=
  let ⟨od, ho, hl⟩ := lookIn_ns I.ns
  ⟨od, ⟨I.obj, rfl, rfl, ho⟩, hl⟩

section
variable {prog : Program} {w : World} {A : Around} {E : Value → Shared → Prop} {s : Shared} {K : PySem.W.Frag} {x dx C f : Addr} {mA : Str → Option Value} {name : Str} {v : Value}

theorem get_map {expr : Bool} {Q : Value → Shared → Prop} (X : K.In s.heap) (I : ObjM s.heap x dx C mA) (hg : PySem.W.plainGet K C name = true) (hh : PySem.W.hasDictIn K C = true)
    (ha : PySem.W.findIn K (.ref C) name = some none) (hv : mA name = some v) (hv' : PySem.W.handedIn v = true) (h : Q v { s with toks := s.toks + 1 }) :
    wpAny (model prog w) A (getAttr (.ref x) name expr) Q E s := by
  obtain ⟨od, J, hl⟩ := I.look
  exact PySem.W.get_value X J (PySem.W.plainGet_of hg).1 (PySem.W.findObj_own hh ha rfl (by rw [hl, hv])) hv' h


theorem get_meth {pl : Sem Bool} {Q : Value × List Value → Shared → Prop} (X : K.In s.heap) (I : ObjM s.heap x dx C mA) (hg : PySem.W.plainGet K C name = true)
    (hf : PySem.W.findIn K (.ref C) name = some (some (.ref f))) (ht : PySem.W.isFn K (.ref f) = true) (hv : mA name = none) (h : Q (.ref f, [.ref x]) s) :
    wpAny (model prog w) A (getMethod (.ref x) name pl) Q E s := by
  obtain ⟨od, J, hl⟩ := I.look
  exact PySem.W.method_fn X J (PySem.W.plainGet_of hg).1 (PySem.W.plainGet_of hg).2 hf (beq_iff_eq.mp ht) (by show (PySem.W.lookIn name od).map (·.isSome) = some false; rw [hl, hv]; rfl) h

theorem set_map {ns : List Str} {Q : Unit → Shared → Prop} (X : K.In s.heap) (I : ObjM s.heap x dx C mA)
    (hs : PySem.W.findIn K (.ref C) "__setattr__" = some (some (.builtin "object.__setattr__"))) (hp : PySem.W.plainOver K C = true) (ht : PySem.W.takerIn K C name = some none) (hh : PySem.W.hasDictIn K C = true)
    (hw : PySem.Within mA ns) (hsz : ns.length ≤ sizeLine)
    (h : ∀ h', ObjM h' x dx C (fun y => if y = name then some v else mA y) → Heap.SameBut dx s.heap h' → Q () { s with heap := h', toks := s.toks + 2 }) :
    wpAny (model prog w) A (setAttr (.ref x) name v) Q E s := by
  obtain ⟨od, J, hl⟩ := I.look
  refine PySem.W.set_plain X J hs (PySem.W.osa_open (s := { s with toks := s.toks + 1 }) (r := none) X J hp ht fun b => ?_)
  obtain ⟨cd, hc, hd'⟩ := PySem.W.any_some hh
  have hx : s.heap.get? x = some ⟨.ref C, some dx, .plain, #[]⟩ := I.obj
  refine wpAny_bind (wpAny_pure (wpAny_bind (wpAny_bind (wpAny_loadPart hx (wpAny_bind (PySem.W.Looks.here (s := { s with toks := s.toks + 1 }) (PySem.W.looks_clsIn X hc) ?_))))))
  rw [hd']
  refine wpAny_pure (a := some dx) (wpAny_bind (wpAny_pure (wpAny_bind ?_)))
  refine wpAny_nsSet1 (s := { s with toks := s.toks + 1 }) I.ns fun h' hn2 hs2 => ?_
  obtain ⟨oD, esD, epD, hoD, hdD, hcD⟩ := hn2.count (PySem.Within.cons name v hw)
  refine wpAny_bind (wpAny_lookBehind hoD (by rw [hdD]; exact pastItsLine_dict (Nat.le_trans hcD (by rw [List.length_cons]; omega))) ?_)
  exact wpAny_pure (h _ ⟨(hs2.2 _ (Ne.symm I.ne)).trans I.obj, hn2, I.ne⟩ hs2)

/-- C(..): the dict at the heap's end, the instance behind it; then its __init__ -/
theorem make_map {R : Result → Shared → Prop} {vs : List Value} {kw : List (Str × Value)} (X : K.In s.heap) (hm : PySem.W.makesIn K C = true)
    (hi : PySem.W.findIn K (.ref C) "__init__" = some (some (.ref f))) (hf : PySem.W.typeIn K (.ref f) = some (.type "function"))
    (h : codeAny (model prog w) (A.under (.builtin "type.__call__" ⟨.ref C :: vs, kw⟩)) (.call (.ref f) ⟨.ref (s.heap.objs.size + 1) :: vs, kw⟩) (PySem.W.InitBack (s.heap.objs.size + 1) R)
      { s with heap := (s.heap.push PySem.W.emptyDict).push (PySem.W.instObj C s.heap.objs.size) }) :
    codeAny (model prog w) A (.call (.ref C) ⟨vs, kw⟩) R s := by
  obtain ⟨hh, g, d, t, os⟩ := s
  exact PySem.W.make_core (PySem.W.makes_of X hm) (PySem.W.looks_findIn X hi) (fun self => PySem.W.bind_fn X self hf) (.inl rfl) h
end

/-! ### the attributes as a list of pairs -/
def putF (f : Str) (v : V) : List (Str × V) → List (Str × V)
  | [] => [(f, v)]
  | (g, x) :: r => if g = f then (g, v) :: r else (g, x) :: putF f v r
theorem lookup_putF (f g : Str) (v : V) : ∀ fs : List (Str × V), (putF f v fs).lookup g = if g = f then some v else fs.lookup g
  | [] => by
    show List.lookup g [(f, v)] = _
    by_cases h : g = f
    · have hb : (g == f) = true := beq_iff_eq.mpr h
      simp only [List.lookup, hb, if_pos h]
    · have hb : (g == f) = false := beq_eq_false_iff_ne.mpr h
      simp only [List.lookup, hb, if_neg h]
  | (k, x) :: r => by
    have ih := lookup_putF f g v r
    rw [show putF f v ((k, x) :: r) = (if k = f then (k, v) :: r else (k, x) :: putF f v r) from rfl]
    by_cases hk : k = f
    · rw [if_pos hk]
      by_cases h : g = k
      · have hb : (g == k) = true := beq_iff_eq.mpr h
        simp only [List.lookup, hb, if_pos (h.trans hk)]
      · have hb : (g == k) = false := beq_eq_false_iff_ne.mpr h
        simp only [List.lookup, hb, if_neg (fun e : g = f => h (e.trans hk.symm))]
    · rw [if_neg hk]
      by_cases h : g = k
      · have hb : (g == k) = true := beq_iff_eq.mpr h
        simp only [List.lookup, hb, if_neg (fun e : g = f => hk (h.symm.trans e))]
      · have hb : (g == k) = false := beq_eq_false_iff_ne.mpr h
        simp only [List.lookup, hb]
        exact ih
theorem keys_putF (f : Str) (v : V) : ∀ fs : List (Str × V), f ∈ (putF f v fs).map (·.1) ∧ ∀ g, g ∈ fs.map (·.1) → g ∈ (putF f v fs).map (·.1)
  | [] => ⟨by simp [putF], fun g h => by simp at h⟩
  | (k, x) :: r => by
    obtain ⟨i1, i2⟩ := keys_putF f v r
    rw [show putF f v ((k, x) :: r) = (if k = f then (k, v) :: r else (k, x) :: putF f v r) from rfl]
    by_cases hk : k = f
    · rw [if_pos hk]
      subst hk
      exact ⟨by simp, fun g h => by simpa using h⟩
    · rw [if_neg hk]
      refine ⟨?_, fun g h => ?_⟩
      · rw [List.map_cons]
        exact List.mem_cons_of_mem _ i1
      · rw [List.map_cons] at h ⊢
        rcases List.mem_cons.mp h with e | e
        · exact List.mem_cons.mpr (.inl e)
        · exact List.mem_cons_of_mem _ (i2 g e)
theorem length_putF (f : Str) (v : V) : ∀ fs : List (Str × V), (putF f v fs).length ≤ fs.length + 1
  | [] => by simp [putF]
  | (k, x) :: r => by
    have ih := length_putF f v r
    rw [show putF f v ((k, x) :: r) = (if k = f then (k, v) :: r else (k, x) :: putF f v r) from rfl]
    by_cases hk : k = f
    · rw [if_pos hk, List.length_cons, List.length_cons]; omega
    · rw [if_neg hk, List.length_cons, List.length_cons]; omega

theorem RelO.some_of {v : V} {o : Option Value} (r : RelO (some v) o) : ∃ u, o = some u ∧ RelV v u := by
  cases o with
  | none => exact (show False from r).elim
  | some u => exact ⟨u, rfl, r⟩
theorem RelO.none_of {o : Option Value} (r : RelO none o) : o = none := by
  cases o with
  | none => rfl
  | some u => exact (show False from r).elim
theorem handed_of {v : V} {u : Value} (r : RelV v u) : PySem.W.handedIn u = true := by
  cases v with
  | non => cases (show u = Value.none from r); rfl
  | bl b => cases (show u = Value.bool b from r); rfl
  | int i => obtain ⟨t, e⟩ := (show ∃ t, u = Value.int i t from r); cases e; rfl
  | str x => obtain ⟨t, e⟩ := (show ∃ t, u = Value.str x t from r); cases e; rfl
  | byt b => obtain ⟨t, e⟩ := (show ∃ t, u = Value.bytes b t from r); cases e; rfl
  | flt b => obtain ⟨t, e⟩ := (show ∃ t, u = Value.float b t from r); cases e; rfl
  | ref a => cases (show u = Value.ref a from r); rfl
  | ty n => cases (show u = Value.type n from r); rfl

section
variable {P : Program} {w : World} {H H' : Hp} {h h' : Heap} {a C dx : Addr} {fs fs' : List (Str × V)}
theorem ins_get (hok : HOk P w H h) (e : H a = some (.ins C dx fs)) : ∃ mA, ObjM h a dx C mA ∧ (∀ f, RelO (fs.lookup f) (mA f)) ∧ PySem.Within mA (fs.map (·.1)) ∧ fs.length ≤ 1000 ∧ H dx = some (.own a) := by
  obtain ⟨d, z, ne, ob, mA, n, r, q⟩ := (show ObjOk P w H h a (.ins C dx fs) from hok a _ e)
  exact ⟨mA, ⟨ob, n, ne⟩, r, q, z, d⟩
end

/-! ### what of the text a class must have -/
structure Cls (K : PySem.W.Frag) (C : Addr) : Prop where
  pg : PySem.W.plainGet K C Str.empty = true
  hd : PySem.W.hasDictIn K C = true
  po : PySem.W.plainOver K C = true
  sa : PySem.W.findIn K (.ref C) "__setattr__" = some (some (.builtin "object.__setattr__"))
theorem Cls.get {K : PySem.W.Frag} {C : Addr} (c : Cls K C) (f : Str) : PySem.W.plainGet K C f = true := c.pg
/-- no class of it has the name -/
def NoAttr (K : PySem.W.Frag) (C : Addr) (f : Str) : Prop := PySem.W.findIn K (.ref C) f = some none
theorem NoAttr.taker {K : PySem.W.Frag} {C : Addr} {f : Str} (n : NoAttr K C f) : PySem.W.takerIn K C f = some none := by
  unfold PySem.W.takerIn
  rw [show PySem.W.findIn K (.ref C) f = some none from n]
  rfl
/-- a method: a plain def of the class or of one above it -/
structure Meth (K : PySem.W.Frag) (C : Addr) (m : Str) (f : Addr) : Prop where
  at_ : PySem.W.findIn K (.ref C) m = some (some (.ref f))
  fn : PySem.W.isFn K (.ref f) = true
  kp : PySem.W.keepIn K (.ref f) = true

section
variable {X : Cx} {pins : List (Addr × Obj)} {σ : St} {H : Hp} {s : Shared} {a C dx : Addr} {fs : List (Str × V)} {f : Str} {v : V} {A : Around} {E : Value → Shared → Prop}

theorem getattr_ok {b : Bool} {Q : Value → Shared → Prop} (I : Inv X pins σ H s) (e : H a = some (.ins C dx fs)) (c : Cls X.K C) (n : NoAttr X.K C f) (l : fs.lookup f = some v)
    (h : ∀ u s', Inv X pins σ H s' → RelV v u → Q u s') : wpAny (model X.prog X.w) A (getAttr (.ref a) f b) Q E s := by
  obtain ⟨mA, O, r, _, _, _⟩ := ins_get I.hok e
  obtain ⟨u, hu, ru⟩ := RelO.some_of (v := v) (o := mA f) (by rw [← l]; exact r f)
  exact get_map I.kIn O (c.get f) c.hd n hu (handed_of ru) (h u _ (I.tok _) ru)


theorem getmeth_ok {m : Str} {g : Addr} {pl : Sem Bool} {Q : Value × List Value → Shared → Prop} (I : Inv X pins σ H s) (e : H a = some (.ins C dx fs)) (c : Cls X.K C) (k : Meth X.K C m g) (l : fs.lookup m = none)
    (h : Q (.ref g, [.ref a]) s) : wpAny (model X.prog X.w) A (getMethod (.ref a) m pl) Q E s := by
  obtain ⟨mA, O, r, _, _, _⟩ := ins_get I.hok e
  have hn : mA m = none := RelO.none_of (by rw [← l]; exact r m)
  exact get_meth I.kIn O (c.get m) k.at_ k.fn hn h

theorem setattr_ok {y : V} {u : Value} {Q : Unit → Shared → Prop} (I : Inv X pins σ H s) (e : H a = some (.ins C dx fs)) (c : Cls X.K C) (n : NoAttr X.K C f) (hl : fs.length < 1000) (ry : RelV y u)
    (h : ∀ s', Inv X pins σ (upd H a (.ins C dx (putF f y fs))) s' → Q () s') : wpAny (model X.prog X.w) A (setAttr (.ref a) f u) Q E s := by
  obtain ⟨mA, O, r, wi, _, ho⟩ := ins_get I.hok e
  have hz : (fs.map (·.1)).length ≤ sizeLine := by rw [List.length_map, sizeLine_eq]; omega
  refine set_map I.kIn O c.sa c.po n.taker c.hd wi hz fun h' O' sb => h _ ?_
  have hd : ∃ o, h'.get? dx = some o := let ⟨o, _, _, e', _⟩ := O'.ns; ⟨o, e'⟩
  refine I.write (x := a) (e := dx) (by rw [e]; exact True.intro) (.inr ho) (fun b q hb z => (sb.2 b hb).trans z) hd ?_
  refine ⟨by rw [upd_ne O.ne]; exact ho, ?_, O.ne, O'.obj, _, O'.ns, fun g => ?_, fun g hg => ?_⟩
  · have := length_putF f y fs; omega
  · show RelO ((putF f y fs).lookup g) (if g = f then some u else mA g)
    rw [lookup_putF]
    by_cases q : g = f
    · rw [if_pos q, if_pos q]; exact ry
    · rw [if_neg q, if_neg q]; exact r g
  · by_cases q : g = f
    · rw [q]; exact (keys_putF f y fs).1
    · refine (keys_putF f y fs).2 g (wi g fun z => hg ?_)
      show (if g = f then some u else mA g) = none
      rw [if_neg q]; exact z

/-- a new instance, tracked, without attributes -/
theorem Inv.made (I : Inv X pins σ H s) : Inv X pins σ (upd (upd H s.heap.objs.size (.own (s.heap.objs.size + 1))) (s.heap.objs.size + 1) (.ins C s.heap.objs.size []))
    { s with heap := (s.heap.push PySem.W.emptyDict).push (PySem.W.instObj C s.heap.objs.size) } := by
  have e1 : (s.heap.push PySem.W.emptyDict).get? s.heap.objs.size = some PySem.W.emptyDict := Heap.get?_push_size s.heap rfl
  have e2 : ((s.heap.push PySem.W.emptyDict).push (PySem.W.instObj C s.heap.objs.size)).get? (s.heap.objs.size + 1) = some (PySem.W.instObj C s.heap.objs.size) := by
    have := Heap.get?_push_size (s.heap.push PySem.W.emptyDict) (o := PySem.W.instObj C s.heap.objs.size) rfl
    rwa [Heap.size_push] at this
  have e3 : (s.heap.push PySem.W.emptyDict).Ns s.heap.objs.size (fun _ => none) := ⟨PySem.W.emptyDict, #[], _, e1, rfl, (fun e he => absurd he (by simp)), fun _ => rfl⟩
  have I1 := I.laid (a := s.heap.objs.size) (o := .own (s.heap.objs.size + 1)) (h' := s.heap.push PySem.W.emptyDict) (t' := s.toks) (fun b u q => Heap.get?_push_of_some _ q) (Nat.le_refl _) ⟨_, e1⟩
  refine I1.laid (a := s.heap.objs.size + 1) (o := .ins C s.heap.objs.size []) (t' := s.toks) (fun b u q => Heap.get?_push_of_some _ q) (Nat.le_of_eq (Heap.size_push _ _)) ?_
  have ne : s.heap.objs.size ≠ s.heap.objs.size + 1 := Nat.ne_of_lt (Nat.lt_succ_self _)
  refine ⟨by rw [upd_ne ne, upd_same], Nat.zero_le _, ne, e2, fun _ => none, (Heap.Ns1.of_empty e3).at fun o q => Heap.get?_push_of_some _ q, fun _ => True.intro, fun y hy => absurd rfl hy⟩

/-- e.f where nothing but the object is asked: through attributeBase (super) and the last hold -/
theorem attr_of {prog : Program} {w : World} {env : Env} {e : Expr} {f : Str} {pos : Pos} {s : Shared} {Q : Value → Shared → Prop} (hb : attributeBase e f env (eval e env) = eval e env)
    (h : wpAny (model prog w) A (eval e env) (fun o s₁ => wpAny (model prog w) A (getAttr o f true) Q E s₁) E s) : wpAny (model prog w) A (eval (.Attribute e f pos) env) Q E s :=
  Attribute_any_ h (by rw [arm_eval_Attribute, hb])
end

/-! ### readings and rules -/
/-- e.f, an attribute of the instance -/
def tFld (K : PySem.W.Frag) (ta : TE) (f : Str) : TE := fun σ H Q => ta σ H fun x H1 => ∃ a C dx fs v, x = .ref a ∧ H1 a = some (.ins C dx fs) ∧ Cls K C ∧ NoAttr K C f ∧ fs.lookup f = some v ∧ Q v H1
/-- e.f = value -/
def sFld (K : PySem.W.Frag) (ta tv : TE) (f : Str) : TS := fun D σ H => tv σ H fun y H1 => ta σ H1 fun x H2 => ∃ a C dx fs, x = .ref a ∧ H2 a = some (.ins C dx fs) ∧ Cls K C ∧ NoAttr K C f ∧ fs.length < 1000 ∧
  D.nx σ (upd H2 a (.ins C dx (putF f y fs)))
/-- an augmented operator on two values -/
def InOp (X : Cx) (op : Operator) (rd : V → V → Hp → VK → Prop) : Prop :=
  ∀ (pins : List (Addr × Obj)) (s : Shared) (σ : St) (H : Hp) (x y : V) (u v : Value) (Q : VK), Inv X pins σ H s → RelV x u → RelV y v → rd x y H Q → wpAny (model X.prog X.w) X.A (inplaceOp op u v) (EP X pins σ Q) X.xe s

section
variable {X : Cx} {o e value : Expr} {f : Str} {pos pos' tpos : Pos} {ta tv : TE}
theorem pe_fld (he : PE X e ta) (hb : attributeBase e f X.env (eval e X.env) = eval e X.env) : PE X (.Attribute e f pos) (tFld X.K ta f) := by
  intro pins s σ H Q I h
  refine attr_of hb (thn (he pins s σ H _ I h) fun u s1 ⟨x, H1, I1, rx, a, C, dx, fs, v, ex, ea, c, n, l, q⟩ => ?_)
  subst ex
  obtain rfl : u = Value.ref a := rx
  exact getattr_ok I1 ea c n l fun u' s2 I2 ru => ⟨v, H1, I2, ru, q⟩
theorem ps_fld (ha : PE X o ta) (hv : PE X value tv) (hs : swapsWith value (some (.Attribute o f pos')) pos.line X.env = pure false) : PS X (.Assign [.Attribute o f pos'] value pos) (sFld X.K ta tv f) := by
  intro pins s σ H D I h
  refine plainObj_wpAny_Assign_Attribute (thn (hv pins s σ H _ I h) fun u s1 ⟨y, H1, I1, ry, q⟩ => thn (ha pins s1 σ H1 _ I1 q) fun ov s2 ⟨x, H2, I2, rx, a, C, dx, fs, ex, ea, c, n, l, q2⟩ => ?_) hs
  subst ex
  obtain rfl : ov = Value.ref a := rx
  exact setattr_ok I2 ea c n l ry fun s3 I3 => ⟨σ, _, I3, q2⟩

end

/-! ### isinstance -/
section
variable {X : Cx} {pins : List (Addr × Obj)} {σ : St} {H : Hp} {s : Shared} {A : Around} {E : Value → Shared → Prop} {Q : Value → Shared → Prop} {c : Value} {b : Bool}
/-- the type of a value, as the fragment's deciders take it; for an instance its class -/
inductive TyOf (K : PySem.W.Frag) (H : Hp) : V → Value → Prop where
  | non : TyOf K H .non (.type "NoneType")
  | bl (x : Bool) : TyOf K H (.bl x) (.type "bool")
  | int (i : Int) : TyOf K H (.int i) (.type "int")
  | str (x : Str) : TyOf K H (.str x) (.type "str")
  | flt (x : UInt64) : TyOf K H (.flt x) (.type "float")
  | lst {a : Addr} {xs : List V} (e : H a = some (.lst xs)) : TyOf K H (.ref a) (.type "list")
  | frz {a : Addr} {o : Obj} {xs : List V} (e : H a = some (.frz o (.lst xs))) : TyOf K H (.ref a) (.type "list")
  | tup {a : Addr} {xs : List V} (e : H a = some (.tup xs)) : TyOf K H (.ref a) (.type "tuple")
  | dK {a : Addr} {kvs : List (Key × V)} (e : H a = some (.dK kvs)) : TyOf K H (.ref a) (.type "dict")
  | dT {a : Addr} {kvs : List (List Key × V)} (e : H a = some (.dT kvs)) : TyOf K H (.ref a) (.type "dict")
  | ins {a C dx : Addr} {fs : List (Str × V)} (e : H a = some (.ins C dx fs)) (cl : Cls K C) (ha : PySem.W.findIn K (.ref C) "__class__" = some (some (.builtin "object.__class__")))
      (hn : PySem.W.specialIn K (.builtin "object.__class__") "__get__" = some (some (.builtin "getset_descriptor.__get__"))) (htk : PySem.W.takesIn K (.builtin "object.__class__") = some true)
      (hm : PySem.W.mroIn K C (.type "object") = some true) : TyOf K H (.ref a) (.ref C)
/-- isinstance(x, c) for one class c, a built-in or an own one: kitOne's answer -/
theorem isinst_ok {x : V} {u t : Value} (I : Inv X pins σ H s) (rx : RelV x u) (ty : TyOf X.K H x t) (e : PySem.W.kitOne X.K t c = some b) (h : ∀ tk, Q (.bool b) { s with toks := tk }) :
    wpAny (model X.prog X.w) A (call (.builtin "isinstance") [u, c]) Q E s := by
  cases ty with
  | non => cases (show u = Value.none from rx); exact PySem.W.kia_one PySem.W.kitx_none I.kIn True.intro e (fun z => nomatch z) h
  | bl y => cases (show u = Value.bool y from rx); exact PySem.W.kia_one PySem.W.kitx_bool I.kIn True.intro e (fun z => nomatch z) h
  | int i => obtain ⟨t, q⟩ := (show ∃ t, u = Value.int i t from rx); cases q; exact PySem.W.kia_one PySem.W.kitx_int I.kIn True.intro e (fun z => nomatch z) h
  | str y => obtain ⟨t, q⟩ := (show ∃ t, u = Value.str y t from rx); cases q; exact PySem.W.kia_one PySem.W.kitx_str I.kIn True.intro e (fun z => nomatch z) h
  | flt y => obtain ⟨t, q⟩ := (show ∃ t, u = Value.float y t from rx); cases q; exact PySem.W.kia_one PySem.W.kitx_float I.kIn True.intro e (fun z => nomatch z) h
  | @lst a xs ea =>
    cases (show u = Value.ref a from rx)
    obtain ⟨_, _, n, _, h1⟩ := (show ObjOk X.prog X.w H s.heap a (.lst xs) from I.hok a _ ea)
    exact PySem.W.kia_one PySem.W.kitx_list I.kIn ⟨_, h1, rfl⟩ e (fun z => nomatch z) h
  | @frz a ob xs ea =>
    cases (show u = Value.ref a from rx)
    obtain ⟨_, _, _, n, _, h1⟩ := (show ObjOk X.prog X.w H s.heap a (.frz ob (.lst xs)) from I.hok a _ ea)
    exact PySem.W.kia_one PySem.W.kitx_list I.kIn ⟨_, h1, rfl⟩ e (fun z => nomatch z) h
  | @tup a xs ea =>
    cases (show u = Value.ref a from rx)
    obtain ⟨_, _, _, p⟩ := (show ObjOk X.prog X.w H s.heap a (.tup xs) from I.hok a _ ea)
    obtain ⟨o, h1, h2, _⟩ := p
    exact PySem.W.kia_one PySem.W.kitx_tuple I.kIn ⟨o, h1, h2⟩ e (fun z => nomatch z) h
  | @dK a kvs ea =>
    cases (show u = Value.ref a from rx)
    obtain ⟨_, _, vs, _, p⟩ := (show ObjOk X.prog X.w H s.heap a (.dK kvs) from I.hok a _ ea)
    obtain ⟨o, es, ep, h1, h2, _⟩ := p
    exact PySem.W.kia_one PySem.W.kitx_dict I.kIn ⟨o, h1, h2.1⟩ e (fun z => nomatch z) h
  | @dT a kvs ea =>
    cases (show u = Value.ref a from rx)
    obtain ⟨_, _, xs, _, o, es, ep, h1, h2, _⟩ := (show ObjOk X.prog X.w H s.heap a (.dT kvs) from I.hok a _ ea)
    exact PySem.W.kia_one PySem.W.kitx_dict I.kIn ⟨o, h1, h2.1⟩ e (fun z => nomatch z) h
  | @ins a C dx fs ea cl ha hn htk hm =>
    cases (show u = Value.ref a from rx)
    obtain ⟨mA, O, _⟩ := ins_get I.hok ea
    obtain ⟨od, J, _⟩ := O.look
    exact PySem.W.kia_one (PySem.W.kitx_own (cl.get _) cl.hd ha hn htk hm) I.kIn J e (fun z => nomatch z) h
end
end L2

namespace L2
open PySem PySem.Spec PyProof.Rows

/-! ### room -/
structure Room (k : Nat) (A : Around) : Prop where
  hd : A.handled = none
  dp : A.depth + 3 * k + 5 < recursionLimit
  un : A.units + 16 * k + 200 < cLine
theorem Room.mono {j k : Nat} {A : Around} (r : Room k A) (h : j ≤ k) : Room j A := ⟨r.hd, by have := r.dp; omega, by have := r.un; omega⟩
theorem Room.deeper {k : Nat} {A : Around} (r : Room (k + 1) A) (env : Env) : Room k (A.deeper env) :=
  ⟨r.hd, by have := r.dp; show A.depth + 1 + 3 * k + 5 < _; omega, by have := r.un; show A.units + 3 + 16 * k + 200 < _; omega⟩
theorem make_depth {A : Around} {C : Addr} {us : List Value} {kw : List (Str × Value)} : (A.under (.builtin "type.__call__" ⟨.ref C :: us, kw⟩)).depth = A.depth + 1 := by
  first | rfl | simp [Around.under, Code.weight, Code.isCreation, Code.isGuard, Code.isCaller, Code.frames, Code.isFrame, guardIds]
theorem make_units {A : Around} {C : Addr} {us : List Value} {kw : List (Str × Value)} : (A.under (.builtin "type.__call__" ⟨.ref C :: us, kw⟩)).units = A.units + 1 := by
  first | rfl | simp [Around.under, Code.cUnits, Code.frames, Code.isFrame]
theorem Room.make {k : Nat} {A : Around} (r : Room (k + 1) A) (C : Addr) (us : List Value) (kw : List (Str × Value)) : Room k (A.under (.builtin "type.__call__" ⟨.ref C :: us, kw⟩)) :=
  ⟨r.hd, by have := r.dp; rw [make_depth]; omega, by have := r.un; rw [make_units]; omega⟩
theorem Room.depth {k : Nat} {A : Around} (r : Room k A) : A.depth < recursionLimit := by have := r.dp; omega
theorem Room.units {k : Nat} {A : Around} (r : Room k A) : A.units + 64 < cLine := by have := r.un; omega
theorem Room.units0 {k : Nat} {A : Around} (r : Room k A) : A.units < cLine := by have := r.un; omega

/-! ### argument lists and displays -/
def tNil : TA := fun _ H Q => Q [] H
def tCons (ta : TE) (tr : TA) : TA := fun σ H Q => ta σ H fun x H1 => tr σ H1 fun xs H2 => Q (x :: xs) H2
section
variable {X : Cx} {e : Expr} {es : List Expr} {te : TE} {t : TA} {pos : Pos}
theorem pa_nil : PA X [] tNil := fun _ _ _ _ H Q I h => Calls.spliced_nil ⟨[], H, I, .nil, h⟩
theorem pa_cons (ha : PE X e te) (hr : PA X es t) (hs : starEach (e :: es) X.env = (false, eval e X.env) :: starEach es X.env := by rfl) : PA X (e :: es) (tCons te t) := by
  intro pos pins s σ H Q I h
  rw [hs]
  show wpAny _ _ (spliced ((false, eval e X.env) :: backTo pos (starEach es X.env))) _ _ s
  refine Calls.spliced_cons (thn (ha pins s σ H _ I h) fun u s1 ⟨x, H1, I1, r1, q1⟩ => ?_)
  exact thn (hr pos pins s1 σ H1 _ I1 q1) fun us s2 ⟨xs, H2, I2, r2, q2⟩ => ⟨x :: xs, H2, I2, .cons r1 r2, q2⟩

/-- a tuple, a list of written items -/
def tTup (t : TA) : TE := fun σ H Q => t σ H fun xs H1 => xs.length ≤ sizeLine ∧ ∀ p, H1 p = none → Q (.ref p) (upd H1 p (.tup xs))
def tLst (t : TA) : TE := fun σ H Q => t σ H fun xs H1 => xs.length ≤ sizeLine ∧ ∀ p, H1 p = none → Q (.ref p) (upd H1 p (.lst xs))
theorem pe_tup {x1} (h : PA X es t) : PE X (.Tuple es x1 pos) (tTup t) := by
  intro pins s σ H Q I hq
  refine wpAny_Tuple_spliced (thn (h pos pins s σ H _ I hq) fun us s1 ⟨xs, H1, I1, r, z, q⟩ => ⟨by rw [← r.length]; exact z, ?_⟩)
  have hf : H1 s1.heap.objs.size = none := I1.hok.fresh (Nat.le_refl _)
  refine ⟨.ref s1.heap.objs.size, upd H1 s1.heap.objs.size (.tup xs), I1.laid (t' := s1.toks) (fun b u e => Heap.get?_push_of_some _ e) (Nat.le_refl _) ?_, rfl, q _ hf⟩
  exact ⟨z, us, r, ⟨_, Heap.get?_push_size _ rfl, rfl, _, rfl⟩⟩
theorem pe_lst (h : PA X es t) : PE X (.List es pos) (tLst t) := by
  intro pins s σ H Q I hq
  refine wpAny_List_spliced (thn (h pos pins s σ H _ I hq) fun us s1 ⟨xs, H1, I1, r, z, q⟩ => ⟨by rw [← r.length]; exact z, ?_⟩)
  have hf : H1 s1.heap.objs.size = none := I1.hok.fresh (Nat.le_refl _)
  refine ⟨.ref s1.heap.objs.size, upd H1 s1.heap.objs.size (.lst xs), I1.laid (t' := s1.toks) (fun b u e => Heap.get?_push_of_some _ e) (Nat.le_refl _) ?_, rfl, q _ hf⟩
  exact ⟨z, us, 0, r, Heap.get?_push_size _ rfl⟩
end

/-! ### what a def promises -/
/-- a def's promise: the bound arguments in the parameters' order, the heap, the wanted end, the wanted exception -/
abbrev Sp := List V → Hp → VK → XK → Prop
/-- how an exception lies behind a call (file 08 gives it): the callers' frames, abstract heap and state ahead of the call, the wish, the exception, the state -/
abbrev CXT := List Env → Hp → Shared → XK → Value → Shared → Prop

/-- the state at a call -/
structure Env0 (P : Program) (w : World) (K : PySem.W.Frag) (mg : Str → Option Value) (base : Heap) (A : Around) (outer : List Env) (s : Shared) (H : Hp) : Prop where
  frames : A.frames = some outer
  mod : Mod K mg base
  bs : ∀ b o, base.get? b = some o → s.heap.get? b = some o ∧ H b = none
  bsz : base.objs.size ≤ s.heap.objs.size
  funs : s.heap.FunFrames base outer
  frf : ∀ b ∈ frs outer, H b = none
  hok : HOk P w H s.heap
  bare : AllBare s.gens
/-- a call's end -/
def CE (outer : List Env) (P : Program) (w : World) (H : Hp) (s : Shared) (Q : VK) (u : Value) (s' : Shared) : Prop :=
  ∃ v H', s'.os = s.os ∧ AllBare s'.gens ∧ Un (frs outer) [] H H' s.heap s'.heap ∧ HOk P w H' s'.heap ∧ RelV v u ∧ Q v H'
def CR (CX : CXT) (outer : List Env) (P : Program) (w : World) (H : Hp) (s : Shared) (Q : VK) (E : XK) (r : Result) (s' : Shared) : Prop :=
  match r with
  | .ok (.ret u) => CE outer P w H s Q u s'
  | .ok _ => False
  | .error e => CX outer H s E e s'
structure FnOk (P : Program) (w : World) (K : PySem.W.Frag) (mg : Str → Option Value) (base : Heap) (CX : CXT) (k : Nat) (f : Addr) (fd : FuncData) (ps : List Str) (sp : Sp) : Prop where
  len : ∀ vs H Q E, sp vs H Q E → vs.length = ps.length
  run : ∀ (A : Around) (outer : List Env) (s : Shared) (H : Hp) (args : Args) (us : List Value) (vs : List V) (Q : VK) (E : XK), Room k A → Env0 P w K mg base A outer s H → BindsTo s fd args (ps.zip us) → Vals vs us → sp vs H Q E →
    codeAny (model P w) A (.call (.ref f) args) (CR CX outer P w H s Q E) s

theorem Env0.make {P : Program} {w : World} {K : PySem.W.Frag} {mg : Str → Option Value} {base : Heap} {A : Around} {outer : List Env} {s : Shared} {H : Hp} (e : Env0 P w K mg base A outer s H) (C : Addr) (us : List Value) (kw : List (Str × Value)) :
    Env0 P w K mg base (A.under (.builtin "type.__call__" ⟨.ref C :: us, kw⟩)) outer s H := ⟨by first | exact e.frames | (simpa [Around.under, Code.envs, Code.isFrame, pushEnvs] using e.frames), e.mod, e.bs, e.bsz, e.funs, e.frf, e.hok, e.bare⟩

section
variable {X : Cx} {pins : List (Addr × Obj)} {σ : St} {H : Hp} {s s' : Shared}
/-- from a body: what a callee wants -/
theorem Inv.env0 (I : Inv X pins σ H s) : Env0 X.prog X.w X.K X.mg X.base X.A X.stack s H :=
  ⟨I.ok.frames, I.ok.mod, I.bs, Nat.le_trans I.ok.bsz I.sz, I.stack, I.stkFree, I.hok, I.bare⟩
/-- behind a call -/
theorem Inv.after {Q : VK} {u : Value} (I : Inv X pins σ H s) (h : CE X.stack X.prog X.w H s Q u s') : EP X pins σ Q u s' := by
  obtain ⟨v, H', os, bare, un, hok, r, q⟩ := h
  obtain ⟨hh, g, d, t, os'⟩ := s'
  obtain rfl : os' = s.os := os
  exact ⟨v, H', I.call (h' := hh) (g' := g) (d' := d) (t' := t) (ch := []) un hok bare (fun b z => absurd z (by simp)), r, q⟩
end

/-! ### calls -/
/-- f(..): the written arguments, then the defaults dvs; E: what is wanted of an exception -/
def tCall (sp : Sp) (dvs : List V) (E : XK) (t : TA) : TE := fun σ H Q => t σ H fun vs H1 => sp (vs ++ dvs) H1 Q E
/-- o.m(..) of an instance of the class at C -/
def tMeth (C : Addr) (m : Str) (sp : Sp) (dvs : List V) (E : XK) (ta : TE) (t : TA) : TE := fun σ H Q => ta σ H fun x H1 => ∃ a dx fs, x = .ref a ∧ H1 a = some (.ins C dx fs) ∧ fs.lookup m = none ∧
  t σ H1 fun vs H2 => sp (x :: (vs ++ dvs)) H2 Q E
/-- C(..): a new instance and its dict, then __init__ -/
def tMake (C : Addr) (sp : Sp) (dvs : List V) (E : XK) (t : TA) : TE := fun σ H Q => t σ H fun vs H1 => ∀ x dx, H1 x = none → H1 dx = none → dx ≠ x →
  sp (.ref x :: (vs ++ dvs)) (upd (upd H1 dx (.own x)) x (.ins C dx [])) (fun v H2 => v = .non ∧ Q (.ref x) H2) E

/-- how the parameters are bound: us the positional arguments, kw the keywords' values by name, ds the defaults that fill up -/
def Binds (K : PySem.W.Frag) (fd : FuncData) (ps : List Str) (ds : List Value) : Prop :=
  ∀ (s : Shared) (us : List Value), K.In s.heap → (us ++ ds).length = ps.length → BindsTo s fd ⟨us, []⟩ (ps.zip (us ++ ds))
/-- every parameter is given -/
theorem Binds.all {K : PySem.W.Frag} {fd : FuncData} {ps : List Str} (h : ∀ us : List Value, us.length = ps.length → bindArgs fd ⟨us, []⟩ = pure (ps.zip us)) : Binds K fd ps [] := fun s us _ hl => by
  rw [List.append_nil] at hl ⊢
  exact .of_eq (h us hl)

/-- an exception of a callee reaches what this body wants of exceptions -/
def Passes (CX : CXT) (X : Cx) (E : XK) : Prop := ∀ (pins : List (Addr × Obj)) (σ : St) (H : Hp) (s : Shared) (e : Value) (s' : Shared), Inv X pins σ H s → CX X.stack H s E e s' → X.xe e s'

section
variable {X : Cx} {CX : CXT} {k : Nat} {f C : Addr} {fd : FuncData} {ps : List Str} {sp : Sp} {dvs : List V} {ds : List Value} {E : XK} {x m : Str} {p pos apos : Pos} {e o : Expr} {es : List Expr} {ta : TE} {t : TA}

/-- the callee runs -/
theorem run_fn {pins : List (Addr × Obj)} {σ : St} {H : Hp} {s : Shared} {Q : VK} {us : List Value} {vs : List V} (F : FnOk X.prog X.w X.K X.mg X.base CX k f fd ps sp) (hr : Room k X.A) (hb : Binds X.K fd ps ds) (hd : Vals dvs ds) (hx : Passes CX X E)
    (I : Inv X pins σ H s) (r : Vals vs us) (h : sp (vs ++ dvs) H Q E) : wpAny (model X.prog X.w) X.A (call (.ref f) us) (EP X pins σ Q) X.xe s := by
  have r2 : Vals (vs ++ dvs) (us ++ ds) := r.append hd
  have hl : (us ++ ds).length = ps.length := by rw [← r2.length]; exact F.len _ _ _ _ h
  refine wpAny_call (codeAny_mono (F.run X.A X.stack s H ⟨us, []⟩ (us ++ ds) (vs ++ dvs) Q E hr I.env0 (hb s us I.kIn hl) r2 h) fun r s' hq => ?_)
  cases r with
  | error e => exact hx pins σ H s e s' I hq
  | ok fl =>
    cases fl with
    | ret u => exact I.after hq
    | next => exact False.elim hq
    | brk => exact False.elim hq
    | cont => exact False.elim hq

theorem pe_call (F : FnOk X.prog X.w X.K X.mg X.base CX k f fd ps sp) (hr : Room k X.A) (hg : Gl X x) (hm : X.mg x = some (.ref f)) (hk : PySem.W.keepIn X.K (.ref f) = true) (hb : Binds X.K fd ps ds) (hd : Vals dvs ds) (hx : Passes CX X E)
    (ha : PA X (e :: es) t) (hdb : (x == ("__debug__" : Str)) = false := by decide) (he : starEach (e :: es) X.env = (false, eval e X.env) :: starEach es X.env := by rfl) (hpl : (backTo pos (starEach es X.env)).any (·.1) = false := by rfl) :
    PE X (.Call (.Name x p) (e :: es) [] pos) (tCall sp dvs E t) := by
  intro pins s σ H Q I h
  refine wpAny_Call_Name_kw (ld_glob I hg hm ?_ hdb)
  refine PySem.W.callWith_K (h₀ := X.base) I.ok.mod.kin hk (thn (ha pos pins s σ H _ I h) fun us s1 ⟨vs, H1, I1, r, q⟩ => ⟨I1.kIn, ?_⟩) he hpl
  exact run_fn F hr hb hd hx I1 r q

/-- o.m(e, ..) -/
theorem pe_meth {pl : Sem Bool} (he : PE X o ta) (c : Cls X.K C) (hm : Meth X.K C m f) (F : FnOk X.prog X.w X.K X.mg X.base CX k f fd ps sp) (hr : Room k X.A) (hb : Binds X.K fd ps ds) (hd : Vals dvs ds) (hx : Passes CX X E) (ha : PA X (e :: es) t)
    (hst : starEach (e :: es) X.env = (false, eval e X.env) :: starEach es X.env := by rfl) (hpl : (backTo pos (starEach es X.env)).any (·.1) = false := by rfl)
    (ht : eval (.Call (.Attribute o m apos) (e :: es) [] pos) X.env = (do
      let ov ← eval o X.env
      standAt apos.atName
      let (f, first) ← holding [ov] (getMethod ov m pl)
      callWith pos f first (backTo pos (starEach (e :: es) X.env)) (backToKw pos (keywordEach [] X.env))) := by rfl) :
    PE X (.Call (.Attribute o m apos) (e :: es) [] pos) (tMeth C m sp dvs E ta t) := by
  intro pins s σ H Q I h
  refine PySem.W.methodCall_KW (pl := pl) (thn (he pins s σ H _ I h) fun u s1 ⟨x, H1, I1, rx, a, dx, fs, ex, ea, l, q⟩ => ?_) ht
  subst ex
  obtain rfl : u = Value.ref a := rx
  refine getmeth_ok I1 ea c hm l ?_
  refine PySem.W.callWith_K (first := [.ref a]) (h₀ := X.base) I.ok.mod.kin hm.kp (thn (ha pos pins s1 σ H1 _ I1 q) fun us s2 ⟨vs, H2, I2, r, q2⟩ => ⟨I2.kIn, ?_⟩) hst hpl
  exact run_fn (us := .ref a :: us) (vs := .ref a :: vs) F hr hb hd hx I2 (.cons rfl r) q2
/-- o.m() -/
theorem pe_meth0 {pl : Sem Bool} (he : PE X o ta) (c : Cls X.K C) (hm : Meth X.K C m f) (F : FnOk X.prog X.w X.K X.mg X.base CX k f fd ps sp) (hr : Room k X.A) (hb : Binds X.K fd ps ds) (hd : Vals dvs ds) (hx : Passes CX X E)
    (ht : eval (.Call (.Attribute o m apos) [] [] pos) X.env = (do
      let ov ← eval o X.env
      standAt apos.atName
      let (f, first) ← holding [ov] (getMethod ov m pl)
      callWith pos f first (backTo pos (starEach [] X.env)) (backToKw pos (keywordEach [] X.env))) := by rfl) :
    PE X (.Call (.Attribute o m apos) [] [] pos) (tMeth C m sp dvs E ta tNil) := by
  intro pins s σ H Q I h
  refine PySem.W.methodCall_KW (pl := pl) (thn (he pins s σ H _ I h) fun u s1 ⟨x, H1, I1, rx, a, dx, fs, ex, ea, l, q⟩ => ?_) ht
  subst ex
  obtain rfl : u = Value.ref a := rx
  refine getmeth_ok I1 ea c hm l ?_
  exact PySem.W.callWith_K0 (first := [.ref a]) I1.kIn hm.kp (run_fn (us := [.ref a]) (vs := [.ref a]) F hr hb hd hx I1 (.cons rfl .nil) q)

/-- what a class must have to be made -/
structure Mk (K : PySem.W.Frag) (C f : Addr) : Prop where
  makes : PySem.W.makesIn K C = true
  init : PySem.W.findIn K (.ref C) "__init__" = some (some (.ref f))
  fn : PySem.W.isFn K (.ref f) = true
  kp : PySem.W.keepIn K (.ref C) = true

theorem run_make {pins : List (Addr × Obj)} {σ : St} {H : Hp} {s : Shared} {Q : VK} {us : List Value} {vs : List V} (M : Mk X.K C f) (F : FnOk X.prog X.w X.K X.mg X.base CX k f fd ps sp) (hr : Room (k + 1) X.A) (hb : Binds X.K fd ps ds) (hd : Vals dvs ds)
    (hx : Passes CX X E) (I : Inv X pins σ H s) (r : Vals vs us)
    (h : ∀ x dx, H x = none → H dx = none → dx ≠ x → sp (.ref x :: (vs ++ dvs)) (upd (upd H dx (.own x)) x (.ins C dx [])) (fun v H2 => v = .non ∧ Q (.ref x) H2) E) :
    wpAny (model X.prog X.w) X.A (call (.ref C) us) (EP X pins σ Q) X.xe s := by
  have hq := h (s.heap.objs.size + 1) s.heap.objs.size (I.hok.fresh (Nat.le_succ _)) (I.hok.fresh (Nat.le_refl _)) (Nat.ne_of_lt (Nat.lt_succ_self _))
  have I2 := Inv.made (C := C) I
  have r2 : Vals (V.ref (s.heap.objs.size + 1) :: (vs ++ dvs)) (Value.ref (s.heap.objs.size + 1) :: (us ++ ds)) := .cons rfl (r.append hd)
  have hl : (Value.ref (s.heap.objs.size + 1) :: us ++ ds).length = ps.length := by
    have e := r2.length
    rw [F.len _ _ _ _ hq] at e
    exact e.symm
  refine wpAny_call (make_map (f := f) I.kIn M.makes M.init (beq_iff_eq.mp M.fn) (codeAny_mono (F.run _ X.stack _ _ ⟨Value.ref (s.heap.objs.size + 1) :: us, []⟩ (Value.ref (s.heap.objs.size + 1) :: (us ++ ds)) _ _ E (hr.make C us [])
    (I2.env0.make C us []) (hb _ (Value.ref (s.heap.objs.size + 1) :: us) I2.kIn hl) r2 hq) fun r s' hq' => ?_))
  cases r with
  | error e => exact hx pins σ _ _ e s' I2 hq'
  | ok fl =>
    cases fl with
    | ret u =>
      obtain ⟨v, H', I3, rv, ev, q3⟩ := I2.after hq'
      subst ev
      exact ⟨rv, ⟨V.ref (s.heap.objs.size + 1), H', I3, rfl, q3⟩⟩
    | next => exact False.elim hq'
    | brk => exact False.elim hq'
    | cont => exact False.elim hq'
theorem pe_make0 (M : Mk X.K C f) (F : FnOk X.prog X.w X.K X.mg X.base CX k f fd ps sp) (hr : Room (k + 1) X.A) (hg : Gl X x) (hm : X.mg x = some (.ref C)) (hb : Binds X.K fd ps ds) (hd : Vals dvs ds) (hx : Passes CX X E)
    (hdb : (x == ("__debug__" : Str)) = false := by decide) : PE X (.Call (.Name x p) [] [] pos) (tMake C sp dvs E tNil) := by
  intro pins s σ H Q I h
  refine wpAny_Call_Name_kw (ld_glob I hg hm ?_ hdb)
  exact PySem.W.callWith_K0 I.kIn M.kp (run_make (us := []) M F hr hb hd hx I .nil h)
end

/-! ### keywords -/
/-- the values of the keywords, from the left -/
def PK (X : Cx) (kws : List Keyword) (t : TA) : Prop :=
  ∀ (pos : Pos) (pins : List (Addr × Obj)) (s : Shared) (σ : St) (H : Hp) (Q : List V → Hp → Prop), Inv X pins σ H s → t σ H Q → wpAny (model X.prog X.w) X.A (evalAll ((backToKw pos (keywordEach kws X.env)).map (·.2))) (AP X pins σ Q) X.xe s
section
variable {X : Cx} {CX : CXT} {k : Nat} {f C : Addr} {fd : FuncData} {ps ks : List Str} {sp : Sp} {E : XK} {x m : Str} {p pos apos kpos : Pos} {e o : Expr} {es : List Expr} {kws : List Keyword} {te ta : TE} {t tk : TA} {nm : Option Str}

variable {g : List Value → List Value → List Value} {gV : List V → List V → List V}
end

/-! ### a def's body keeps its promise -/
/-- names: the parameters first -/
structure FnScope (N P : List Str) (sc : Scope) : Prop where
  kind : sc.kind = .function
  co : sc.isCoroutine = false
  gen : sc.isGenerator = false
  nd : N.Nodup
  pre : N.take P.length = P
  par : ∀ x ∈ P, sc.names.lookup x = some .local ∨ sc.names.lookup x = some .cell
  nofree : ∀ y ∈ sc.names, y.2 ≠ .free

theorem bindL_out {kindOf : Str → Option NameKind} {x : Str} : ∀ {binds : List (Str × Value)} {m : Str → Option Value}, (∀ v, (x, v) ∉ binds) → bindL kindOf binds m x = m x
  | [], _, _ => rfl
  | (n, v) :: r, m, h => by
    unfold bindL
    rw [bindL_out fun w hw => h w (List.mem_cons_of_mem _ hw)]
    split
    · have : x ≠ n := by rintro rfl; exact h v List.mem_cons_self
      simp [this]
    · rfl
theorem bindC_out {kindOf : Str → Option NameKind} {x : Str} : ∀ {binds : List (Str × Value)} {m : Str → Option Value}, (∀ v, (x, v) ∉ binds) → bindC kindOf binds m x = m x
  | [], _, _ => rfl
  | (n, v) :: r, m, h => by
    unfold bindC
    rw [bindC_out fun w hw => h w (List.mem_cons_of_mem _ hw)]
    split
    · rfl
    · have : x ≠ n := by rintro rfl; exact h v List.mem_cons_self
      simp [this]
theorem bindL_get {kindOf : Str → Option NameKind} {x : Str} {v : Value} : ∀ {P : List Str} {vs : List Value} {i : Nat} {m : Str → Option Value}, P.Nodup → P[i]? = some x → vs[i]? = some v → kindOf x = some .local →
    bindL kindOf (P.zip vs) m x = some v
  | [], _, _, _, _, h, _, _ => by simp at h
  | _ :: _, [], _, _, _, _, h, _ => by simp at h
  | p :: P, w :: vs, 0, m, nd, h1, h2, hk => by
    simp at h1 h2; subst h1; subst h2
    show bindL kindOf ((p, w) :: P.zip vs) m p = _
    unfold bindL
    rw [bindL_out fun v hv => (List.nodup_cons.mp nd).1 (List.of_mem_zip hv).1, if_pos hk]
    simp
  | p :: P, w :: vs, i + 1, m, nd, h1, h2, hk => by
    show bindL kindOf ((p, w) :: P.zip vs) m x = _
    unfold bindL
    exact bindL_get (i := i) (List.nodup_cons.mp nd).2 (by simpa using h1) (by simpa using h2) hk
theorem bindC_get {kindOf : Str → Option NameKind} {x : Str} {v : Value} : ∀ {P : List Str} {vs : List Value} {i : Nat} {m : Str → Option Value}, P.Nodup → P[i]? = some x → vs[i]? = some v → kindOf x ≠ some .local →
    bindC kindOf (P.zip vs) m x = some v
  | [], _, _, _, _, h, _, _ => by simp at h
  | _ :: _, [], _, _, _, _, h, _ => by simp at h
  | p :: P, w :: vs, 0, m, nd, h1, h2, hk => by
    simp at h1 h2; subst h1; subst h2
    show bindC kindOf ((p, w) :: P.zip vs) m p = _
    unfold bindC
    rw [bindC_out fun v hv => (List.nodup_cons.mp nd).1 (List.of_mem_zip hv).1, if_neg hk]
    simp
  | p :: P, w :: vs, i + 1, m, nd, h1, h2, hk => by
    show bindC kindOf ((p, w) :: P.zip vs) m x = _
    unfold bindC
    exact bindC_get (i := i) (List.nodup_cons.mp nd).2 (by simpa using h1) (by simpa using h2) hk

/-- the names' values at the entry -/
def start (N : List Str) (vs : List V) : St := vs.map some ++ List.replicate (N.length - vs.length) none

/-- the context of a def's body, at its entry; an exception leaves the frame, then lies as CX says -/
def cxOf (CX : CXT) (P : Program) (w : World) (K : PySem.W.Frag) (mg : Str → Option Value) (base : Heap) (N : List Str) (qual : Str) (scope : Scope) (f : Addr) (cd : Value) (A : Around) (outer : List Env) (s : Shared) (H : Hp) (E : XK) : Cx where
  prog := P
  w := w
  K := K
  mg := mg
  base := base
  A := A.deeper (envOfC qual scope s.heap.objs.size f cd)
  N := N
  s₀ := s
  H₀ := H
  env := envOfC qual scope s.heap.objs.size f cd
  outer := outer
  stack := envOfC qual scope s.heap.objs.size f cd :: outer
  ex := []
  calm := true
  fn := fun _ => true
  pn := []
  xe := fun e s' => wpAny (model P w) (A.deeper (envOfC qual scope s.heap.objs.size f cd)) (leaving (envOfC qual scope s.heap.objs.size f cd) e) (fun _ s'' => CX outer H s E e s'') (fun e' s'' => CX outer H s E e' s'') s'

theorem cell_has {sc : Scope} {n : Nat} {x : Str} (h : sc.names.lookup x = some .cell) : ∃ c, (cellsFrom n sc.names []).lookup x = some c := by
  have q := PySem.W.cellsFrom_some sc.names n [] (.inl h)
  exact Option.isSome_iff_exists.mp q

theorem inv_start {CX : CXT} {P : Program} {w : World} {K : PySem.W.Frag} {mg : Str → Option Value} {base : Heap} {N ps : List Str} {qual : Str} {scope : Scope} {f : Addr} {cd : Value} {A : Around} {outer : List Env} {s s1 : Shared} {H : Hp} {E : XK} {us : List Value} {vs : List V}
    (S : FnScope N ps scope) (hd : A.handled = none) (e0 : Env0 P w K mg base A outer s H) (hl : vs.length = ps.length) (r : Vals vs us)
    (x : InCallC s s.heap.objs.size (bindL (envOfC qual scope s.heap.objs.size f cd).kindOf (ps.zip us) fun _ => none) (cellsFrom (s.heap.objs.size + 1) scope.names []) (bindC (envOfC qual scope s.heap.objs.size f cd).kindOf (ps.zip us) fun _ => none) s1) :
    Inv (cxOf CX P w K mg base N qual scope f cd A outer s H E) [] (start N vs) H s1 := by
  have hpl : ps.length ≤ N.length := by have := congrArg List.length S.pre; rw [List.length_take] at this; omega
  obtain ⟨h1, tk, rfl, hk⟩ := x.done
  have noA : ∀ b : Addr, b ∉ (cxOf CX P w K mg base N qual scope f cd A outer s H E).ex := fun b z => absurd (show b ∈ ([] : List Addr) from z) (by simp)
  refine ⟨⟨e0.mod, S.kind, rfl, rfl, Nat.le_refl _, fun y z c h1 h2 => ?_, fun y hy => ?_, fun y c _ h => ?_, fun _ => hd, Around.frames_deeper e0.frames, .inr ⟨rfl, rfl⟩, fun b z => absurd z (noA b), e0.bs, e0.bsz, fun b _ _ => noA b, fun b z => absurd z (noA b), e0.funs, e0.frf⟩,
    rfl, e0.bare, Un.kept hk, ⟨_, x.toInCall.ns, fun i y v h1 h2 h3 => ?_⟩, fun y c h => ⟨_, x.cell y c h⟩, e0.hok.fresh (Nat.le_refl _), fun y c h => ?_, fun p hp => absurd (show p ∈ ([] : List (Addr × Obj)) from hp) (by simp), e0.hok.kept hk, ?_⟩
  · exact name_of_addr x.apart (PySem.mem_of_lookup h1) (PySem.mem_of_lookup h2)
  · have hy : scope.names.lookup y = some .cell ∨ scope.names.lookup y = some .free := hy
    rcases hy with hy | hy
    · exact cell_has hy
    · exact absurd rfl (S.nofree _ (PySem.mem_of_lookup hy))
  · exact Nat.le_of_lt (x.above y c (PySem.mem_of_lookup h))
  · have hi : i < vs.length := by
      unfold start at h2
      by_cases hi : i < vs.length
      · exact hi
      · rw [List.getElem?_append_right (by simpa using hi)] at h2
        rw [List.getElem?_replicate] at h2
        split at h2 <;> cases h2
    have ha : vs[i]? = some v := by
      unfold start at h2
      rw [List.getElem?_append_left (by simpa using hi), List.getElem?_map] at h2
      cases e : vs[i]? with
      | none => rw [e] at h2; cases h2
      | some a => rw [e] at h2; cases h2; rfl
    obtain ⟨u, hu, rv⟩ := r.get ha
    have hp : ps[i]? = some y := by
      rw [← S.pre, List.getElem?_take_of_lt (by omega)]; exact h1
    have ndP : ps.Nodup := by rw [← S.pre]; exact S.nd.sublist (List.take_sublist _ _)
    refine ⟨u, rv, ?_⟩
    rcases S.par y (List.mem_of_getElem? hp) with k | k
    · exact .inl ⟨k, bindL_get ndP hp hu k⟩
    · obtain ⟨c, e⟩ := cell_has (n := s.heap.objs.size + 1) k
      refine .inr ⟨.inl k, c, e, ?_⟩
      have q := x.cell y c e
      rw [bindC_get ndP hp hu (by show scope.names.lookup y ≠ _; rw [k]; decide)] at q
      exact q
  · exact e0.hok.fresh (Nat.le_of_lt (x.above y c (PySem.mem_of_lookup h)))
  · unfold start
    show _ = N.length
    rw [List.length_append, List.length_map, List.length_replicate]
    omega

/-- THE RULE: a def (or a method) of the text, by its body. The body's reading t is chosen for each entry; it is run at the parameters' values -/
theorem fn_of {CX : CXT} {P : Program} {w : World} {K : PySem.W.Frag} {mg : Str → Option Value} {base : Heap} {k : Nat} {f : Addr} {name qual : Str} {params : Arguments} {body : List Stmt} {scope : Scope} {dV kV doc pm cdv ct oc : Value} {an od : Option Addr}
    {osl : Array (Option Value)} {N ps : List Str} {sp : Sp} (lk : K.lookup f = some ⟨oc, od, .func (PySem.W.fnOf name qual params body scope dV kV doc pm an cdv ct), osl⟩) (hcd : PySem.W.codeIn K cdv qual = true) (S : FnScope N ps scope)
    (len : ∀ vs H Q E, sp vs H Q E → vs.length = ps.length)
    (hbody : ∀ (A : Around) (outer : List Env) (s : Shared) (H : Hp) (vs : List V) (Q : VK) (E : XK), Room k (A.deeper (envOfC qual scope s.heap.objs.size f cdv)) → sp vs H Q E →
      ∃ t, PSs (cxOf CX P w K mg base N qual scope f cdv A outer s H E) body t ∧ t { nx := fun _ H' => Q .non H', rt := Q } (start N vs) H) :
    FnOk P w K mg base CX (k + 1) f (PySem.W.fnOf name qual params body scope dV kV doc pm an cdv ct) ps sp := by
  refine ⟨len, fun A outer s H args us vs Q E hr e0 hb r hsp => ?_⟩
  have hl := len _ _ _ _ hsp
  have KX : K.In s.heap := e0.mod.kin.keeps fun b o e => (e0.bs b o e).1
  have lim : s.heap.NoLimit := e0.mod.nolimit.keeps fun b o e => (e0.bs b o e).1
  have hkind : ∀ y ∈ ps.zip us, scope.names.lookup y.1 = some .local ∨ (scope.names.lookup y.1 = some .cell ∧ ((cellsFrom (s.heap.objs.size + 1) scope.names []).lookup y.1).isSome = true) := fun ⟨n, v⟩ hy => by
    rcases S.par n (List.of_mem_zip hy).1 with q | q
    · exact .inl q
    · exact .inr ⟨q, PySem.W.cellsFrom_some _ _ _ (.inl q)⟩
  refine codeAny_call_function hr.depth (KX _ _ lk) rfl S.co S.gen rfl (PySem.W.codeRec_of KX hcd) (hb _ _ _ _ ?_)
  refine wpAny_newFunctionEnv_cells S.kind hkind fun env he s1 x => ?_
  subst he
  refine ⟨lim.keeps x.toInCall.keep, codeAny_func ?_⟩
  obtain ⟨t, ht, hq⟩ := hbody A outer s H vs Q E (hr.deeper _) hsp
  have I : Inv (cxOf CX P w K mg base N qual scope f cdv A outer s H E) [] (start N vs) H s1 := inv_start S hr.hd e0 hl r x
  refine wpAny_mono (ht [] s1 (start N vs) H _ I hq) (fun fl s' hs => ?_) fun e s' hs => hs
  have fin : ∀ {σ' : St} {H' : Hp} {v : V} {u : Value}, Inv (cxOf CX P w K mg base N qual scope f cdv A outer s H E) [] σ' H' s' → RelV v u → Q v H' → CE outer P w H s Q u s' :=
    fun {σ' H' v u} J rv q => ⟨v, H', J.os, J.bare, J.base, J.hok, rv, q⟩
  cases fl with
  | ret u =>
    obtain ⟨v, σ', H', J, rv, q⟩ := hs
    exact fin J rv q
  | next =>
    obtain ⟨σ', H', J, q⟩ := hs
    exact fin (v := V.non) (u := Value.none) J rfl q
  | brk =>
    obtain ⟨_, _, _, q⟩ := hs
    exact False.elim q
  | cont =>
    obtain ⟨_, _, _, q⟩ := hs
    exact False.elim q
end L2

namespace L2
open PySem PySem.Spec PyProof.Rows
section
variable {X : Cx} {x : Str} {p pos : Pos} {e : Expr} {es : List Expr} {t : TA} {id T : String} {r : List V → Hp → VK → Prop}

def tCB (r : List V → Hp → VK → Prop) (t : TA) : TE := fun σ H Q => t σ H fun vs H1 => r vs H1 Q
/-- f(e, ..), f a built-in function -/
theorem pe_callB (hc : CallR X (.builtin id) r) (hg : Gl X x) (hm : X.mg x = none) (hv : bootBuiltins x = some (.builtin id)) (ha : PA X (e :: es) t) (hn : x ≠ "__name__" := by decide) (hdb : (x == ("__debug__" : Str)) = false := by decide)
    (he : starEach (e :: es) X.env = (false, eval e X.env) :: starEach es X.env := by rfl) (hpl : (backTo pos (starEach es X.env)).any (·.1) = false := by rfl) : PE X (.Call (.Name x p) (e :: es) [] pos) (tCB r t) := by
  intro pins s σ H Q I h
  refine wpAny_Call_Name_kw (ld_blt I hg hm hv ?_ hn hdb)
  exact PyProof.Rows.callWith_builtin1 (thn (ha pos pins s σ H _ I h) fun us s1 ⟨vs, H1, I1, r1, q1⟩ => hc pins s1 σ H1 vs us Q I1 r1 q1) he hpl
/-- T(e, ..), T a built-in type -/
theorem pe_callTy (hc : CallR X (.type T) r) (hg : Gl X x) (hm : X.mg x = none) (hv : bootBuiltins x = some (.type T)) (ha : PA X (e :: es) t) (hn : x ≠ "__name__" := by decide) (hdb : (x == ("__debug__" : Str)) = false := by decide)
    (he : starEach (e :: es) X.env = (false, eval e X.env) :: starEach es X.env := by rfl) (hpl : (backTo pos (starEach es X.env)).any (·.1) = false := by rfl) : PE X (.Call (.Name x p) (e :: es) [] pos) (tCB r t) := by
  intro pins s σ H Q I h
  refine wpAny_Call_Name_kw (ld_blt I hg hm hv ?_ hn hdb)
  exact PyProof.Rows.callWith_type1 (thn (ha pos pins s σ H _ I h) fun us s1 ⟨vs, H1, I1, r1, q1⟩ => hc pins s1 σ H1 vs us Q I1 r1 q1) he hpl
end
end L2

namespace HT
open PySem PyProof.Rows

/-- t < u of tuples of ints -/
def lexLt : List Int → List Int → Bool
  | [], [] => false
  | [], _ :: _ => true
  | _ :: _, [] => false
  | x :: xs, y :: ys => if x = y then lexLt xs ys else decide (x < y)
theorem lexLt_cons (x y : Int) (xs ys : List Int) : lexLt (x :: xs) (y :: ys) = if x = y then lexLt xs ys else decide (x < y) := rfl
theorem lexLt_nil_nil : lexLt [] [] = false := rfl
theorem lexLt_nil_cons (y : Int) (ys : List Int) : lexLt [] (y :: ys) = true := rfl
theorem lexLt_cons_nil (x : Int) (xs : List Int) : lexLt (x :: xs) [] = false := rfl

theorem eqAt_int (A : Around) (s : Shared) (a : Int) (t : Tok) (c : Int) (u : Tok) : ∃ e, SeqAt.EqAt A s (.int a t) (.int c u) e ∧ (e = true ↔ a = c) :=
  ⟨(a == c), SeqAt.EqAt.int_int a t c u, by simp⟩
theorem rcLt_int (A : Around) (s : Shared) (a : Int) (t : Tok) (c : Int) (u : Tok) (prog : Program) (w : World) (E : Value → Shared → Prop) (Q : Value → Shared → Prop) (h : Q (.bool (decide (a < c))) s) :
    wpAny (model prog w) A (richCompare .Lt (.int a t) (.int c u)) Q E s :=
  (PyProof.Rows.lt_int h : wpAny (model prog w) A (compareOp .Lt (.int a t) (.int c u)) Q E s)

section
open PySem.SeqAt
open PySem.AutoSeq1 (wpAny_loadPart')
open PySem.MeetsSeq PySem.MeetsSeq2 PySem.MeetsSeq3

theorem tuple_lt_ints (l b : Addr) (items items2 : Array Value) (n n2 : Nat) (dd dd2 : Option Addr) (sl sl2 : Array (Option Value)) (ns ms : List Int) (hi : IntsAre items.toList ns) (hj : IntsAre items2.toList ms) :
    Meets (Builtin.«tuple.__lt__» ⟨[.ref l, .ref b], []⟩)
      (fun _ R s => s.heap.get? l = some { cls := .type "tuple", dict := dd, data := .seq items n, slots := sl } ∧ s.heap.get? b = some { cls := .type "tuple", dict := dd2, data := .seq items2 n2, slots := sl2 } ∧
        R (.ok (.ret (.bool (lexLt ns ms)))) s) :=
  .of_wp fun prog w A R s h => by
    obtain ⟨hp, g, d, tk, os⟩ := s; obtain ⟨hl, hb, h⟩ := h
    have f2 := AutoSeq1.sub_tuple_tuple
    have z1 : items.size = ns.length := by rw [← hi.length]; simp
    have z2 : items2.size = ms.length := by rw [← hj.length]; simp
    wp_walk using wpAny_loadPart' hl, wpAny_loadPart' hb, wpAny_forIn_list _ (fun rest b s' => b.1 = none ∧ s' = ⟨hp, g, d, tk, os⟩ ∧ ∃ (vs ws : List Value) (ns' ms' : List Int), rest = vs.zip ws ∧
      IntsAre vs ns' ∧ IntsAre ws ms' ∧ ns'.length + items2.size = ms'.length + items.size ∧ R (.ok (.ret (.bool (lexLt ns' ms')))) ⟨hp, g, d, tk, os⟩) _
    case turn =>
      rintro ⟨y, x⟩ rest b s' ⟨hb', rfl, vs, ws, ns', ms', hz, hvi, hwi, hlen, hR⟩
      cases hvi with
      | nil => rw [List.zip_nil_left] at hz; cases hz
      | cons a t hvi' =>
        cases hwi with
        | nil => rw [List.zip_nil_right] at hz; cases hz
        | cons c u hwi' =>
          rw [List.zip_cons_cons] at hz
          injection hz with hyx hrest
          injection hyx with hy hx
          subst hy hx
          rw [lexLt_cons] at hR
          simp only [List.length_cons] at hlen
          obtain ⟨e, he, hiff⟩ := eqAt_int A.in1 ⟨hp, g, d, tk, os⟩ a t c u
          refine wpAny_bind (he prog w _ _ ?_)
          cases e with
          | true =>
            rw [if_pos (hiff.mp rfl)] at hR
            wp_walk
            exact ⟨rfl, rfl, _, _, _, _, hrest, hvi', hwi', by omega, hR⟩
          | false =>
            rw [if_neg (fun q => absurd (hiff.mpr q) Bool.false_ne_true)] at hR
            have hri := rcLt_int A.in1 ⟨hp, g, d, tk, os⟩ a t c u prog w
            wp_walk using hri
            exact ⟨_, rfl, by simpa using hR⟩
    case fin =>
      rintro ⟨b1, b2⟩ s' ⟨hb', rfl, vs, ws, ns', ms', hz, hvi, hwi, hlen, hR⟩
      simp only at hb'
      subst hb'
      have hv : lexLt ns' ms' = decide (items.size < items2.size) := by
        cases hvi with
        | nil =>
          cases hwi with
          | nil =>
            simp only [List.length_nil] at hlen
            rw [lexLt_nil_nil]
            exact (decide_eq_false (by omega)).symm
          | cons c u hw =>
            simp only [List.length_nil, List.length_cons] at hlen
            rw [lexLt_nil_cons]
            exact (decide_eq_true (by omega)).symm
        | cons a t hv =>
          cases hwi with
          | nil =>
            simp only [List.length_nil, List.length_cons] at hlen
            rw [lexLt_cons_nil]
            exact (decide_eq_false (by omega)).symm
          | cons c u hw =>
            rw [List.zip_cons_cons] at hz
            cases hz
      rw [hv] at hR
      wp_walk
      exact ⟨_, rfl, by simpa [Builtin.Tuple.tupleCompareSizes] using hR⟩
    case h =>
      exact ⟨rfl, rfl, items.toList, items2.toList, ns, ms, rfl, hi, hj, by omega, h⟩
end

section
variable {prog : Program} {w : World} {A : Around} {E : Value → Shared → Prop} {s : Shared}

theorem lt_tupInts {l b : Addr} {items items2 : Array Value} {ns ms : List Int} {Q : Value → Shared → Prop} (hl : IsTup s.heap l items) (hb : IsTup s.heap b items2) (hi : IntsAre items.toList ns) (hj : IntsAre items2.toList ms)
    (hu : A.units < cLine) (h : Q (.bool (lexLt ns ms)) s) : wpAny (model prog w) A (compareOp .Lt (.ref l) (.ref b)) Q E s := by
  obtain ⟨⟨cls, dd, data, sl⟩, ho, hc, n, hd⟩ := id hl
  obtain ⟨⟨cls2, dd2, data2, sl2⟩, ho2, hc2, n2, hd2⟩ := id hb
  simp only at hc hd hc2 hd2
  subst hc hd hc2 hd2
  exact richCompare_meets_room (op := .Lt) ⟨_, ho, rfl⟩ ⟨_, ho2, rfl⟩ PySem.F.slot_tuple_lt PySem.F.entry_tuple_lt (PySem.F.args_tuple_lt_2 _ _) (tuple_lt_ints l b items items2 n n2 dd dd2 sl sl2 ns ms hi hj)
    ⟨ho, ho2, show Value.bool (lexLt ns ms) ≠ Value.notImplemented ∧ Q (.bool (lexLt ns ms)) s from ⟨(fun x => nomatch x), h⟩⟩ hu


/-! ### t[a:b], not the whole -/
/-- a slice's bound as a place among n (d where it is left out) -/
def sIx (n d : Nat) : Option Int → Nat
  | none => d
  | some v => if v < 0 then (v + (n : Int)).toNat else min v.toNat n
theorem sIx_nat (n d k : Nat) : sIx n d (some (k : Int)) = min k n := by
  show (if (k : Int) < 0 then ((k : Int) + (n : Int)).toNat else min (k : Int).toNat n) = min k n
  rw [if_neg (by omega), Int.toNat_natCast]

end
end HT

namespace L2
open PySem PySem.Spec PyProof.Rows

/-! ### the parts of a slice -/
abbrev TO := St → Hp → (Option Int → Hp → Prop) → Prop
/-- a slice's part (left out, or an int) -/
def PO (X : Cx) (e : Option Expr) (t : TO) : Prop :=
  ∀ (pins : List (Addr × Obj)) (s : Shared) (σ : St) (H : Hp) (Q : Option Int → Hp → Prop), Inv X pins σ H s → t σ H Q →
    wpAny (model X.prog X.w) X.A (evalPart e X.env) (fun u s' => ∃ o H', Inv X pins σ H' s' ∧ IsPart u o ∧ Q o H') X.xe s
def tPart (t : TE) : TO := fun σ H Q => t σ H fun x H1 => ∃ i, x = .int i ∧ Q (some i) H1

theorem intsAre_of {ns : List Int} : ∀ {us : List Value}, Vals (ns.map V.int) us → IntsAre us ns := by
  induction ns with
  | nil => intro us r; rw [List.map_nil] at r; cases r; exact .nil
  | cons n ns ih =>
    intro us r
    rw [List.map_cons] at r
    cases r with
    | cons r1 r2 =>
      obtain ⟨t, e⟩ := r1
      subst e
      exact .cons n t (ih r2)

section
variable {X : Cx} {e : Expr} {te : TE} {lo hi : Option Expr} {tl th : TO} {pos p2 : Pos}

theorem po_some (h : PE X e te) : PO X (some e) (tPart te) := by
  intro pins s σ H Q I hw
  rw [evalPart_some]
  refine thn (h pins s σ H _ I hw) fun u s1 ⟨x, H1, I1, r1, q1⟩ => ?_
  obtain ⟨i, rfl, q⟩ := q1
  obtain ⟨t, rfl⟩ := r1
  exact ⟨some i, H1, I1, .int i t, q⟩

/-- what a slice of a value is, by values: the slice object stands at sl -/
def SlR (X : Cx) (r : V → Option Int → Option Int → Hp → VK → Prop) : Prop :=
  ∀ (pins : List (Addr × Obj)) (s : Shared) (σ : St) (H : Hp) (x : V) (v vl vu : Value) (lo hi : Option Int) (sl : Addr) (Q : VK), Inv X pins σ H s → RelV x v → s.heap.IsSliceOf sl vl vu .none → IsPart vl lo → IsPart vu hi → r x lo hi H Q →
    ∃ T id, typeLookup (.type T) "__getitem__" = pure (some (.builtin id)) ∧ s.TypeIs v T ∧ wpAny (model X.prog X.w) X.A (getItem v (.ref sl)) (EP X pins σ Q) X.xe s
def tSl (r : V → Option Int → Option Int → Hp → VK → Prop) (te : TE) (tl th : TO) : TE := fun σ H Q => te σ H fun x H1 => tl σ H1 fun l H2 => th σ H2 fun u H3 => r x l u H3 Q
/-- a[lo:hi], any a -/
theorem pe_slice {r : V → Option Int → Option Int → Hp → VK → Prop} (hr : SlR X r) (he : PE X e te) (hl : PO X lo tl) (hu : PO X hi th) : PE X (.Subscript e (.Slice lo hi none p2) pos) (tSl r te tl th) := by
  intro pins s σ H Q I h
  refine Subscript_ (thn (he pins s σ H _ I h) fun v s1 ⟨x, H1, I1, r1, q1⟩ => ?_)
  refine wpAny_Slice (thn (hl pins s1 σ H1 _ I1 q1) fun vl s2 ⟨l, H2, I2, pl, q2⟩ => thn (hu pins s2 σ H2 _ I2 q2) fun vu s3 ⟨u, H3, I3, pu, q3⟩ => ?_)
  rw [evalPart_none]
  refine wpAny_pure ?_
  have I4 : Inv X pins σ H3 { s3 with heap := s3.heap.push { cls := .type "slice", data := .fields #[vl, vu, .none] } } := I3.kept (t' := s3.toks) fun b ob q => Heap.get?_push_of_some _ q
  obtain ⟨T, id, hT, ht, hg⟩ := hr pins { s3 with heap := s3.heap.push { cls := .type "slice", data := .fields #[vl, vu, .none] } } σ H3 x v vl vu l u s3.heap.objs.size Q I4 r1 (Heap.IsSliceOf.new ..) pl pu q3
  show wpAny (model X.prog X.w) X.A (subscriptTail e (.Slice lo hi none p2) v (.ref s3.heap.objs.size)) (EP X pins σ Q) X.xe { s3 with heap := s3.heap.push { cls := .type "slice", data := .fields #[vl, vu, .none] } }
  exact tail_any (ops := [.ref s3.heap.objs.size, v]) ht hT hg (by with_unfolding_all rfl)

/-- the items of xs[lo:hi] -/
def cutV (xs : List V) (lo hi : Option Int) : List V := (xs.drop (HT.sIx xs.length 0 lo)).take (HT.sIx xs.length xs.length hi - HT.sIx xs.length 0 lo)
theorem cutV_length (xs : List V) (lo hi : Option Int) : (cutV xs lo hi).length ≤ xs.length := by
  unfold cutV
  rw [List.length_take, List.length_drop]
  omega

/-! ### t < u, t + u -/
def rLtT (K : PySem.W.Frag) : R2 := fun x y H Q => ∃ a b ns ms, x = .ref a ∧ y = .ref b ∧ SqT K H a (ns.map V.int) ∧ SqT K H b (ms.map V.int) ∧ Q (.bl (HT.lexLt ns ms)) H
theorem op_ltT (hu : X.A.units < cLine) : OpR X (compareOp .Lt) (rLtT X.K) := by
  intro pins s σ H x y v u Q I rx ry h
  obtain ⟨a, b, ns, ms, rfl, rfl, ha, hb, q⟩ := h
  cases rx
  cases ry
  obtain ⟨its, r1, p1, _⟩ := I.tuple ha
  obtain ⟨its2, r2, p2, _⟩ := I.tuple hb
  have i1 : IntsAre its.toArray.toList ns := intsAre_of r1
  have i2 : IntsAre its2.toArray.toList ms := intsAre_of r2
  exact HT.lt_tupInts p1 p2 i1 i2 hu ⟨.bl (HT.lexLt ns ms), H, I, rfl, q⟩
end
end L2

namespace L2
open PySem PySem.Spec PyProof.Rows

/-! ### places -/
/-- the place that an index of any sign means -/
def ixN (n : Nat) (i : Int) : Option Nat := if 0 ≤ i then (if i < n then some i.toNat else none) else if -(n : Int) ≤ i then some (i + n).toNat else none
def atI {α : Type} (xs : List α) (i : Int) : Option α := (ixN xs.length i).bind fun j => xs[j]?
theorem ixN_seq {n : Nat} {i : Int} {j : Nat} (h : ixN n i = some j) : seqIndex? i n = some j ∧ j < n ∧ -(n : Int) ≤ i ∧ i < n := by
  unfold ixN at h
  by_cases h0 : 0 ≤ i
  · rw [if_pos h0] at h
    by_cases h1 : i < n
    · rw [if_pos h1] at h
      have e : i.toNat = j := Option.some.inj h
      exact ⟨by rw [seqIndex_of h0 h1, e], by omega, by omega, h1⟩
    · rw [if_neg h1] at h; cases h
  · rw [if_neg h0] at h
    by_cases h1 : -(n : Int) ≤ i
    · rw [if_pos h1] at h
      have e : (i + n).toNat = j := Option.some.inj h
      exact ⟨by rw [seqIndex_neg (by omega) h1, e], by omega, h1, by omega⟩
    · rw [if_neg h1] at h; cases h
theorem atI_get {α : Type} {xs : List α} {i : Int} {v : α} (h : atI xs i = some v) : ∃ j, seqIndex? i xs.length = some j ∧ xs[j]? = some v ∧ j < xs.length ∧ -(xs.length : Int) ≤ i ∧ i < xs.length := by
  unfold atI at h
  cases e : ixN xs.length i with
  | none => rw [e] at h; cases h
  | some j =>
    rw [e] at h
    obtain ⟨h1, h2, h3, h4⟩ := ixN_seq e
    exact ⟨j, h1, h, h2, h3, h4⟩
theorem atI_nat {α : Type} {xs : List α} {j : Nat} {v : α} (h : xs[j]? = some v) : atI xs (j : Int) = some v := by
  have hj : j < xs.length := (List.getElem?_eq_some_iff.mp h).1
  have e : ixN xs.length (j : Int) = some j := by
    unfold ixN
    rw [if_pos (by omega), if_pos (by omega)]; simp
  unfold atI; rw [e]; exact h

/-! ### what may be subscripted -/
/-- what stands as an index of a plain subscript -/
def PlainIx (b : Expr) : Prop := ∀ o i, subscripted b false o i = operate [o, i] (getItem o i)
/-- a subscript by values -/
def IxR (X : Cx) (r : R2) : Prop :=
  ∀ (value slice : Expr) (pins : List (Addr × Obj)) (s : Shared) (σ : St) (H : Hp) (x y : V) (v u : Value) (Q : VK), Inv X pins σ H s → RelV x v → RelV y u → r x y H Q →
    subscripted slice false v u = operate [v, u] (getItem v u) → wpAny (model X.prog X.w) X.A (subscriptTail value slice v u) (EP X pins σ Q) X.xe s
/-- a call of a builtin's method by values: the receiver, the arguments -/
def MtR (X : Cx) (id : String) (r : V → List V → Hp → VK → Prop) : Prop :=
  ∀ (pins : List (Addr × Obj)) (s : Shared) (σ : St) (H : Hp) (x : V) (xs : List V) (v : Value) (us : List Value) (Q : VK), Inv X pins σ H s → RelV x v → Vals xs us → r x xs H Q →
    wpAny (model X.prog X.w) X.A (call (.builtin id) (v :: us)) (EP X pins σ Q) X.xe s
section
variable {X : Cx} {a b : Expr} {ta tb : TE} {pos : Pos}
/-- a[b] -/
theorem pe_ix {r : R2} (hr : IxR X r) (ha : PE X a ta) (hb : PE X b tb) (hs : PlainIx b) : PE X (.Subscript a b pos) (tOp r ta tb) := by
  intro pins s σ H Q I h
  exact Subscript_ (binT ha hb I h fun v u s2 x y H2 I2 rx ry q => hr a b pins s2 σ H2 x y v u Q I2 rx ry q (hs _ _))

def rIxL (K : PySem.W.Frag) : R2 := fun x y H Q => ∃ p xs i v, x = .ref p ∧ y = .int i ∧ SqL K H p xs ∧ atI xs i = some v ∧ Q v H
def rIxT (K : PySem.W.Frag) : R2 := fun x y H Q => ∃ p xs i v, x = .ref p ∧ y = .int i ∧ SqT K H p xs ∧ atI xs i = some v ∧ Q v H
theorem ix_list : IxR X (rIxL X.K) := by
  intro value slice pins s σ H x y v u Q I rx ry h hs
  obtain ⟨p, xs, i, z, rfl, rfl, hq, he, q⟩ := h
  cases rx
  obtain ⟨t, rfl⟩ := ry
  obtain ⟨its, r, pl, hz⟩ := I.list hq
  obtain ⟨j, h1, h2, h3, h4, h5⟩ := atI_get he
  obtain ⟨w, ew, rw'⟩ := r.get h2
  have hl := r.length
  have hn := line63
  have fin : EP X pins σ Q w s := ⟨z, H, I, rw', q⟩
  by_cases h0 : 0 ≤ i
  · have hj : i.toNat = j := by
      rw [seqIndex_of h0 h5] at h1
      exact Option.some.inj h1
    exact item_listR pl.isList h0 (by omega) (by rw [hj]; simpa using ew) fin hs
  · have hj : (i + (its.toArray.size : Int)).toNat = j := by
      rw [seqIndex_neg (by omega) h4] at h1
      rw [List.size_toArray, ← hl]
      exact Option.some.inj h1
    exact subscriptTail_builtinR (x := w) pl.isList.typeIs slot_list_getitem.lookup
      (wpAny_getItem_list_neg (Q := fun r s' => r = w ∧ EP X pins σ Q r s') pl.isList (by omega) (by rw [List.size_toArray] <;> omega) (by omega) (by rw [hj]; simpa using ew) ⟨rfl, fin⟩) hs
theorem ix_tup : IxR X (rIxT X.K) := by
  intro value slice pins s σ H x y v u Q I rx ry h hs
  obtain ⟨p, xs, i, z, rfl, rfl, hq, he, q⟩ := h
  cases rx
  obtain ⟨t, rfl⟩ := ry
  obtain ⟨its, r, pl, hz⟩ := I.tuple hq
  obtain ⟨j, h1, h2, h3, h4, h5⟩ := atI_get he
  obtain ⟨w, ew, rw'⟩ := r.get h2
  have hl := r.length
  have hn := line63
  have fin : EP X pins σ Q w s := ⟨z, H, I, rw', q⟩
  exact subscriptTail_builtinR (x := w) pl.typeIs slot_tuple_getitem.lookup
    (getItem_tuple (j := j) (Q := fun r s' => r = w ∧ EP X pins σ Q r s') pl (by omega) (by omega) (by rw [List.size_toArray, ← hl]; exact h1) (by simpa using ew) ⟨rfl, fin⟩) hs

/-! ### xs[i] = v, any sign -/

/-! ### slices -/
theorem slice_bounds (lo hi : Option Int) (n : Nat) : (sliceBounds lo hi none n).1 = ((HT.sIx n 0 lo : Nat) : Int) ∧ (sliceBounds lo hi none n).2.1 = ((HT.sIx n n hi : Nat) : Int) ∧ (sliceBounds lo hi none n).2.2 = 1 := by
  refine ⟨?_, ?_, rfl⟩
  · cases lo with
    | none => simp [sliceBounds, HT.sIx]
    | some i =>
      simp only [sliceBounds, HT.sIx, Option.getD_none, show (1 : Int) > 0 by decide, if_true]
      by_cases h : i < 0
      · simp only [h, if_true] <;> omega
      · simp only [h, if_false] <;> omega
  · cases hi with
    | none => simp [sliceBounds, HT.sIx]
    | some i =>
      simp only [sliceBounds, HT.sIx, Option.getD_none, show (1 : Int) > 0 by decide, if_true]
      by_cases h : i < 0
      · simp only [h, if_true] <;> omega
      · simp only [h, if_false] <;> omega
theorem slicePick_cut (its : List Value) (lo hi : Option Int) : slicePick its.toArray lo hi none = ((its.drop (HT.sIx its.length 0 lo)).take (HT.sIx its.length its.length hi - HT.sIx its.length 0 lo)).toArray := by
  obtain ⟨h1, h2, h3⟩ := slice_bounds lo hi its.toArray.size
  unfold slicePick
  rw [h1, h2, h3]
  simp only [sliceRange_one, pick_run, List.size_toArray] <;> rfl
/-- xs[lo:hi] of a list: a new list -/
def rSlL (K : PySem.W.Frag) : V → Option Int → Option Int → Hp → VK → Prop := fun x lo hi H Q => ∃ a xs, x = .ref a ∧ SqL K H a xs ∧ ∀ p, H p = none → Q (.ref p) (upd H p (.lst (cutV xs lo hi)))
theorem sl_list : SlR X (rSlL X.K) := by
  intro pins s σ H x v vl vu lo hi sl Q I rx hs pl pu h
  obtain ⟨a, xs, rfl, hx, q⟩ := h
  cases rx
  obtain ⟨its, r, ht, hz⟩ := I.list hx
  have hlen := r.length
  refine ⟨"list", _, slot_list_getitem.lookup, ht.isList.typeIs, ?_⟩
  refine wpAny_getItem_list_slice ht.isList hs pl pu .none (by simp) ?_ (by rw [List.size_toArray] <;> omega)
  rw [slicePick_cut, ← hlen]
  refine ⟨.ref s.heap.objs.size, _, I.laid (t' := s.toks) (o := .lst (cutV xs lo hi)) (fun b ob q => Heap.get?_push_of_some _ q) (Nat.le_refl _) ?_, rfl, q _ (I.hok.fresh (Nat.le_refl _))⟩
  exact ⟨Nat.le_trans (cutV_length xs lo hi) hz, _, 0, (r.drop (HT.sIx xs.length 0 lo)).take (HT.sIx xs.length xs.length hi - HT.sIx xs.length 0 lo), Heap.get?_push_size _ rfl⟩

/-! ### in, not in: flat items -/
def flatV : V → Bool
  | .non => true
  | .bl _ => true
  | .int _ => true
  | .str _ => true
  | _ => false
/-- == of flat values -/
def eqV : V → V → Bool
  | .non, .non => true
  | .bl a, .bl b => a == b
  | .bl a, .int b => (if a then 1 else 0) == b
  | .int a, .bl b => a == (if b then 1 else 0)
  | .int a, .int b => a == b
  | .str a, .str b => a == b
  | _, _ => false
theorem eqAt_V {A : Around} {s : Shared} {y x : V} {u v : Value} (ry : RelV y u) (rx : RelV x v) (fy : flatV y = true) (fx : flatV x = true) : SeqAt.EqAt A s u v (eqV y x) := by
  cases y with
  | non =>
    cases ry
    cases x with
    | non => cases rx; exact SeqAt.EqAt.same _
    | bl b => cases rx; exact SeqAt.EqAt.none_bool b
    | int b => obtain ⟨t, rfl⟩ := rx; exact SeqAt.EqAt.none_int b t
    | str b => obtain ⟨t, rfl⟩ := rx; exact SeqAt.EqAt.none_str b t
    | _ => exact absurd (show false = true from fx) Bool.false_ne_true
  | bl a =>
    cases ry
    cases x with
    | non => cases rx; exact SeqAt.EqAt.bool_none a
    | bl b => cases rx; exact SeqAt.EqAt.bool_bool a b
    | int b => obtain ⟨t, rfl⟩ := rx; exact SeqAt.EqAt.bool_int a b t
    | str b => obtain ⟨t, rfl⟩ := rx; exact SeqAt.EqAt.bool_str a b t
    | _ => exact absurd (show false = true from fx) Bool.false_ne_true
  | int a =>
    obtain ⟨t', rfl⟩ := ry
    cases x with
    | non => cases rx; exact SeqAt.EqAt.int_none a t'
    | bl b => cases rx; exact SeqAt.EqAt.int_bool a t' b
    | int b => obtain ⟨t, rfl⟩ := rx; exact SeqAt.EqAt.int_int a t' b t
    | str b => obtain ⟨t, rfl⟩ := rx; exact SeqAt.EqAt.int_str a t' b t
    | _ => exact absurd (show false = true from fx) Bool.false_ne_true
  | str a =>
    obtain ⟨t', rfl⟩ := ry
    cases x with
    | non => cases rx; exact SeqAt.EqAt.str_none a t'
    | bl b => cases rx; exact SeqAt.EqAt.str_bool a t' b
    | int b => obtain ⟨t, rfl⟩ := rx; exact SeqAt.EqAt.str_int a t' b t
    | str b => obtain ⟨t, rfl⟩ := rx; exact SeqAt.EqAt.str_str a t' b t
    | _ => exact absurd (show false = true from fx) Bool.false_ne_true
  | _ => exact absurd (show false = true from fy) Bool.false_ne_true

/-! ### len, list(x), tuple(x) of any list or tuple that is read -/
theorem call_len_seq : CallR X (.builtin "len") (fun xs H Q => ∃ p ys, xs = [.ref p] ∧ (SqL X.K H p ys ∨ SqT X.K H p ys) ∧ Q (.int ys.length) H) := by
  intro pins s σ H xs us Q I r h
  obtain ⟨p, ys, rfl, hq, q⟩ := h
  obtain ⟨u, rfl, rx⟩ := vals1 r
  cases rx
  have hn := line63
  rcases hq with hq | hq
  · obtain ⟨its, r', pl, hz⟩ := I.list hq
    have hlen := r'.length
    exact Calls.call_len_list pl.isList (by simp only [List.size_toArray] <;> omega) ⟨.int ys.length, H, I.tok _, ⟨s.toks + 1, by rw [List.size_toArray, hlen]⟩, q⟩
  · obtain ⟨its, r', pl, hz⟩ := I.tuple hq
    have hlen := r'.length
    exact len_tuple pl (by simp only [List.size_toArray] <;> omega) ⟨.int ys.length, H, I.tok _, ⟨s.toks + 1, by rw [List.size_toArray, hlen]⟩, q⟩
theorem call_list_of : CallR X (.type "list") (fun xs H Q => ∃ p ys, xs = [.ref p] ∧ (SqL X.K H p ys ∨ SqT X.K H p ys) ∧ ∀ l, H l = none → Q (.ref l) (upd H l (.lst ys))) := by
  intro pins s σ H xs us Q I r h
  obtain ⟨p, ys, rfl, hq, q⟩ := h
  obtain ⟨u, rfl, rx⟩ := vals1 r
  cases rx
  have fin : ∀ (its : List Value), Vals ys its → ys.length ≤ sizeLine → ∀ (h' : Heap) (c' : Nat), (∀ b o', s.heap.get? b = some o' → h'.get? b = some o') →
      h'.get? s.heap.objs.size = some { cls := .type "list", dict := none, data := .seq its.toArray c', slots := #[] } → EP X pins σ Q (.ref s.heap.objs.size) { s with heap := h' } := fun its r' hz h' c' kp e =>
    ⟨.ref s.heap.objs.size, _, I.laid (t' := s.toks) kp (Nat.le_refl _) (show ObjOk X.prog X.w _ h' _ (.lst ys) from ⟨hz, its, c', r', e⟩), rfl, q _ (I.hok.fresh (Nat.le_refl _))⟩
  rcases hq with hq | hq
  · obtain ⟨its, r', pl, hz⟩ := I.list hq
    have hlen := r'.length
    obtain ⟨o, ho, hc, n, hd⟩ := pl.isList
    exact call_list_seq p (.inl rfl) ho hc hd (fun h' c' kp e => fin its r' hz h' c' kp e) (by simp only [List.size_toArray] <;> omega)
  · obtain ⟨its, r', pl, hz⟩ := I.tuple hq
    have hlen := r'.length
    obtain ⟨o, ho, hc, n, hd⟩ := pl
    exact call_list_seq p (.inr rfl) ho hc hd (fun h' c' kp e => fin its r' hz h' c' kp e) (by simp only [List.size_toArray] <;> omega)

/-! ### the call of a builtin's method: o.m(..) -/
/-- the value is of that builtin type -/
def tyV (K : PySem.W.Frag) (T : String) (x : V) (H : Hp) : Prop := match x with
  | .str _ => T = "str"
  | .int _ => T = "int"
  | .ref p => (T = "list" ∧ ∃ xs, SqL K H p xs) ∨ (T = "tuple" ∧ ∃ o, K.lookup p = some o ∧ o.cls = .type "tuple" ∧ o.dict = none) ∨
      (T = "dict" ∧ ((∃ kvs, H p = some (.dK kvs)) ∨ ∃ kvs, H p = some (.dT kvs))) ∨ (T = "set" ∧ ∃ S n, H p = some (.set S n))
  | _ => False
theorem tyV_is {pins : List (Addr × Obj)} {σ : St} {H : Hp} {s : Shared} {T : String} {x : V} {v : Value} (I : Inv X pins σ H s) (r : RelV x v) (ty : tyV X.K T x H) :
    s.TypeIs v T ∧ ∀ a, v = .ref a → ∃ ob, s.heap.get? a = some ob ∧ ob.dict = none := by
  cases x with
  | str z =>
    obtain ⟨t, rfl⟩ := r
    cases (show T = "str" from ty)
    exact ⟨typeIs_str s z t, fun _ e => nomatch e⟩
  | int i =>
    obtain ⟨t, rfl⟩ := r
    cases (show T = "int" from ty)
    exact ⟨typeIs_int s i t, fun _ e => nomatch e⟩
  | ref p =>
    cases r
    rcases ty with ⟨rfl, xs, hq⟩ | ⟨rfl, o, hk, hc, hd⟩ | ⟨rfl, hk⟩ | ⟨rfl, S, n, hk⟩
    · obtain ⟨its, _, pl, _⟩ := I.list hq
      refine ⟨pl.isList.typeIs, fun a e => ?_⟩
      cases e
      obtain ⟨o, n, e, c, hd, _⟩ := pl
      exact ⟨o, e, hd⟩
    · refine ⟨⟨o, I.kIn p o hk, hc⟩, fun a e => ?_⟩
      cases e
      exact ⟨o, I.kIn _ o hk, hd⟩
    · have z : ∃ o, s.heap.get? p = some o ∧ o.ExactDict := by
        rcases hk with ⟨kvs, hk⟩ | ⟨kvs, hk⟩
        · obtain ⟨_, _, _, _, o, _, _, e, ex, _⟩ := I.hok p _ hk
          exact ⟨o, e, ex⟩
        · obtain ⟨_, _, _, _, o, _, _, e, ex, _⟩ := I.hok p _ hk
          exact ⟨o, e, ex⟩
      obtain ⟨o, e, ex⟩ := z
      refine ⟨⟨o, e, ex.1⟩, fun a e2 => ?_⟩
      cases e2
      exact ⟨o, e, ex.2.1⟩
    · obtain ⟨o, _, _, _, e, ex, _⟩ := I.hok p _ hk
      refine ⟨⟨o, e, ex.1⟩, fun a e2 => ?_⟩
      cases e2
      exact ⟨o, e, ex.2.1⟩
  | _ => exact False.elim ty
def tBM (K : PySem.W.Frag) (T : String) (r : V → List V → Hp → VK → Prop) (to : TE) (t : TA) : TE := fun σ H Q => to σ H fun x H1 => tyV K T x H1 ∧ t σ H1 fun xs H2 => r x xs H2 Q
variable {o e : Expr} {es : List Expr} {to : TE} {t : TA} {name : Str} {apos cpos : Pos} {T id : String} {r : V → List V → Hp → VK → Prop}
theorem pe_bm (pa : PlainAttrs T) (slot : Slot T name id) (hty : typeOf (.builtin id) = pure (.type "method_descriptor")) (hm : MtR X id r) (ho : PE X o to) (ha : PA X (e :: es) t)
    (hbase : attributeBase o name X.env (eval o X.env) = eval o X.env := by rfl)
    (hfew : ((backTo cpos (starEach (e :: es) X.env)).all (fun x => !x.1) && (backToKw cpos (keywordEach [] X.env)).all (fun x => x.1.isSome)
      && decide ((e :: es).length + ([] : List Keyword).length + (if ([] : List Keyword).isEmpty then 0 else 1) < 30)) = true := by rfl)
    (hline : (apos.endLine == cpos.line) = true := by rfl) (hs : starEach (e :: es) X.env = (false, eval e X.env) :: starEach es X.env := by rfl) (hplain : (backTo cpos (starEach es X.env)).any (·.1) = false := by rfl) :
    PE X (.Call (.Attribute o name apos) (e :: es) [] cpos) (tBM X.K T r to t) := by
  intro pins s σ H Q I h
  refine wpAny_Call_method_late hbase hfew hline rfl (thn (ho pins s σ H _ I h) fun v s1 ⟨x, H1, I1, r1, ty, q1⟩ => ?_)
  obtain ⟨h1, h2⟩ := tyV_is I1 r1 ty
  refine ⟨T, id, pa, slot, hty, h1, h2, ?_⟩
  have hA := ha cpos pins s1 σ H1 _ I1 q1
  rw [hs] at hA ⊢
  refine Calls.callWith_builtin (by show (false || (backTo cpos (starEach es X.env)).any (·.1)) = false; rw [hplain] <;> rfl) (Calls.evalArgs_plain ?_)
  exact thn hA fun us s2 ⟨vs, H2, I2, r2, q2⟩ => hm pins s2 σ H2 x vs v us Q I2 r1 r2 q2
/- xs.append(e), list.index on a module's tuple .. are MtR facts of 06m -/
end
end L2

namespace L2
open PySem PySem.Spec PyProof.Rows

def MtM (X : Cx) (id : String) (r : V → List V → Hp → VK → Prop) : Prop :=
  ∀ (pins : List (Addr × Obj)) (s : Shared) (σ : St) (H : Hp) (x : V) (xs : List V) (v : Value) (us : List Value) (Q : VK), Inv X pins σ H s → RelV x v → Vals xs us → r x xs H Q →
    wpAny (model X.prog X.w) X.A (call (.builtin id) (v :: us)) (EP X pins σ Q) X.xe s

/-! ### lists of values -/
theorem Vals.one : ∀ {x : V} {us : List Value}, Vals [x] us → ∃ u, us = [u] ∧ RelV x u
  | _, _, .cons r .nil => ⟨_, rfl, r⟩
theorem Vals.two : ∀ {x y : V} {us : List Value}, Vals [x, y] us → ∃ u v, us = [u, v] ∧ RelV x u ∧ RelV y v
  | _, _, _, .cons r (.cons q .nil) => ⟨_, _, rfl, r, q⟩
theorem Vals.eraseIdx : ∀ {xs : List V} {us : List Value} (i : Nat), Vals xs us → Vals (xs.eraseIdx i) (us.eraseIdx i)
  | _, _, _, .nil => .nil
  | _, _, 0, .cons _ t => t
  | _, _, i + 1, .cons r t => .cons r (Vals.eraseIdx i t)
theorem len_erase {α : Type} : ∀ (l : List α) (i : Nat), (l.eraseIdx i).length ≤ l.length
  | [], _ => Nat.le_refl _
  | _ :: _, 0 => Nat.le_succ _
  | _ :: r, i + 1 => Nat.succ_le_succ (len_erase r i)

section
variable {X : Cx} {pins : List (Addr × Obj)} {σ : St} {H : Hp} {s : Shared} {l b : Addr} {xs ys zs : List V}

/-! ### the two steps: a tracked list is rewritten, a new list is laid -/
theorem Inv.lset {its its' : List Value} {n : Nat} {f : Array Value → Array Value} {t' : Nat} (I : Inv X pins σ H s) (hH : H l = some (.lst xs))
    (e : s.heap.get? l = some { cls := .type "list", data := .seq its.toArray n }) (hf : f its.toArray = its'.toArray) (hv : Vals ys its') (hz : ys.length ≤ sizeLine) :
    Inv X pins σ (upd H l (.lst ys)) { s with heap := s.heap.update l (Obj.mapSeq f), toks := t' } := by
  have q := PySem.IsL.update e f
  rw [hf] at q
  refine I.write (x := l) (e := l) (by rw [hH]; exact trivial) (.inl rfl) (fun b' u hb hu => (Heap.get?_update_other s.heap (Obj.mapSeq f) (Ne.symm hb)).trans hu) ⟨_, q⟩ ?_
  exact ⟨hz, its', _, hv, q⟩
theorem Inv.lnew {its : List Value} {t' : Nat} (I : Inv X pins σ H s) (hv : Vals ys its) (hz : ys.length ≤ sizeLine) :
    Inv X pins σ (upd H s.heap.objs.size (.lst ys)) { s with heap := s.heap.push { cls := .type "list", data := .seq its.toArray }, toks := t' } :=
  I.laid (fun _ _ q => Heap.get?_push_of_some _ q) (Nat.le_refl _) ⟨hz, its, 0, hv, Heap.get?_push_size _ rfl⟩
theorem Inv.fresh (I : Inv X pins σ H s) : H s.heap.objs.size = none := I.hok.fresh (Nat.le_refl _)
theorem Inv.lstM (I : Inv X pins σ H s) (hH : H l = some (.lst xs)) : xs.length ≤ sizeLine ∧ ∃ (its : List Value) (n : Nat), Vals xs its ∧ xs.length = its.length ∧ s.heap.get? l = some { cls := .type "list", data := .seq its.toArray n } := by
  obtain ⟨z, its, n, r, e⟩ := I.hok l _ hH
  exact ⟨z, its, n, r, r.length, e⟩

end

section
variable {X : Cx}

/-! ### methods -/
def rAppend : V → List V → Hp → VK → Prop := fun x vs H Q => ∃ l xs y, x = .ref l ∧ vs = [y] ∧ H l = some (.lst xs) ∧ xs.length < sizeLine ∧ Q .non (upd H l (.lst (xs ++ [y])))
theorem mt_append : MtM X "list.append" rAppend := by
  intro pins s σ H x vs v us Q I rx rv h
  obtain ⟨l, xs, y, rfl, rfl, hH, hz, q⟩ := h
  cases rx
  obtain ⟨u, rfl, ru⟩ := rv.one
  obtain ⟨z, its, n, r, hl, e⟩ := I.lstM hH
  refine call_meets F.slot_list_append ⟨_, e, rfl⟩ F.entry_list_append (F.args_list_append_2 _ _) (PySem.list_append l its.toArray n u (by rw [List.size_toArray]; omega)) ⟨e, ?_⟩
  refine ⟨.non, _, I.lset (its' := its ++ [u]) hH e (by simp) (r.append (.cons ru .nil)) ?_, rfl, q⟩
  rw [List.length_append, List.length_singleton]
  omega



def rPopAt : V → List V → Hp → VK → Prop := fun x vs H Q => ∃ l xs i k y, x = .ref l ∧ vs = [.int i] ∧ H l = some (.lst xs) ∧ -(2 ^ 63) ≤ i ∧ i < 2 ^ 63 ∧ seqIndex? i xs.length = some k ∧ xs[k]? = some y ∧ Q y (upd H l (.lst (xs.eraseIdx k)))
theorem mt_popAt : MtM X "list.pop" rPopAt := by
  intro pins s σ H x vs v us Q I rx rv h
  obtain ⟨l, xs, i, k, y, rfl, rfl, hH, h1, h2, hk, hy, q⟩ := h
  cases rx
  obtain ⟨u, rfl, ru⟩ := rv.one
  obtain ⟨t, rfl⟩ := ru
  obtain ⟨z, its, n, r, hl, e⟩ := I.lstM hH
  obtain ⟨w, hw, rw'⟩ := r.get hy
  refine call_meets F.slot_list_pop ⟨_, e, rfl⟩ F.entry_list_pop (F.args_list_pop_2 _ _)
    (MeetsSeq.list_pop_at l its.toArray n i t k w (fitsIndex_both h1 h2) (by rw [List.size_toArray, ← hl]; exact hk) (by rw [← Array.getElem?_toList]; exact hw) (by rw [List.size_toArray]; omega)) ⟨e, ?_⟩
  refine ⟨y, _, I.lset (its' := its.eraseIdx k) hH e ?_ (r.eraseIdx k) ?_, rw', q⟩
  · show its.toArray.eraseIdxIfInBounds k = (its.eraseIdx k).toArray
    rw [List.eraseIdxIfInBounds_toArray]
  · have := len_erase xs k
    omega



/-! ### list + list, list += list, list * int -/
def rCat : R2 := fun x y H Q => ∃ l b xs zs, x = .ref l ∧ y = .ref b ∧ H l = some (.lst xs) ∧ H b = some (.lst zs) ∧ xs.length + zs.length ≤ sizeLine ∧ ∀ p, H p = none → Q (.ref p) (upd H p (.lst (xs ++ zs)))
theorem op_cat : OpR X (binaryOp .Add) rCat := by
  intro pins s σ H x y v u Q I rx ry h
  obtain ⟨l, b, xs, zs, rfl, rfl, hH, hB, hz, q⟩ := h
  cases rx
  cases ry
  obtain ⟨z, its, n, r, hl, e⟩ := I.lstM hH
  obtain ⟨z2, its2, n2, r2, hl2, e2⟩ := I.lstM hB
  refine PySem.P.add_list e e2 ?_ (by rw [List.size_toArray, List.size_toArray]; omega)
  have ea : its.toArray ++ its2.toArray = (its ++ its2).toArray := by simp
  rw [ea]
  exact ⟨.ref _, _, I.lnew (t' := s.toks) (r.append r2) (by rw [List.length_append]; omega), rfl, q _ I.fresh⟩

/-! ### del xs[i] -/
end

/-! ### xs[a:b] = ys -/
section
variable {prog : Program} {w : World} {A : Around} {E : Value → Shared → Prop} {s : Shared}
end

section
variable {X : Cx}
end
end L2

namespace Att
open PySem PySem.W PySem.Calls PyProof.Rows

/-! ### the script -/
theorem ints_of_wellAll {P : Params} {h : Heap} : ∀ (ns : List Int) (vs : List Value), WellAll P h vs (ns.map WData.int) → IntsAre vs ns := by
  intro ns
  induction ns with
  | nil =>
    intro vs w
    rw [List.map_nil] at w
    cases w
    exact .nil
  | cons n ns ih =>
    intro vs w
    rw [List.map_cons] at w
    cases w with
    | cons a b =>
      cases a
      exact .cons _ _ (ih _ b)

theorem script_of {l : OpenLaw} {n : Nat} (hn : l.most = some n) {P : Params} {h : Heap} {args : List WData} {vals : List Value}
    (hpre : l.row.toRowW.claim.pre args = true) (hwl : WellAll P h vals args) :
    ∃ a vs ns, vals = [Value.ref a] ∧ args = [WData.list (ns.map WData.int)] ∧ h.get? a = some { cls := .type "list", data := .seq vs.toArray } ∧ IntsAre vs ns ∧ ns.length ≤ n := by
  have hsh : WShape.hasAll [] args [.list .int] = true := (pre_splitW hpre).1
  have hc : l.pre.holds [] { args := args } = true := (pre_splitW hpre).2
  obtain ⟨d, r, rfl, h1, h2⟩ := hasAllW_cons hsh
  obtain rfl := hasAllW_nil h2
  obtain ⟨xs, rfl, h3⟩ := hasW_list h1
  obtain ⟨ns, rfl⟩ := items_int h3
  have hlen : ns.length ≤ n := by
    unfold OpenLaw.pre at hc
    have h4 : (WTm.not (.lt (.lit (.int (n : Int))) (.len (.arg 0)))).holds [] { args := [.list (ns.map .int)] } = true := by
      have h4 := (holds_andW hc).1
      rw [hn] at h4
      exact h4
    have h5 := condW_of h4 (w_not (w_lt w_lit (w_len_list (w_arg rfl))))
    rw [List.length_map] at h5
    refine Nat.le_of_not_lt fun q => ?_
    have q' : (n : Int) < ((ns.length : Nat) : Int) := by omega
    first
      | (rw [decide_eq_true q'] at h5; exact absurd h5 (by decide))
      | (simp at h5; omega)
  cases hwl with
  | cons w1 w2 =>
    cases w2
    cases w1 with
    | list ho hall => exact ⟨_, _, ns, rfl, rfl, ho, ints_of_wellAll ns _ hall, hlen⟩

theorem post_true (l : OpenLaw) (args : List WData) : l.row.toRowW.claim.post args (.bool true) args = true :=
  postW_of (r := l.row.toRowW) (X := (true == true))
    (show WShape.has [] (.bool true) .bool = true by first | rfl | decide | simp [WShape.has, WShape.arms, WShape.armsAll])
    (show (WTm.eq .res (.lit (.bool true))).value [] { args := args, res := some (.bool true), after := args } = some (.bool (true == true)) from w_eq_bool (w_res rfl) w_lit) rfl

/-! ### the attachment: holds_open's last premise (the goal 'hc' behind k_head) from a wpAny of the law's body -/



/-! ### rules over ANY heap (no ledger) from facts about the written part K: the library's own take a ledger (News) for what they write -/
section
variable {prog : Program} {w : World} {A : Around} {E : Value → Shared → Prop} {s : Shared} {K : Frag}





/-! the whole heap as the ledger: makes every rule that writes through a ledger a rule over any heap -/

end
end Att

namespace L2
open PySem PySem.Spec PyProof.Rows

theorem vals_ints : ∀ {vs : List Value} {ns : List Int}, IntsAre vs ns → Vals (ns.map V.int) vs
  | _, _, .nil => .nil
  | _, _, .cons n t h => .cons ⟨t, rfl⟩ (vals_ints h)

/-- nothing is tracked but the script, known to the object (or it is an object of the module) -/
def Only (H : Hp) : Prop := ∀ b, H b = none ∨ ∃ o xs, H b = some (.frz o (.lst xs))

/-- THE HEAD: the law's promise, at the heap behind the top. F, the promise of the law's def, may use that base is part of the heap (so K.In base, base.Ns mainGlobals mg stand in Mod) -/
theorem law_call {P : Program} {w : World} {K : PySem.W.Frag} {mg mb : Str → Option Value} {CX : CXT} {k : Nat} {fa a : Addr} {fd : FuncData} {x : Str} {sp : Sp} {s₁ : Shared} {vs : List Value} {ns : List Int}
    (KX : K.In s₁.heap) (hns : s₁.heap.Ns mainGlobals mg) (hb : s₁.heap.Ns builtinsNs mb) (hbb : ∀ x : Str, x ≠ "__name__" → mb x = bootBuiltins x) (hlim : s₁.heap.NoLimit) (hg : s₁.gens = #[])
    (ha : s₁.heap.get? a = some { cls := .type "list", data := .seq vs.toArray }) (hi : IntsAre vs ns) (hl : ns.length ≤ sizeLine) (hr : Room k callerA)
    (F : ∀ base : Heap, K.In base → base.Ns mainGlobals mg → FnOk P w K mg base CX k fa fd [x] sp) (hbind : ∀ (s : Shared) (u : Value), BindsTo s fd ⟨[u], []⟩ [(x, u)])
    (hsp : ∀ H : Hp, Only H → SqL K H a (ns.map V.int) → sp [.ref a] H (fun v _ => v = .bl true) fun _ _ _ => False)
    (hCX : ∀ H e s', CX [] H s₁ (fun _ _ _ => False) e s' → False) :
    codeAny (model P w) callerA (.call (.ref fa) ⟨[.ref a], []⟩) (fun r s' => r = .ok (.ret (.bool true)) ∧ OldK s₁.heap s'.heap ∧ s'.os = s₁.os ∧ AllBare s'.gens) s₁ := by
  have rv := vals_ints hi
  have lenV := hi.length
  -- from an abstract heap in which nothing but the script may be tracked
  have core : ∀ H : Hp, Only H → SqL K H a (ns.map V.int) → HOk P w H s₁.heap → (∀ b, H b ≠ none → b = a) → (H a ≠ none → K.lookup a = none) →
      codeAny (model P w) callerA (.call (.ref fa) ⟨[.ref a], []⟩) (fun r s' => r = .ok (.ret (.bool true)) ∧ OldK s₁.heap s'.heap ∧ s'.os = s₁.os ∧ AllBare s'.gens) s₁ := by
    intro H hO hS hok hA hK
    have base_of : ∀ {b : Addr} {o : Obj}, s₁.heap.get? b = some o → H b = none → (hidT s₁.heap H).get? b = some o := fun e n => hidT_get e n
    have noA : ∀ {b : Addr} {o : Obj} {es : Array DictEntry} {ep : Nat}, s₁.heap.get? b = some o → o.data = .dict es ep → H b = none := fun {b o es ep} e d => by
      cases q : H b with
      | none => rfl
      | some u =>
        have e' : b = a := hA b (by rw [q]; simp)
        subst e'
        rw [ha] at e; cases e
        have d' : Data.seq vs.toArray _ = Data.dict es ep := d
        cases d'
    have nsK : ∀ {b : Addr} {m : Str → Option Value}, s₁.heap.Ns b m → (hidT s₁.heap H).Ns b m := fun {b m} ⟨o, es, ep, e, d, r⟩ => ⟨o, es, ep, base_of e (noA e d), d, r⟩
    have hKb : K.In (hidT s₁.heap H) := fun b o e => base_of (KX b o e) (by
      cases q : H b with
      | none => rfl
      | some u =>
        have e' : b = a := hA b (by rw [q]; simp)
        subst e'
        rw [hK (by rw [q]; simp)] at e; cases e)
    have hM : Mod K mg (hidT s₁.heap H) := ⟨hKb, nsK hns, ⟨mb, nsK hb, hbb⟩, let ⟨mc, h1, h2⟩ := hlim; ⟨mc, nsK h1, h2⟩⟩
    have e0 : Env0 P w K mg (hidT s₁.heap H) callerA [] s₁ H := ⟨rfl, hM, fun b o e => of_hidT e, Nat.le_of_eq (hidT_size _ _), trivial, fun b hb => absurd (show b ∈ ([] : List Addr) from hb) (by simp), hok, .of_eq hg⟩
    refine codeAny_mono ((F _ hKb (nsK hns)).run callerA [] s₁ H ⟨[.ref a], []⟩ [.ref a] [.ref a] _ _ hr e0 (hbind s₁ (.ref a)) (.cons rfl .nil) (hsp H hO hS)) fun r s' h => ?_
    cases r with
    | error e => exact (hCX H e s' h).elim
    | ok fl =>
      cases fl with
      | next => exact False.elim h
      | brk => exact False.elim h
      | cont => exact False.elim h
      | ret u =>
        obtain ⟨v, H', os, bare, un, hok', r', q⟩ := h
        have q' : v = .bl true := q
        subst q'
        obtain rfl : u = Value.bool true := r'
        refine ⟨rfl, OldK.of_keep fun b o e => ?_, os, bare⟩
        cases q : H b with
        | none => exact un.keep b o e q (by intro z; exact absurd (show b ∈ ([] : List Addr) from z) (by simp)) (by simp)
        | some u =>
          rcases hO b with z | ⟨ob, xs, z⟩
          · rw [q] at z; cases z
          · have z2 := un.frzs b ob _ z
            obtain ⟨e1, _⟩ := hok b _ z
            obtain ⟨e2, _⟩ := hok' b _ z2
            rw [e] at e1; cases e1
            exact e2
  cases hk : K.lookup a with
  | some o =>
    -- the script is one of the module's own objects
    have e := KX a o hk
    rw [ha] at e
    cases e
    refine core (fun _ => none) (fun _ => .inl rfl) (.inr ⟨_, vs.toArray, _, hk, rfl, rfl, rfl, by rw [List.size_toArray, lenV]; exact hl, by simpa using rv⟩) (fun b u z => by have z' : (none : Option HO) = some u := z; cases z') (fun b z => absurd rfl z) fun z => absurd rfl z
  | none =>
    refine core (fun b => if b = a then some (.frz { cls := .type "list", data := .seq vs.toArray } (.lst (ns.map V.int))) else none) (fun b => ?_) (.inl (.inr ⟨{ cls := .type "list", data := .seq vs.toArray }, if_pos rfl⟩)) (fun b u z => ?_) (fun b z => ?_) fun _ => hk
    · by_cases hb : b = a
      · exact .inr ⟨_, _, if_pos hb⟩
      · exact .inl (if_neg hb)
    · by_cases hb : b = a
      · have z' := (if_pos hb).symm.trans z
        cases z'
        subst hb
        exact ⟨ha, by rw [List.length_map]; exact hl, vs, _, rv, ha⟩
      · have z' := (if_neg hb).symm.trans z
        cases z'
    · by_cases hb : b = a
      · exact hb
      · exact absurd (if_neg hb) z
end L2

namespace L2
open PySem PySem.Spec PyProof.Rows


end L2

/- THE LAST THEOREM (shape; LID, My.* are yours):
   My.Adr: a structure of the addresses that your layer names (classes, functions); My.Txt K t: a structure (Prop) of the equations over K;
   My.txt_mk : {K} {implicit addresses ..} (e1 : nsIn K mainGlobals "law" = some (some (.ref f))) (e2 : K.lookup f = some ⟨oc, od, .func (fnOf "law" "law" params body scope dV kV doc pm an cdv ct), sl⟩) (e3 : codeIn K cdv "law" = true) .. : ∃ t, My.Txt K t

set_option maxRecDepth 100000 in
set_option maxHeartbeats 0 in
theorem PySem.Challenge.cw_LID_holds : PySem.Challenge.rw_LID.Holds := by
  w_on; o_law; k_head; (case hw => w_witness2)
  k_fill
  refine L2.walk_of (l := PySem.Challenge.rw_LID) (n := 63) (k := 40) (x := "script") (CX := fun w => ..) (sp := fun _ => My.sp_law) rfl (by decide) rfl ⟨rfl, by decide, by decide⟩ (fun w h Y => PySem.W.kIn_of Y) ?F ?S ?C
  case F =>
    intro w mg fa h KX G hmg
    have T : ∃ t, My.Txt (L2.KOf KX) t := by
      dsimp only [L2.KOf]                          -- K must stand as «<heap const> w.params» for k_is
      refine' My.txt_mk ?e1 ?e2 ?e3 ..
      (case e1 => PySem.W.k_is)                    -- in the order: a name -> its address -> its object -> its parts
      (case e2 => PySem.W.k_is)
      ..
    obtain ⟨t, T⟩ := T
    have e0 := hmg.symm.trans (PySem.W.mg_of KX G T.law)
    cases e0                                       -- fa is the law's own address
    exact ⟨_, fun s u => .of_eq rfl, fun base kb nb => My.law_fn T kb nb⟩     -- if «.of_eq rfl» comes too early: refine' ⟨_, ?b, fun base kb nb => My.law_fn T kb nb⟩; exact fun s u => .of_eq rfl
  case S => exact fun w H a ns hl hO hS => ..
  case C => exact ..
(the tactic k_is has no namespace: write k_is) -/

/-! SHORT WORDS over the layer: a def of the text, its body, what a loop and a test want. -/
namespace L2
open PySem PySem.Spec PyProof.Rows

/-! ### the text by places -/
/-- the j-th statement of a class's body -/
def inClass (s : Stmt) (j : Nat) : Stmt := match s with
  | .ClassDef _ _ _ body _ _ _ _ _ _ _ => body.getD j (.Pass ⟨0, 0, 0, 0⟩)
  | _ => .Pass ⟨0, 0, 0, 0⟩
def defArgs (s : Stmt) : Arguments := match s with
  | .FunctionDef _ a _ _ _ _ _ _ _ _ => a
  | _ => { posonlyargs := [], args := [], vararg := none, kwonlyargs := [], kw_defaults := [], kwarg := none, defaults := [] }
def defBody (s : Stmt) : List Stmt := match s with
  | .FunctionDef _ _ b _ _ _ _ _ _ _ => b
  | _ => []
def defScope (s : Stmt) : Scope := match s with
  | .FunctionDef _ _ _ _ _ _ sc _ _ _ => sc
  | _ => { kind := .function, names := [], isGenerator := false, isCoroutine := false }

/-! ### no exception leaves a def -/
abbrev CX0 : CXT := fun _ _ _ _ _ _ => False
abbrev E0 : XK := fun _ _ _ => False
theorem pass0 {X : Cx} : Passes CX0 X E0 := fun _ _ _ _ _ _ _ h => h.elim

/-! ### a def (or method) of the text as it stands behind the top -/
structure Fun (K : PySem.W.Frag) (x qual : Str) (st : Stmt) (f : Addr) (fd : FuncData) : Prop where
  ex : ∃ (oc : Value) (od : Option Addr) (kV doc pm : Value) (an : Option Addr) (cdv ct : Value) (osl : Array (Option Value)),
    fd = PySem.W.fnOf x qual (defArgs st) (defBody st) (defScope st) .none kV doc pm an cdv ct ∧ K.lookup f = some ⟨oc, od, .func fd, osl⟩ ∧ PySem.W.codeIn K cdv qual = true
  kp : PySem.W.keepIn K (.ref f) = true
section
variable {P : Program} {w : World} {K : PySem.W.Frag} {mg : Str → Option Value} {base : Heap}
/-- THE RULE for a def: its body as a term of rules, and the reading of that term -/
theorem Fun.ok {x qual : Str} {st : Stmt} {f : Addr} {fd : FuncData} {N ps : List Str} {k : Nat} {sp : Sp} (F : Fun K x qual st f fd) (S : FnScope N ps (defScope st)) (len : ∀ vs H Q E, sp vs H Q E → vs.length = ps.length)
    (hbody : ∀ (cdv : Value) (A : Around) (outer : List Env) (s : Shared) (H : Hp) (vs : List V) (Q : VK) (E : XK), Room k (A.deeper (envOfC qual (defScope st) s.heap.objs.size f cdv)) → sp vs H Q E →
      ∃ t, PSs (cxOf CX0 P w K mg base N qual (defScope st) f cdv A outer s H E).nox (defBody st) t ∧ t { nx := fun _ H' => Q .non H', rt := Q } (start N vs) H) : FnOk P w K mg base CX0 (k + 1) f fd ps sp := by
  obtain ⟨oc, od, kV, doc, pm, an, cdv, ct, osl, rfl, lk, hcd⟩ := F.ex
  refine fn_of lk hcd S len fun A outer s H vs Q E hr hsp => ?_
  obtain ⟨t, h, q⟩ := hbody cdv A outer s H vs Q E hr hsp
  exact ⟨t, h.nox, q⟩
/-- how its arguments bind (no defaults): h is «fun _ _ _ _ _ _ us hl => match us, hl with | [_, _], _ => rfl», one _ a parameter -/
theorem Fun.binds {x qual : Str} {st : Stmt} {f : Addr} {fd : FuncData} {ps : List Str} (F : Fun K x qual st f fd)
    (h : ∀ (kV doc pm : Value) (an : Option Addr) (cdv ct : Value) (us : List Value), us.length = ps.length → bindArgs (PySem.W.fnOf x qual (defArgs st) (defBody st) (defScope st) .none kV doc pm an cdv ct) ⟨us, []⟩ = pure (ps.zip us)) : Binds K fd ps [] := by
  obtain ⟨oc, od, kV, doc, pm, an, cdv, ct, osl, rfl, lk, hcd⟩ := F.ex
  exact .all (h kV doc pm an cdv ct)
theorem fun_mk {x qual : Str} {st : Stmt} {f : Addr} {oc : Value} {od an : Option Addr} {osl : Array (Option Value)} {kV doc pm cdv ct : Value} (l : K.lookup f = some ⟨oc, od, .func (PySem.W.fnOf x qual (defArgs st) (defBody st) (defScope st) .none kV doc pm an cdv ct), osl⟩)
    (c : PySem.W.codeIn K cdv qual = true) (k : PySem.W.keepIn K (.ref f) = true) : Fun K x qual st f (PySem.W.fnOf x qual (defArgs st) (defBody st) (defScope st) .none kV doc pm an cdv ct) := ⟨⟨oc, od, kV, doc, pm, an, cdv, ct, osl, rfl, l, c⟩, k⟩
end

/-! ### expressions in short: the name that stands in the i-th slot -/
section
variable {X : Cx}
theorem pv (i : Nat) {x : Str} {pos : Pos} (hN : X.N[i]? = some x := by rfl) (hv : Vis X.env.scope x := by first | exact Or.inl rfl | exact Or.inr (Or.inl rfl) | exact Or.inr (Or.inr rfl)) (hd : (x == ("__debug__" : Str)) = false := by decide)
    (hcd : (x == ("__classdict__" : Str)) = false := by decide) : PE X (.Name x pos) (tVar i) := pe_var hN hv hd hcd
end

/-! ### tests -/
theorem iteF {A B : Prop} (h : B) : if false = true then A else B := by
  rw [if_neg Bool.false_ne_true]
  exact h
theorem iteT {A B : Prop} (h : A) : if true = true then A else B := by
  rw [if_pos rfl]
  exact h
theorem ite2 {c A B : Prop} [Decidable c] (h1 : c → A) (h2 : ¬ c → B) : if c then A else B := by
  by_cases h : c
  · rw [if_pos h]
    exact h1 h
  · rw [if_neg h]
    exact h2 h

/-! ### heaps -/
/-- all that was tracked is as it was -/
def Same (H H' : Hp) : Prop := ∀ b o, H b = some o → H' b = some o
theorem Same.refl (H : Hp) : Same H H := fun _ _ h => h
theorem Same.trans {H H1 H2 : Hp} (a : Same H H1) (b : Same H1 H2) : Same H H2 := fun c o h => b c o (a c o h)
theorem Same.free {H H' : Hp} (e : Same H H') {l : Addr} (h : H' l = Option.none) : H l = Option.none := by
  cases q : H l with
  | none => rfl
  | some o =>
    rw [e l o q] at h
    cases h

end L2

set_option Elab.async false
set_option linter.all false
set_option maxRecDepth 100000
namespace L2
open PySem PySem.Spec PyProof.Rows

/-! ### lists of pairs as tables -/
section
variable {κ : Type} [DecidableEq κ]



end


/-! ### a tracked dict, its keys ints and texts or tuples of these -/


section
variable {P : Program} {w : World} {H : Hp} {h : Heap} {a : Addr}
end



section
variable {X : Cx} {pins : List (Addr × Obj)} {σ : St} {H : Hp} {s : Shared} {a : Addr} {y v : V} {u r : Value} {o : Option V} {A : Around} {E : Value → Shared → Prop}


end

section
variable {X : Cx} {pins : List (Addr × Obj)} {σ : St} {H : Hp} {s : Shared} {a : Addr} {kvs : List (Key × V)} {k : Key} {u : Value} {A : Around} {E : Value → Shared → Prop}
end


/-! ### readings and rules -/



section
variable {X : Cx} {o i e value : Expr} {pos pos' tpos : Pos} {td ty tv : TE}
end


/-! ### displays -/
section
variable {X : Cx} {pos : Pos}
end




/-! ### methods -/


section
variable {X : Cx} {pins : List (Addr × Obj)} {σ : St} {H : Hp} {s : Shared} {a : Addr} {y d : V} {u r : Value} {o : Option V} {A : Around} {E : Value → Shared → Prop}
end

section
variable {X : Cx} {o e f : Expr} {apos cpos : Pos} {td ty tx : TE}
end

/-! ### dict(d): a copy -/
section
variable {X : Cx} {pins : List (Addr × Obj)} {σ : St} {H : Hp} {s : Shared} {a : Addr} {kvs : List (Key × V)} {A : Around} {E : Value → Shared → Prop}
end


section
variable {X : Cx} {pins : List (Addr × Obj)} {σ : St} {H : Hp} {s : Shared} {a : Addr} {y : V} {u : Value} {A : Around} {E : Value → Shared → Prop}
end
end L2

namespace L2
open PySem PySem.Spec PyProof.Rows
section
variable {X : Cx}
end
/-! ### a dict's pairs: keys that differ -/
section
variable {κ : Type} [DecidableEq κ]
end
end L2

set_option Elab.async false
set_option linter.all false
set_option maxRecDepth 100000
namespace L2
open PySem PySem.Spec PyProof.Rows

/-! an object that was not tracked is tracked from now on -/
theorem HOk.track {P : Program} {w : World} {H : Hp} {h : Heap} {a : Addr} {o : HO} (ok : HOk P w H h) (n : H a = none) (new : ObjOk P w (upd H a o) h a o) : HOk P w (upd H a o) h := fun b u q => by
  by_cases hb : b = a
  · subst hb; rw [upd_same] at q; cases q; exact new
  · rw [upd_ne hb] at q
    exact (ok b u q).stay (fun _ _ _ r => r) (fun c r => by rw [upd_ne (ne_of_none r n)]; exact r) fun c xs r => by rw [upd_ne (ne_of_none r n)]; exact r

/-! ### the signs of a text, walked -/

/-! ### a walk of a known row of values -/
structure Wk (J : It) (xs : List V) (P : Hp → Prop) : Prop where
  go : ∀ i H, i < xs.length → P H → J.go i H
  yld : ∀ i H x H', P H → J.yld i H x H' → H' = H ∧ (i < xs.length → xs[i]? = some x)
  stop : ∀ H, P H → J.stop xs.length H
theorem wk_list (K : PySem.W.Frag) (a : Addr) (xs : List V) : Wk (Itl K a) xs (fun H => SqL K H a xs) :=
  ⟨fun i H hi h => ⟨xs, xs[i], h, by simp [hi]⟩, fun i H x H' h y => ⟨y.1, fun _ => y.2 xs h⟩, fun H h => ⟨xs, h, Nat.le_refl _⟩⟩

/-! ### a list comprehension of one clause -/
def closOf (scope : Scope) (env : Env) : List (Str × Addr) := ((scope.names.filter fun y => y.2 == .free).map fun y => (y.1, (env.cells.lookup y.1).getD 0)).reverse
theorem clos_go (env : Env) : ∀ (l : List (Str × NameKind)) (cs : List (Str × Addr)), (∀ y ∈ l, y.2 = .free → ∃ c, env.cells.lookup y.1 = some c) →
    (forIn l cs fun (x : Str × NameKind) (r : List (Str × Addr)) => if (x.2 == NameKind.free) = true then (cellOf env x.1 >>= fun c => pure (ForInStep.yield ((x.1, c) :: r)) : Sem (ForInStep (List (Str × Addr)))) else pure (ForInStep.yield r))
      = (pure (((l.filter fun y => y.2 == .free).map fun y => (y.1, (env.cells.lookup y.1).getD 0)).reverse ++ cs) : Sem (List (Str × Addr)))
  | [], cs, _ => by simp
  | y :: l, cs, h => by
    rw [List.forIn_cons]
    have ih := fun cs => clos_go env l cs fun z hz => h z (List.mem_cons_of_mem _ hz)
    by_cases hk : (y.2 == NameKind.free) = true
    · obtain ⟨c, hc⟩ := h y List.mem_cons_self (by simpa using hk)
      have ec : cellOf env y.1 = pure c := by unfold cellOf; rw [hc]
      rw [if_pos hk, ec]
      show (forIn l ((y.1, c) :: cs) _ : Sem _) = _
      rw [ih]
      rw [List.filter_cons_of_pos (by simpa using hk), List.map_cons, List.reverse_cons, hc]
      simp
    · rw [if_neg hk]
      show (forIn l cs _ : Sem _) = _
      rw [ih, List.filter_cons_of_neg (by simpa using hk)]
theorem closureFor_eq {scope : Scope} {env : Env} (h : ∀ y ∈ scope.names, y.2 = .free → ∃ c, env.cells.lookup y.1 = some c) : closureFor scope env = pure (closOf scope env) := by
  have e := clos_go env scope.names [] h
  rw [List.append_nil] at e
  unfold closureFor
  show (forIn scope.names [] _ >>= fun r => pure r : Sem _) = _
  exact (congrArg (fun t : Sem (List (Str × Addr)) => t >>= fun r => pure r) e).trans rfl
theorem mem_closOf {scope : Scope} {env : Env} {p : Str × Addr} (h : p ∈ closOf scope env) : ∃ y ∈ scope.names, y.2 = .free ∧ p = (y.1, (env.cells.lookup y.1).getD 0) := by
  unfold closOf at h
  rw [List.mem_reverse, List.mem_map] at h
  obtain ⟨y, hy, e⟩ := h
  rw [List.mem_filter] at hy
  exact ⟨y, hy.1, by simpa using hy.2, e.symm⟩
theorem lookup_closOf {scope : Scope} {env : Env} (h : ∀ y ∈ scope.names, y.2 = .free → ∃ c, env.cells.lookup y.1 = some c) {y : Str} {c : Addr} (e : (closOf scope env).lookup y = some c) : env.cells.lookup y = some c := by
  obtain ⟨z, hz, hf, q⟩ := mem_closOf (PySem.mem_of_lookup e)
  obtain ⟨d, hd⟩ := h z hz hf
  have q1 : y = z.1 := congrArg Prod.fst q
  have q2 : c = (env.cells.lookup z.1).getD 0 := congrArg Prod.snd q
  rw [hd] at q2
  rw [q1, hd, q2] <;> rfl
theorem has_closOf {scope : Scope} {env : Env} {y : Str} (e : (y, NameKind.free) ∈ scope.names) : ∃ c, (closOf scope env).lookup y = some c := by
  have m : (y, (env.cells.lookup y).getD 0) ∈ closOf scope env := by
    unfold closOf
    rw [List.mem_reverse, List.mem_map]
    exact ⟨(y, .free), List.mem_filter.mpr ⟨e, by rfl⟩, rfl⟩
  cases q : (closOf scope env).lookup y with
  | some c => exact ⟨c, rfl⟩
  | none =>
    rw [List.lookup_eq_none_iff] at q
    have := q _ m
    simp at this
theorem lookup_relabel_free {env : Env} (hk : env.scope.kind = .function) : ∀ {names : List (Str × NameKind)} {x : Str}, names.lookup x = some .free → env.kindOf x = some .cell →
    (names.map fun (n, k) => if (k == NameKind.free && env.scope.kind == .function && env.kindOf n == some .cell) then (n, NameKind.cell) else (n, k)).lookup x = some .cell
  | [], _, h, _ => by simp at h
  | (n, k) :: r, x, h, hc => by
    have ih := @lookup_relabel_free env hk r x
    show List.lookup x ((if (k == NameKind.free && env.scope.kind == .function && env.kindOf n == some .cell) = true then (n, NameKind.cell) else (n, k)) :: _) = _
    cases hx : x == n with
    | true =>
      have hxn : x = n := by simpa using hx
      simp only [List.lookup_cons, hx] at h
      cases h
      rw [if_pos (by rw [hk, ← hxn, hc]; rfl)]
      simp [List.lookup_cons, hx]
    | false =>
      simp only [List.lookup_cons, hx] at h
      by_cases hc' : (k == NameKind.free && env.scope.kind == .function && env.kindOf n == some .cell) = true
      · rw [if_pos hc']; simp only [List.lookup_cons, hx]; exact ih h hc
      · rw [if_neg hc']; simp only [List.lookup_cons, hx]; exact ih h hc
theorem relabel_back {env : Env} : ∀ {names : List (Str × NameKind)} {x : Str} {k : NameKind},
    (names.map fun (n, k) => if (k == NameKind.free && env.scope.kind == .function && env.kindOf n == some .cell) then (n, NameKind.cell) else (n, k)).lookup x = some k → (k = .cell ∨ k = .free) →
    (x, NameKind.free) ∈ names ∨ (x, NameKind.cell) ∈ names
  | [], _, _, h, _ => by simp at h
  | (n, k0) :: r, x, k, h, hk => by
    have ih := @relabel_back env r x k
    change List.lookup x ((if (k0 == NameKind.free && env.scope.kind == .function && env.kindOf n == some .cell) = true then (n, NameKind.cell) else (n, k0)) :: _) = _ at h
    cases hx : x == n with
    | true =>
      have hxn : x = n := by simpa using hx
      subst hxn
      by_cases hc' : (k0 == NameKind.free && env.scope.kind == .function && env.kindOf x == some .cell) = true
      · have : k0 = .free := by
          rw [Bool.and_eq_true, Bool.and_eq_true] at hc'
          simpa using hc'.1.1
        subst this
        exact .inl List.mem_cons_self
      · rw [if_neg hc'] at h
        simp only [List.lookup_cons, hx] at h
        cases h
        rcases hk with rfl | rfl
        · exact .inr List.mem_cons_self
        · exact .inl List.mem_cons_self
    | false =>
      have h' : (r.map fun (n, k) => if (k == NameKind.free && env.scope.kind == .function && env.kindOf n == some .cell) then (n, NameKind.cell) else (n, k)).lookup x = some k := by
        by_cases hc' : (k0 == NameKind.free && env.scope.kind == .function && env.kindOf n == some .cell) = true
        · rw [if_pos hc'] at h; simp only [List.lookup_cons, hx] at h; exact h
        · rw [if_neg hc'] at h; simp only [List.lookup_cons, hx] at h; exact h
      rcases ih h' hk with z | z
      · exact .inl (List.mem_cons_of_mem _ z)
      · exact .inr (List.mem_cons_of_mem _ z)
end L2

set_option Elab.async false
set_option linter.all false
set_option maxRecDepth 100000
namespace L2
open PySem PySem.Spec PyProof.Rows

/-- the context of a comprehension's block: C its own names' dict, s₀ and H₀ as it begins, ex the iterator's objects -/
def cxComp (X : Cx) (scope : Scope) (N : List Str) (C : Addr) (s₀ : Shared) (H₀ : Hp) (ex : List Addr) : Cx where
  prog := X.prog
  w := X.w
  K := X.K
  mg := X.mg
  base := X.base
  A := X.A
  N := N
  s₀ := s₀
  H₀ := H₀
  env := compEnvC scope (closOf scope X.env) C X.env
  outer := X.stack
  stack := X.stack
  ex := ex
  fn := fun _ => false
  calm := X.calm
  pn := []
  xe := fun _ _ => False

/-- the tests of a clause -/
def PTs (X : Cx) (ifs : List Expr) (t : TT) : Prop :=
  ∀ (pins : List (Addr × Obj)) (s : Shared) (σ : St) (H : Hp) (Q : Bool → Hp → Prop), Inv X pins σ H s → t σ H Q →
    wpAny (model X.prog X.w) X.A (forIn ifs true fun c r => if r = true then do let ok ← isTrue c X.env (eval c X.env); pure (ForInStep.yield ok) else pure (ForInStep.yield r)) (TP X pins σ Q) X.xe s
theorem pts_one {X : Cx} {c : Expr} {t : TT} (h : PT X c t) : PTs X [c] t := fun pins s σ H Q I q => wpAny_tests_one (h pins s σ H Q I q)

section
variable {prog : Program} {w : World} {A : Around} {R : Result → Shared → Prop} {s : Shared}
theorem comp_loop {elt target iter : Expr} {ifs : List Expr} {scope : Scope} {pos : Pos} {it acc : Value} {env : Env} (I : Nat → Shared → Prop)
    (turn : ∀ n s, I n s → wpAny (model prog w) A (pyNext it) (fun r s₁ => match r with
      | none => R (.ok .next) s₁
      | some v => wpAny (model prog w) A (letOwnedTupleGo target it v) (fun _ s₁' => wpAny (model prog w) A (assign target env v) (fun _ s₂ =>
          wpAny (model prog w) A (forIn ifs true fun c r => if r = true then do let ok ← isTrue c env (eval c env); pure (ForInStep.yield ok) else pure (ForInStep.yield r)) (fun ok s₃ =>
            if ok = true then wpAny (model prog w) A (eval elt env) (fun x s₄ =>
              wpAny (model prog w) A (call (.builtin "list.append") [acc, x]) (fun _ s₅ => ∃ m, m < n ∧ I m s₅) (notedBy (model prog w) A env fun e s' => R (.error e) s') s₄) (notedBy (model prog w) A env fun e s' => R (.error e) s') s₃
            else ∃ m, m < n ∧ I m s₃) (notedBy (model prog w) A env fun e s' => R (.error e) s') s₂) (notedBy (model prog w) A env fun e s' => R (.error e) s') s₁') (notedBy (model prog w) A env fun e s' => R (.error e) s') s₁) (notedBy (model prog w) A env fun e s' => R (.error e) s') s)
    (n : Nat) (h : I n s) :
    codeAny (model prog w) A (.compLoop (.ListComp elt [⟨target, iter, ifs, 0⟩] scope pos) 0 it acc env) R s := by
  refine codeAny_loop rfl I (fun n s hI => ?_) n h
  show wpAny _ A ((compTurn (.ListComp elt [⟨target, iter, ifs, 0⟩] scope pos) 0 it acc env).onRaise (fun x => do noteFrame x env; theTreesLotGoes x)) _ _ s
  refine wpAny_noted ?_
  rw [compTurn_list]
  refine wpAny_bind (wpAny_standAt (wpAny_bind (wpAny_mono (turn n s hI) (fun r s₁ h₁ => ?_) fun _ _ h' => h')))
  cases r with
  | none => exact wpAny_pure h₁
  | some v =>
    refine wpAny_bind (wpAny_mono h₁ (fun _ s₁' h₁' => ?_) fun _ _ h' => h')
    refine wpAny_bind (wpAny_mono h₁' (fun _ s₂ h₂ => wpAny_bind (wpAny_mono h₂ (fun ok s₃ h₃ => ?_) fun _ _ h' => h')) fun _ _ h' => h')
    cases ok with
    | false => exact wpAny_pure ⟨rfl, h₃⟩
    | true =>
      exact wpAny_bind (wpAny_bind (wpAny_mono h₃ (fun x s₄ h₄ => wpAny_bind (wpAny_mono h₄ (fun _ s₅ h₅ => wpAny_pure (wpAny_pure ⟨rfl, h₅⟩)) fun _ _ h' => h')) fun _ _ h' => h'))
end

/-- os: the block's own names; js: the slots of the captured names -/
def caps (σ : St) (js : List Nat) : St := js.map fun j => σ.getD j none
def tCompB (k : Nat) (js : List Nat) (g : TG) (tc : TT) (te : TE) (σ : St) (Q : VK) (J : It) (H1 : Hp) : Prop :=
  ∃ W : Nat → Nat → List V → Hp → Prop, (∃ m, W 0 m [] H1) ∧ ∀ i m ys H, W i m ys H →
    (J.stop i H ∧ ys.length ≤ sizeLine ∧ ∀ D, H D = none → Q (.ref D) (upd H D (.lst ys))) ∨
    (J.go i H ∧ ys.length < sizeLine ∧ ∀ x H', J.yld i H x H' → ∀ os : St, os.length = k → g x (os ++ caps σ js) H' fun σ2 H2 => (∃ os' : St, os'.length = k ∧ σ2 = os' ++ caps σ js) ∧
        tc σ2 H2 fun b H3 => if b = true then te σ2 H3 fun y H4 => ∃ m', m' < m ∧ W (i + 1) m' (ys ++ [y]) H4 else ∃ m', m' < m ∧ W (i + 1) m' ys H3)
def tComp (k : Nat) (js : List Nat) (wi : TI) (g : TG) (tc : TT) (te : TE) : TE := fun σ H Q => wi σ H (tCompB k js g tc te σ Q)

theorem caps_get {σ : St} {js : List Nat} {i : Nat} {v : V} (h : (caps σ js)[i]? = some (some v)) : ∃ j, js[i]? = some j ∧ σ[j]? = some (some v) := by
  unfold caps at h
  rw [List.getElem?_map] at h
  cases e : js[i]? with
  | none => rw [e] at h; cases h
  | some j =>
    rw [e] at h
    have h' : σ.getD j none = some v := Option.some.inj h
    refine ⟨j, rfl, ?_⟩
    rw [List.getD_eq_getElem?_getD] at h'
    cases q : σ[j]? with
    | none => rw [q] at h'; cases h'
    | some o => rw [q] at h'; exact congrArg some h'

set_option maxHeartbeats 1000000 in
theorem pe_comp {X : Cx} {elt iter tg : Expr} {pos : Pos} {ifs : List Expr} {scope : Scope} {wi : TI} {g : TG} {tc : TT} {te : TE} (own : List Str) (js : List Nat) (N' : List Str) (hc : X.calm = true)
    (hi : PI X tg iter wi)
    (hg : ∀ C s₀ H₀ ex, PG (cxComp X scope N' C s₀ H₀ ex) tg g)
    (ht : ∀ C s₀ H₀ ex, PTs (cxComp X scope N' C s₀ H₀ ex) ifs tc)
    (he : ∀ C s₀ H₀ ex, PE (cxComp X scope N' C s₀ H₀ ex) elt te)
    (hN' : N' = own ++ js.map fun j => X.N.getD j Str.empty := by rfl)
    (hk : scope.kind = .function := by rfl)
    (hcell : ∀ y ∈ scope.names, y.2 ≠ .cell := by decide +kernel)
    (hnames : ∀ y ∈ scope.names, y.2 = .local → scope.names.lookup y.1 = some .local := by decide +kernel)
    (hfr : (scope.names.all fun y => y.2 != .free || X.env.scope.names.lookup y.1 == some .cell) = true := by rfl)
    (hjs : (js.all fun j => scope.names.lookup (X.N.getD j Str.empty) == some .free && (X.N[j]?).isSome) = true := by rfl)
    (hs : ∀ z, foldedSetIterable iter X.env z = pure z := by intro _; rfl) :
    PE X (.ListComp elt [⟨tg, iter, ifs, 0⟩] scope pos) (tComp own.length js wi g tc te) := by
  intro pins s σ H Q I h
  have free_cell : ∀ y ∈ scope.names, y.2 = .free → X.env.kindOf y.1 = some .cell := fun y hy hf => by
    have := List.all_eq_true.mp hfr y hy
    rw [hf] at this
    simp at this
    exact this
  have hcl : ∀ y ∈ scope.names, y.2 = .free → ∃ c, X.env.cells.lookup y.1 = some c := fun y hy hf => I.ok.has y.1 (.inl (free_cell y hy hf))
  rw [eval_ListComp]
  refine wpAny_comprehension_free (use := none) rfl hs (closureFor_eq hcl) hk hnames ?_
  refine thn (hi pins s σ H _ I h) fun v s1 h1 => thn h1 fun itv s2 h2 => ?_
  obtain ⟨it, fp, tn, J, H2, e, I2, T, st2, f2, W, ⟨m0, w0⟩, turn⟩ := h2
  subst e
  refine wpAny_newObj_type (wpAny_newFunctionEnv hcell (by intro y hy; simp at hy) (fun h₁ hns₁ hsb₁ => ?_) hk)
  dsimp only at hns₁ hsb₁ ⊢
  generalize hG : s2.heap.push { cls := .type "list", dict := none, data := .seq ([] : List Value).toArray } = G at hns₁ hsb₁ ⊢
  have hC : G.objs.size = s2.heap.objs.size + 1 := by rw [← hG, Heap.size_push]
  have hDC : s2.heap.objs.size ≠ G.objs.size := by rw [hC]; exact Nat.ne_of_lt (Nat.lt_succ_self _)
  have below : ∀ b, b < s2.heap.objs.size → b ≠ G.objs.size ∧ b ≠ s2.heap.objs.size := fun b hb => ⟨by rw [hC]; exact Nat.ne_of_lt (Nat.lt_succ_of_lt hb), Nat.ne_of_lt hb⟩
  have old : ∀ b o, s2.heap.get? b = some o → h₁.get? b = some o := fun b o e => hsb₁.extBut b o (below b (Heap.lt_size e)).1 (Heap.get?_push_of_some _ (hG ▸ Heap.get?_push_of_some _ e))
  have hacc : h₁.get? s2.heap.objs.size = some { cls := .type "list", data := .seq ([] : List Value).toArray 0 } := hsb₁.extBut _ _ hDC (Heap.get?_push_of_some _ (hG ▸ Heap.get?_push_size _ rfl))
  have fplt : ∀ b ∈ fp, b < s2.heap.objs.size := fun b hb => let ⟨_, e, _⟩ := T.obj _ _ st2 b hb; Heap.lt_size e
  have ok' : (cxComp X scope N' G.objs.size s2 H2 fp).Ok := by
    refine ⟨I2.ok.mod, hk, I2.ok.glob, I2.ok.blt, by show s2.heap.objs.size ≤ G.objs.size; rw [hC]; exact Nat.le_succ _, fun x y c e1 e2 => I2.ok.inj x y c (lookup_closOf hcl e1) (lookup_closOf hcl e2), fun x hx => ?_,
      fun x c hx _ => (nomatch hx), I2.ok.hd, I2.ok.frames, .inl rfl, fun b hb => ⟨(below b (fplt b hb)).1, fun x c e => (f2 b hb).2.2.2.2.1 x c (lookup_closOf hcl e)⟩, I2.bs, Nat.le_trans I2.ok.bsz I2.sz, fun b o e hb => ?_, fun b hb z => ?_, I2.stack, I2.stkFree⟩
    · have hx' : (relabel scope X.env).names.lookup x = some .cell ∨ (relabel scope X.env).names.lookup x = some .free := hx
      have : (x, NameKind.free) ∈ scope.names ∨ (x, NameKind.cell) ∈ scope.names := by
        rcases hx' with z | z
        · exact relabel_back z (.inl rfl)
        · exact relabel_back z (.inr rfl)
      rcases this with z | z
      · exact has_closOf z
      · exact absurd rfl (hcell _ z)
    · rcases (f2 b hb).2.2.2.1 with z | z
      · exact I2.ok.noex b o e z
      · have h1 : b < X.base.objs.size := Heap.lt_size e
        exact absurd (Nat.lt_of_lt_of_le h1 (Nat.le_trans I2.ok.bsz z)) (Nat.lt_irrefl _)
    · rcases List.mem_cons.mp (I2.stkSub b z) with e | e
      · exact (f2 b hb).2.1 e
      · exact (f2 b hb).2.2.1 e
  have kindCap : ∀ i y, (js.map fun j => X.N.getD j Str.empty)[i]? = some y → ∃ j, js[i]? = some j ∧ X.N[j]? = some y ∧ scope.names.lookup y = some .free := fun i y e => by
    rw [List.getElem?_map] at e
    cases q : js[i]? with
    | none => rw [q] at e; cases e
    | some j =>
      rw [q] at e
      have e' : X.N.getD j Str.empty = y := Option.some.inj e
      have hj := List.all_eq_true.mp hjs j (List.mem_of_getElem? q)
      rw [Bool.and_eq_true] at hj
      obtain ⟨hj1, hj2⟩ := hj
      rw [e'] at hj1
      obtain ⟨z, hz⟩ := Option.isSome_iff_exists.mp hj2
      rw [List.getD_eq_getElem?_getD, hz] at e'
      exact ⟨j, q, by rw [hz]; exact congrArg some e', by simpa using hj1⟩
  have I0 : ∀ tk : Nat, Inv (cxComp X scope N' G.objs.size s2 H2 fp) [(s2.heap.objs.size, { cls := .type "list", data := .seq ([] : List Value).toArray 0 })] (List.replicate own.length none ++ caps σ js) H2 { s2 with heap := h₁, toks := tk } := fun tk => by
    refine ⟨ok', rfl, I2.bare, Un.kept old, ⟨_, hns₁, fun i y v e1 e2 e3 => ?_⟩, fun x c e => ?_, I2.hok.fresh (by show s2.heap.objs.size ≤ G.objs.size; rw [hC]; exact Nat.le_succ _), fun x c e => I2.freeC x c (lookup_closOf hcl e), fun p hp => ?_, I2.hok.kept old, ?_⟩
    · by_cases hlt : i < own.length
      · rw [List.getElem?_append_left (by simpa using hlt), List.getElem?_replicate] at e2
        split at e2 <;> cases e2
      · have e1' : N'[i]? = some y := e1
        rw [hN', List.getElem?_append_right (by omega)] at e1'
        rw [List.getElem?_append_right (by simpa using hlt), List.length_replicate] at e2
        obtain ⟨j, hj, hs2⟩ := caps_get e2
        obtain ⟨j', hj', hN, hfree⟩ := kindCap _ _ e1'
        rw [hj] at hj'; cases hj'
        obtain ⟨m, hm, hl⟩ := I2.loc
        have hcell' : X.env.kindOf y = some .cell := free_cell (y, .free) (PySem.mem_of_lookup hfree) rfl
        obtain ⟨u, r, l⟩ := hl j y v hN hs2 (.inr (.inl hcell'))
        refine ⟨u, r, ?_⟩
        rcases l with ⟨hk', _⟩ | ⟨hk', c, hc', z⟩
        · rw [hcell'] at hk'; cases hk'
        · obtain ⟨c', e'⟩ := has_closOf (env := X.env) (PySem.mem_of_lookup hfree)
          have := lookup_closOf hcl e'
          rw [hc'] at this; cases this
          refine .inr ⟨.inl (lookup_relabel_free I2.ok.kind hfree hcell'), c, e', ?_⟩
          obtain ⟨o, ho, hd⟩ := z
          exact ⟨o, old _ _ ho, hd⟩
    · obtain ⟨v, o, ho, hd⟩ := I2.cell x c (lookup_closOf hcl e)
      exact ⟨v, o, old _ _ ho, hd⟩
    · have hp' : p = (s2.heap.objs.size, { cls := .type "list", data := .seq ([] : List Value).toArray 0 }) := by
        rcases List.mem_append.mp hp with z | z
        · exact absurd (show p ∈ ([] : List (Addr × Obj)) from z) (by simp)
        · simpa using z
      subst hp'
      refine ⟨hacc, I2.hok.fresh (Nat.le_refl _), hDC, fun z => ?_, fun v z => by cases z⟩
      exact absurd (show s2.heap.objs.size ∈ frs X.stack from z) fun z => by
        rcases List.mem_cons.mp (I2.stkSub _ z) with e | e
        · have := I2.lt
          rw [← e] at this
          exact Nat.lt_irrefl _ this
        · exact I2.nofs (Nat.le_refl _) e
    · show _ = N'.length
      rw [hN']
      simp [caps]
  have stat : ∀ {H' : Hp} {ob : Obj}, (∀ b ∈ fp, H' b = none) → ∀ b ∈ fp, FpOk (cxComp X scope N' G.objs.size s2 H2 fp) [(s2.heap.objs.size, ob)] H' b := fun {H' ob} hn b hb =>
    ⟨hn b hb, (below b (fplt b hb)).1, fun z => ok'.exfs b hb z, .inl hb, fun x c e => (f2 b hb).2.2.2.2.1 x c (lookup_closOf hcl e), fun p hp => by
      have hp' : p = (s2.heap.objs.size, ob) := by
        rcases List.mem_append.mp hp with z | z
        · exact absurd (show p ∈ ([] : List (Addr × Obj)) from z) (by simp)
        · simpa using z
      subst hp'
      exact Ne.symm (below b (fplt b hb)).2⟩
  have loop : ∀ s₃ : Shared, s₃ = { s2 with heap := h₁, toks := s2.toks + ([] : List (Str × Value)).length } →
      codeAny (model X.prog X.w) X.A (.compLoop (.ListComp elt [⟨tg, iter, ifs, 0⟩] scope pos) 0 (.ref it) (.ref s2.heap.objs.size) (compEnvC scope (closOf scope X.env) G.objs.size X.env))
        (compPost (model X.prog X.w) X.A X.xe none (EP X pins σ Q) (.ref s2.heap.objs.size) G.objs.size) s₃ := by
    rintro s₃ rfl
    refine comp_loop (fun n s' => ∃ (i : Nat) (os : St) (H' : Hp) (ys : List V) (its : List Value) (k : Nat), os.length = own.length ∧
      Inv (cxComp X scope N' G.objs.size s2 H2 fp) [(s2.heap.objs.size, { cls := .type "list", data := .seq its.toArray k })] (os ++ caps σ js) H' s' ∧ tn i s'.heap ∧ (∀ b ∈ fp, H' b = none) ∧ Vals ys its ∧ W i n ys H') ?_ m0
      ⟨0, _, H2, [], [], 0, by simp, I0 _, T.keep _ _ _ st2 fun b _ o e => old b o e, fun b hb => (f2 b hb).1, .nil, w0⟩
    rintro n s3 ⟨i, os, H3, ys, its, k, hos, I3, st3, fr3, rv3, w3⟩
    have pinD : ∀ {σ' : St} {H' : Hp} {s' : Shared}, Inv (cxComp X scope N' G.objs.size s2 H2 fp) [(s2.heap.objs.size, { cls := .type "list", data := .seq its.toArray k })] σ' H' s' → s'.heap.get? s2.heap.objs.size = some { cls := .type "list", data := .seq its.toArray k } ∧ H' s2.heap.objs.size = none :=
      fun I => let q := I.pin (s2.heap.objs.size, { cls := .type "list", data := .seq its.toArray k }) (List.mem_append_right _ (by simp)); ⟨q.1, q.2.1⟩
    rcases turn i n ys H3 w3 with ⟨stop, hz, qn⟩ | ⟨go, hz, step⟩
    · refine thn (T.done (cxComp X scope N' G.objs.size s2 H2 fp) rfl rfl rfl hc i _ s3 _ H3 _ I3 (stat fr3) st3 stop) fun r s4 ⟨hr, I4⟩ => ?_
      subst hr
      obtain ⟨hD4, hn4⟩ := pinD I4
      obtain ⟨m, hm, _⟩ := I4.loc
      refine ⟨m, hm, fun h' hsb => ?_⟩
      have b4 := I4.base
      have nC : ∀ b o, s2.heap.get? b = some o → b ≠ G.objs.size := fun b o e => (below b (Heap.lt_size e)).1
      have nD : ∀ b o, s2.heap.get? b = some o → b ≠ s2.heap.objs.size := fun b o e => (below b (Heap.lt_size e)).2
      have hok' : HOk X.prog X.w H3 h' := fun b ob e => by
        refine (I4.hok b ob e).stay (fun c w' hc' q => (hsb.2 c ?_).trans q) (fun _ q => q) fun _ _ q => q
        rintro rfl
        rcases hc' with hc' | hc'
        · rw [← hc', show H3 G.objs.size = none from I4.free] at e; cases e
        · rw [show H3 G.objs.size = none from I4.free] at hc'; cases hc'
      have hD' : h'.get? s2.heap.objs.size = some { cls := .type "list", data := .seq its.toArray k } := (hsb.2 _ hDC).trans hD4
      refine ⟨.ref s2.heap.objs.size, upd H3 s2.heap.objs.size (.lst ys), ?_, rfl, qn _ hn4⟩
      refine I2.call' (ch := fp) I4.os ⟨fun b o e n hb hx => ?_, fun b o e n hb hx => ?_, fun b o e n hx => ?_, fun b o e hx => ?_, fun b xs q => ?_, fun b o u q => ?_, fun b ps q => ?_⟩ (hok'.track hn4 ⟨hz, its, k, rv3, hD'⟩) I4.bare fun b hb => ⟨(f2 b hb).2.2.2.1, (f2 b hb).2.1, (f2 b hb).2.2.2.2.1, (f2 b hb).2.2.2.2.2⟩
      · exact (hsb.2 b (nC b o e)).trans (b4.keep b o e n hb hx)
      · obtain ⟨sl, e1⟩ := b4.slot b o e n hb hx
        exact ⟨sl, (hsb.2 b (nC b o e)).trans e1⟩
      · rw [upd_ne (nD b o e)]; exact b4.free b o e n hx
      · obtain ⟨o', e1⟩ := b4.there b o e hx
        exact ⟨o', (hsb.2 b (nC b o e)).trans e1⟩
      · have z := b4.tups b xs q
        rw [upd_ne (ne_of_none z hn4)]; exact z
      · have z := b4.frzs b o u q
        rw [upd_ne (ne_of_none z hn4)]; exact z
      · obtain ⟨more, z⟩ := b4.tbls b ps q
        exact ⟨more, by rw [upd_ne (ne_of_none z hn4)]; exact z⟩
    · refine thn (T.item (cxComp X scope N' G.objs.size s2 H2 fp) rfl rfl rfl hc i _ s3 _ H3 _ I3 (stat fr3) st3 go) fun r s4 ⟨u, hr, h4⟩ => ?_
      subst hr
      refine thn h4 fun _ s5 ⟨x, H5, I5, r5, y5, st5, fr5⟩ => ?_
      have fpo := T.obj _ _ st5
      have I5' := I5.pinned (stat fr5) fpo
      refine wpAny_mono (hg _ _ _ _ _ s5 _ H5 x u _ I5' r5 (step x H5 y5 os hos)) (fun _ s6 ⟨σ6, H6, I6, ⟨os', hos', e6⟩, q6⟩ => ?_) fun _ _ z => False.elim z
      subst e6
      refine wpAny_mono (ht _ _ _ _ _ s6 _ H6 _ I6 q6) (fun ok s7 ⟨H7, I7, q7⟩ => ?_) fun _ _ z => False.elim z
      have keepFp : ∀ {σ' : St} {H' : Hp} {s' : Shared}, Inv (cxComp X scope N' G.objs.size s2 H2 fp) ([(s2.heap.objs.size, { cls := .type "list", data := .seq its.toArray k })] ++ pinsAt fp s5.heap) σ' H' s' → tn (i + 1) s'.heap ∧ ∀ b ∈ fp, H' b = none := fun I => by
        refine ⟨T.keep _ _ _ st5 fun b hb o e => (I.pin (b, o) (List.mem_append_right _ (List.mem_append_right _ (mem_pinsAt hb e)))).1, fun b hb => ?_⟩
        obtain ⟨o, e, d⟩ := fpo b hb
        exact (I.pin (b, o) (List.mem_append_right _ (List.mem_append_right _ (mem_pinsAt hb e)))).2.1
      cases ok with
      | false =>
        obtain ⟨m', hm', w'⟩ := q7
        obtain ⟨k1, k2⟩ := keepFp I7
        exact ⟨m', hm', i + 1, os', H7, ys, its, k, hos', I7.unpinned, k1, k2, rv3, w'⟩
      | true =>
        rw [if_pos rfl]
        refine wpAny_mono (he _ _ _ _ _ s7 _ H7 _ I7 q7) (fun yv s8 ⟨y, H8, I8, r8, q8⟩ => ?_) fun _ _ z => False.elim z
        obtain ⟨m', hm', w'⟩ := q8
        obtain ⟨k1, k2⟩ := keepFp I8
        have I8' := I8.unpinned
        obtain ⟨hD8, hn8⟩ := pinD I8'
        have hil : its.length < sizeLine := by rw [← rv3.length]; exact hz
        refine call_meets F.slot_list_append ⟨_, hD8, rfl⟩ F.entry_list_append (F.args_list_append_2 _ _) (PySem.list_append _ its.toArray k yv (by rw [List.size_toArray]; omega)) ⟨hD8, ?_⟩
        have q : (s8.heap.update s2.heap.objs.size (Obj.mapSeq fun a => a.push yv)).get? s2.heap.objs.size = some { cls := .type "list", data := .seq (its ++ [yv]).toArray (if (its.toArray.push yv).size == its.toArray.size then k else k + 1) } := by
          have q0 := PySem.IsL.update hD8 (fun a : Array Value => a.push yv)
          have ea : its.toArray.push yv = (its ++ [yv]).toArray := by simp
          rw [← ea]
          exact q0
        refine ⟨m', hm', i + 1, os', H8, ys ++ [y], its ++ [yv], (if (its.toArray.push yv).size == its.toArray.size then k else k + 1), hos', ?_, T.keep _ _ _ k1 fun b hb o e => (Heap.get?_update_other s8.heap _ (below b (fplt b hb)).2.symm).trans e, k2, rv3.append (.cons r8 .nil), w'⟩
        have In : Inv (cxComp X scope N' G.objs.size s2 H2 fp) [] (os' ++ caps σ js) H8 s8 := I8'.pins_of fun p hp => absurd hp (by simp)
        have It : Inv (cxComp X scope N' G.objs.size s2 H2 fp) [] (os' ++ caps σ js) H8 { s8 with heap := s8.heap.update s2.heap.objs.size (Obj.mapSeq fun a => a.push yv) } :=
          In.turned (it := s2.heap.objs.size) (t' := s8.toks) (fun b o hb e => (Heap.get?_update_other s8.heap _ (Ne.symm hb)).trans e) hn8 hDC (.inr (Nat.le_refl _)) (fun x c e z => by
            obtain ⟨v, o, ho, hd⟩ := I8'.cell x c e
            rw [z, hD8] at ho
            cases ho
            cases hd) fun p hp => absurd hp (by simp [cxComp])
        refine It.pins_of fun p hp => ?_
        have hp' : p = (s2.heap.objs.size, { cls := .type "list", data := .seq (its ++ [yv]).toArray (if (its.toArray.push yv).size == its.toArray.size then k else k + 1) }) := List.mem_singleton.mp hp
        subst hp'
        exact ⟨q, hn8, hDC, (I8'.pin _ (List.mem_append_right _ (List.mem_singleton.mpr rfl))).2.2.2.1, fun v z => by cases z⟩
  exact codeAny_compStart_list (loop _ rfl) (T.self _ 0 _ _ _ (T.keep _ _ _ st2 fun b _ o e => old b o e) (loop _ rfl))
end L2

set_option Elab.async false
set_option linter.all false
set_option maxRecDepth 100000
namespace L2
open PySem PySem.Spec PyProof.Rows
section
variable {X : Cx}

/-! isinstance(x, T), T a built-in type -/
theorem call_isi : CallR X (.builtin "isinstance") (fun xs H Q => ∃ x n t b, xs = [x, .ty n] ∧ TyOf X.K H x t ∧ PySem.W.kitOne X.K t (.type n) = some b ∧ Q (.bl b) H) := by
  intro pins s σ H xs us Q I r h
  obtain ⟨x, n, t, b, rfl, ty, e, q⟩ := h
  obtain ⟨u, c, rfl, rx, rc⟩ := r.two
  cases (show c = Value.type n from rc)
  exact isinst_ok I rx ty e fun tk => ⟨.bl b, H, I.tok tk, rfl, q⟩

/-! `x is c`, c True or False -/

/-! all(xs), any(xs) of a list of truths -/

/-! texts: split, join, index, slices, int() -/

/-! == and != of two lists of flat items -/
theorem eqV_refl : ∀ {x : V}, flatV x = true → eqV x x = true
  | .non, _ => rfl
  | .bl b, _ => by cases b <;> rfl
  | .int i, _ => by show (i == i) = true; simp
  | .str x, _ => by show (x == x) = true; simp
end
end L2

set_option Elab.async false
set_option linter.all false
set_option maxRecDepth 100000
namespace L2
open PySem PySem.Spec PyProof.Rows

/-! a def of the text, and what is known of it -/
structure Def (K : PySem.W.Frag) (mg : Str → Option Value) (x : Str) (st : Stmt) (ps : List Str) : Prop where
  ex : ∃ f fd, Fun K x x st f fd ∧ mg x = some (.ref f) ∧ Binds K fd ps []
def Knows (P : Program) (w : World) (K : PySem.W.Frag) (mg : Str → Option Value) (base : Heap) (k : Nat) (x : Str) (ps : List Str) (sp : Sp) : Prop :=
  ∃ f fd, mg x = some (.ref f) ∧ PySem.W.keepIn K (.ref f) = true ∧ Binds K fd ps [] ∧ FnOk P w K mg base CX0 k f fd ps sp
section
variable {P : Program} {w : World} {K : PySem.W.Frag} {mg : Str → Option Value} {base : Heap}
/-- a def by its body: N its names, t the reading -/
theorem Def.ok {x : Str} {st : Stmt} {N ps : List Str} {k : Nat} {sp : Sp} (D : Def K mg x st ps) (S : FnScope N ps (defScope st)) (len : ∀ vs H Q E, sp vs H Q E → vs.length = ps.length)
    (hbody : ∀ (f : Addr) (cdv : Value) (A : Around) (outer : List Env) (s : Shared) (H : Hp) (vs : List V) (Q : VK) (E : XK), Room k (A.deeper (envOfC x (defScope st) s.heap.objs.size f cdv)) → sp vs H Q E →
      ∃ t, PSs (cxOf CX0 P w K mg base N x (defScope st) f cdv A outer s H E).nox (defBody st) t ∧ t { nx := fun _ H' => Q .non H', rt := Q } (start N vs) H) : Knows P w K mg base (k + 1) x ps sp := by
  obtain ⟨f, fd, F, hm, hb⟩ := D.ex
  exact ⟨f, fd, hm, F.kp, hb, F.ok S len fun cdv A outer s H vs Q E hr h => hbody f cdv A outer s H vs Q E hr h⟩
end
section
variable {X : Cx} {x : Str} {ps : List Str} {sp : Sp} {k : Nat} {e : Expr} {es : List Expr} {t : TA} {p pos : Pos}
theorem pe_callN (F : Knows X.prog X.w X.K X.mg X.base k x ps sp) (hr : Room k X.A) (ha : PA X (e :: es) t) (hg : Gl X x := by rfl) (hdb : (x == ("__debug__" : Str)) = false := by decide)
    (he : starEach (e :: es) X.env = (false, eval e X.env) :: starEach es X.env := by rfl) (hpl : (backTo pos (starEach es X.env)).any (·.1) = false := by rfl) : PE X (.Call (.Name x p) (e :: es) [] pos) (tCall sp [] E0 t) := by
  obtain ⟨f, fd, hm, hk, hb, F⟩ := F
  exact pe_call F hr hg hm hk hb .nil pass0 ha hdb he hpl
end

/-! built-in names -/
structure Bltn (mg : Str → Option Value) : Prop where
  isi : mg "isinstance" = none
  len : mg "len" = none
  all : mg "all" = none
  int : mg "int" = none
  bool : mg "bool" = none
  str : mg "str" = none
  list : mg "list" = none
  range : mg "range" = none
def rIsi (K : PySem.W.Frag) (n : String) : List V → Hp → VK → Prop := fun xs H Q => ∃ x t b, xs = [x, .ty n] ∧ TyOf K H x t ∧ PySem.W.kitOne K t (.type n) = some b ∧ Q (.bl b) H
section
variable {X : Cx} {a : Expr} {ta : TE} {p pos p2 : Pos}
theorem call_isiN (n : String) : CallR X (.builtin "isinstance") (rIsi X.K n) := by
  intro pins s σ H xs us Q I r h
  obtain ⟨x, t, b, rfl, ty, e, q⟩ := h
  exact call_isi pins s σ H _ us Q I r ⟨x, n, t, b, rfl, ty, e, q⟩
theorem pe_isi {T : Str} {n : String} (h : X.mg "isinstance" = none) (hT : X.mg T = none) (hv : bootBuiltins T = some (.type n)) (ha : PE X a ta) (hg : Gl X "isinstance" := by rfl) (hg2 : Gl X T := by rfl)
    (hn : T ≠ "__name__" := by decide) (hd : (T == ("__debug__" : Str)) = false := by decide)
    (he : starEach [a, .Name T p2] X.env = (false, eval a X.env) :: starEach [.Name T p2] X.env := by rfl) (he2 : starEach [.Name T p2] X.env = (false, eval (.Name T p2) X.env) :: starEach [] X.env := by rfl) (hpl : (backTo pos (starEach [.Name T p2] X.env)).any (·.1) = false := by rfl) :
    PE X (.Call (.Name "isinstance" p) [a, .Name T p2] [] pos) (tCB (rIsi X.K n) (tCons ta (tCons (tC (.ty n)) tNil))) :=
  pe_callB (call_isiN n) hg h boot_isinstance (pa_cons ha (pa_cons (pe_bltn (v := .ty n) hg2 hT hv rfl hn hd) pa_nil he2) he) (by decide) (by decide) he hpl
end
def isIB : V → Bool
  | .int _ => true
  | .bl _ => true
  | _ => false
def isBl : V → Bool
  | .bl _ => true
  | _ => false
theorem isiI {K : PySem.W.Frag} {H : Hp} {x : V} {m : String} (ty : TyOf K H x (.type m)) : PySem.W.kitOne K (.type m) (.type "int") = some (isIB x) := by
  cases ty <;> kernel_rfl
theorem isiB {K : PySem.W.Frag} {H : Hp} {x : V} {m : String} (ty : TyOf K H x (.type m)) : PySem.W.kitOne K (.type m) (.type "bool") = some (isBl x) := by
  cases ty <;> kernel_rfl
theorem isiLL {K : PySem.W.Frag} : PySem.W.kitOne K (.type "list") (.type "list") = some true := by kernel_rfl
/-! a comprehension of one own name -/
theorem pe_comp1 {X : Cx} {elt iter : Expr} {x : Str} {px pos : Pos} {ifs : List Expr} {scope : Scope} {wi : TI} {tc : TT} {te : TE} (js : List Nat) (N' : List Str) (hc : X.calm = true)
    (hi : PI X (.Name x px) iter wi)
    (ht : ∀ C s₀ H₀ ex, PTs (cxComp X scope N' C s₀ H₀ ex) ifs tc)
    (he : ∀ C s₀ H₀ ex, PE (cxComp X scope N' C s₀ H₀ ex) elt te)
    (nd : N'.Nodup := by decide +kernel)
    (hx : scope.names.lookup x = some .local := by rfl)
    (hN' : N' = [x] ++ js.map fun j => X.N.getD j Str.empty := by rfl)
    (hk : scope.kind = .function := by rfl)
    (hcell : ∀ y ∈ scope.names, y.2 ≠ .cell := by decide +kernel)
    (hnames : ∀ y ∈ scope.names, y.2 = .local → scope.names.lookup y.1 = some .local := by decide +kernel)
    (hfr : (scope.names.all fun y => y.2 != .free || X.env.scope.names.lookup y.1 == some .cell) = true := by rfl)
    (hjs : (js.all fun j => scope.names.lookup (X.N.getD j Str.empty) == some .free && (X.N[j]?).isSome) = true := by rfl)
    (hs : ∀ z, foldedSetIterable iter X.env z = pure z := by intro _; rfl) :
    PE X (.ListComp elt [⟨.Name x px, iter, ifs, 0⟩] scope pos) (tComp 1 js wi (gName 0) tc te) :=
  pe_comp [x] js N' hc hi (fun C s₀ H₀ ex => pg_name (X := cxComp X scope N' C s₀ H₀ ex) (i := 0) nd (by show N'[0]? = some x; rw [hN']; rfl) (Or.inl (lookup_relabel_local hx)) (.inr (lookup_relabel_local hx))) ht he hN' hk hcell hnames hfr hjs hs
/-! over a known row -/
theorem comp1_wk {js : List Nat} {J : It} {xs : List V} {Pp : Hp → Prop} {σ : St} {H1 : Hp} {tc : TT} {te : TE} {Q : VK} (wk : Wk J xs Pp) (Pv : Nat → List V → Hp → Prop) (h0 : Pv 0 [] H1) (hP : ∀ i ys H, i ≤ xs.length → Pv i ys H → Pp H ∧ ys.length ≤ i) (hsz : xs.length ≤ sizeLine)
    (hs : ∀ i x ys H (Nx : List V → Hp → Prop), xs[i]? = some x → Pv i ys H → (∀ ys' H', Pv (i + 1) ys' H' → Nx ys' H') → tc (some x :: caps σ js) H fun b H3 => if b = true then te (some x :: caps σ js) H3 fun y H4 => Nx (ys ++ [y]) H4 else Nx ys H3)
    (hd : ∀ ys H, Pv xs.length ys H → ∀ D, H D = none → Q (.ref D) (upd H D (.lst ys))) :
    tCompB 1 js (gName 0) tc te σ Q J H1 := by
  refine ⟨fun i m ys H => m = xs.length - i ∧ i ≤ xs.length ∧ Pv i ys H, ⟨xs.length, by simp, Nat.zero_le _, h0⟩, ?_⟩
  rintro i m ys H ⟨rfl, hi, p⟩
  obtain ⟨q, hl⟩ := hP i ys H hi p
  by_cases hlt : i < xs.length
  · refine .inr ⟨wk.go i H hlt q, by omega, fun x H' y os hos => ?_⟩
    obtain ⟨e, y2⟩ := wk.yld i H x H' q y
    subst e
    match os, hos with
    | [v0], _ =>
      exact ⟨⟨[some x], rfl, rfl⟩, hs i x ys _ (fun ys' H' => ∃ m', m' < xs.length - i ∧ m' = xs.length - (i + 1) ∧ i + 1 ≤ xs.length ∧ Pv (i + 1) ys' H') (y2 hlt) p fun ys' H' p' => ⟨xs.length - (i + 1), by omega, rfl, hlt, p'⟩⟩
  · have e : i = xs.length := by omega
    subst e
    exact .inl ⟨wk.stop H q, by omega, hd ys H p⟩
/-! an expression's value by what is true of it, then the rest -/
end L2

set_option Elab.async false
set_option linter.all false
set_option maxRecDepth 100000
namespace L2
open PySem PySem.Spec PyProof.Rows
/-! no starred argument: told once -/
def notStar : Expr → Bool
  | .Starred _ _ => false
  | _ => true
theorem star_cons {e : Expr} {es : List Expr} {env : Env} (h : notStar e = true) : starEach (e :: es) env = (false, eval e env) :: starEach es env := by
  cases e <;> first | rfl | (exact absurd (show false = true from h) Bool.false_ne_true)
theorem star_none {pos : Pos} {env : Env} : ∀ {es : List Expr}, es.all notStar = true → (backTo pos (starEach es env)).any (·.1) = false
  | [], _ => rfl
  | e :: es, h => by
    rw [List.all_cons, Bool.and_eq_true] at h
    rw [star_cons h.1]
    show (false || (backTo pos (starEach es env)).any (·.1)) = false
    rw [star_none h.2]
    rfl
section
variable {X : Cx} {x : Str} {ps : List Str} {sp : Sp} {j k : Nat} {e : Expr} {es : List Expr} {te : TE} {t : TA} {p pos : Pos} {id T : String} {r : List V → Hp → VK → Prop}
theorem pa_c (ha : PE X e te) (hr : PA X es t) (hn : notStar e = true := by rfl) : PA X (e :: es) (tCons te t) := pa_cons ha hr (star_cons hn)
theorem pe_callM (F : Knows X.prog X.w X.K X.mg X.base j x ps sp) (hr : Room k X.A) (ha : PA X (e :: es) t) (hjk : j ≤ k := by decide) (hg : Gl X x := by rfl) (hdb : (x == ("__debug__" : Str)) = false := by decide)
    (he : notStar e = true := by rfl) (hpl : es.all notStar = true := by rfl) : PE X (.Call (.Name x p) (e :: es) [] pos) (tCall sp [] E0 t) :=
  pe_callN F (hr.mono hjk) ha hg hdb (star_cons he) (star_none hpl)
theorem pe_bcall (hc : CallR X (.builtin id) r) (hg : Gl X x) (hm : X.mg x = none) (hv : bootBuiltins x = some (.builtin id)) (ha : PA X (e :: es) t) (hn : x ≠ "__name__" := by decide) (hdb : (x == ("__debug__" : Str)) = false := by decide)
    (he : notStar e = true := by rfl) (hpl : es.all notStar = true := by rfl) : PE X (.Call (.Name x p) (e :: es) [] pos) (tCB r t) := pe_callB hc hg hm hv ha hn hdb (star_cons he) (star_none hpl)
theorem pe_tcall (hc : CallR X (.type T) r) (hg : Gl X x) (hm : X.mg x = none) (hv : bootBuiltins x = some (.type T)) (ha : PA X (e :: es) t) (hn : x ≠ "__name__" := by decide) (hdb : (x == ("__debug__" : Str)) = false := by decide)
    (he : notStar e = true := by rfl) (hpl : es.all notStar = true := by rfl) : PE X (.Call (.Name x p) (e :: es) [] pos) (tCB r t) := pe_callTy hc hg hm hv ha hn hdb (star_cons he) (star_none hpl)
end
section
variable {X : Cx} {o e : Expr} {es : List Expr} {to : TE} {t : TA} {name : Str} {apos cpos : Pos} {T id : String} {r : V → List V → Hp → VK → Prop}
theorem star_few {pos : Pos} {env : Env} : ∀ {es : List Expr}, es.all notStar = true → (backTo pos (starEach es env)).all (fun x => !x.1) = true
  | [], _ => rfl
  | e :: es, h => by
    rw [List.all_cons, Bool.and_eq_true] at h
    rw [star_cons h.1]
    show (true && (backTo pos (starEach es env)).all (fun x => !x.1)) = true
    rw [star_few h.2]
    rfl
theorem pe_mcall (pa : PlainAttrs T) (slot : Slot T name id) (hty : typeOf (.builtin id) = pure (.type "method_descriptor")) (hm : MtR X id r) (ho : PE X o to) (ha : PA X (e :: es) t)
    (hbase : attributeBase o name X.env (eval o X.env) = eval o X.env := by rfl) (he : notStar e = true := by rfl) (hpl : es.all notStar = true := by rfl) (hlen : (e :: es).length < 30 := by decide)
    (hline : (apos.endLine == cpos.line) = true := by rfl) : PE X (.Call (.Attribute o name apos) (e :: es) [] cpos) (tBM X.K T r to t) := by
  refine pe_bm pa slot hty hm ho ha hbase ?_ hline (star_cons he) (star_none hpl)
  rw [star_few (by rw [List.all_cons, he, hpl]; rfl)]
  show (true && true && decide ((e :: es).length + 0 + 0 < 30)) = true
  rw [decide_eq_true (by omega)]
  rfl
end
section
variable {X : Cx} {a : Expr} {ta : TE} {p pos p2 : Pos}
/-- within a comprehension: the readings name the fragment itself -/
theorem pe_isiC {K0 : PySem.W.Frag} {T : Str} {n : String} (hK : X.K = K0) (h : X.mg "isinstance" = none) (hT : X.mg T = none) (hv : bootBuiltins T = some (.type n)) (ha : PE X a ta) (hg : Gl X "isinstance" := by rfl) (hg2 : Gl X T := by rfl)
    (hn : T ≠ "__name__" := by decide) (hd : (T == ("__debug__" : Str)) = false := by decide)
    (he : notStar a = true := by rfl) :
    PE X (.Call (.Name "isinstance" p) [a, .Name T p2] [] pos) (tCB (rIsi K0 n) (tCons ta (tCons (tC (.ty n)) tNil))) := by
  subst hK
  exact pe_isi h hT hv ha hg hg2 hn hd (star_cons he) (star_cons rfl) (star_none rfl)
theorem pe_isiM {T : Str} {n : String} (h : X.mg "isinstance" = none) (hT : X.mg T = none) (hv : bootBuiltins T = some (.type n)) (ha : PE X a ta) (hg : Gl X "isinstance" := by rfl) (hg2 : Gl X T := by rfl)
    (hn : T ≠ "__name__" := by decide) (hd : (T == ("__debug__" : Str)) = false := by decide) (he : notStar a = true := by rfl) :
    PE X (.Call (.Name "isinstance" p) [a, .Name T p2] [] pos) (tCB (rIsi X.K n) (tCons ta (tCons (tC (.ty n)) tNil))) :=
  pe_isi h hT hv ha hg hg2 hn hd (star_cons he) (star_cons rfl) (star_none rfl)
theorem ix_tupC {K0 : PySem.W.Frag} (hK : X.K = K0) : IxR X (rIxT K0) := by subst hK; exact ix_tup
end
theorem Same.upd {H H1 : Hp} {p : Addr} {o : HO} (s : Same H H1) (h : H p = none) : Same H (L2.upd H1 p o) := fun b u e => by
  rw [upd_ne (ne_of_none e h)]; exact s b u e
theorem Same.new {H H1 : Hp} {p : Addr} {o : HO} (s : Same H H1) (h : H1 p = none) : Same H (L2.upd H1 p o) := s.upd (s.free h)
theorem hu0 {A : Around} {k : Nat} (hr : Room k A) : A.units < cLine := hr.units0
theorem atI_mem {α : Type} {xs : List α} {i : Int} (h0 : 0 ≤ i) (h1 : i < xs.length) : ∃ v, atI xs i = some v ∧ v ∈ xs ∧ xs[i.toNat]? = some v := by
  have hj : i.toNat < xs.length := by omega
  refine ⟨xs[i.toNat], ?_, List.getElem_mem hj, by simp [hj]⟩
  have h := atI_nat (xs := xs) (j := i.toNat) (v := xs[i.toNat]) (by simp [hj])
  rwa [show ((i.toNat : Nat) : Int) = i by omega] at h
theorem if_use {c : TT} {t u r : TS} {D : Ends} {σ : St} {H : Hp} (Post : Bool → Hp → Prop) (hc : ∀ Q', (∀ b H', Post b H' → Q' b H') → c σ H Q') (kt : ∀ H', Post true H' → t { D with nx := r D } σ H') (kf : ∀ H', Post false H' → u { D with nx := r D } σ H') : tSeq (tIfS c t u) r D σ H := hc _ fun b H' p => by
  cases b
  · exact iteF (kf H' p)
  · exact iteT (kt H' p)
theorem seq_use {te : TE} {g : TG} {u : TS} {D : Ends} {σ : St} {H : Hp} (Post : V → Hp → Prop) (hg : ∀ Q', (∀ v H', Post v H' → Q' v H') → te σ H Q') (k : ∀ v H', Post v H' → g v σ H' (u D)) : tSeq (tAsg te g) u D σ H := hg _ k
end L2

set_option Elab.async false
set_option linter.all false
set_option maxRecDepth 100000
namespace L2
open PySem PySem.Spec PyProof.Rows

/-! data: flat values, lists and tuples of data, as trees -/
inductive D where
  | a (v : V)
  | l (xs : List D)
  | t (xs : List D)
mutual
inductive Rep (K : PySem.W.Frag) (H : Hp) : V → D → Prop
  | a {v : V} (f : flatV v = true) : Rep K H v (.a v)
  | l {p : Addr} {vs : List V} {ds : List D} (h : SqL K H p vs) (r : Reps K H vs ds) : Rep K H (.ref p) (.l ds)
  | t {p : Addr} {vs : List V} {ds : List D} (h : SqT K H p vs) (r : Reps K H vs ds) : Rep K H (.ref p) (.t ds)
inductive Reps (K : PySem.W.Frag) (H : Hp) : List V → List D → Prop
  | nil : Reps K H [] []
  | cons {v : V} {d : D} {vs : List V} {ds : List D} (r : Rep K H v d) (rs : Reps K H vs ds) : Reps K H (v :: vs) (d :: ds)
end
mutual
def eqD : D → D → Bool
  | .a v, .a w => eqV v w
  | .l xs, .l ys => eqDs xs ys
  | .t xs, .t ys => eqDs xs ys
  | _, _ => false
def eqDs : List D → List D → Bool
  | [], [] => true
  | x :: xs, y :: ys => eqD x y && eqDs xs ys
  | _, _ => false
end
mutual
def depD : D → Nat
  | .a _ => 0
  | .l xs => depDs xs + 1
  | .t xs => depDs xs + 1
def depDs : List D → Nat
  | [] => 0
  | x :: xs => max (depD x) (depDs xs)
end
mutual
def flatD : D → Bool
  | .a v => flatV v
  | .l xs => flatDs xs
  | .t xs => flatDs xs
def flatDs : List D → Bool
  | [] => true
  | x :: xs => flatD x && flatDs xs
end
mutual
theorem eqD_refl : ∀ d : D, flatD d = true → eqD d d = true
  | .a v, h => by
    unfold eqD
    exact eqV_refl (by unfold flatD at h; exact h)
  | .l xs, h => by
    unfold eqD
    exact eqDs_refl xs (by unfold flatD at h; exact h)
  | .t xs, h => by
    unfold eqD
    exact eqDs_refl xs (by unfold flatD at h; exact h)
theorem eqDs_refl : ∀ ds : List D, flatDs ds = true → eqDs ds ds = true
  | [], _ => by unfold eqDs; rfl
  | d :: ds, h => by
    unfold flatDs at h
    rw [Bool.and_eq_true] at h
    unfold eqDs
    rw [eqD_refl d h.1, eqDs_refl ds h.2]
    rfl
end
theorem Reps.len {K : PySem.W.Frag} {H : Hp} : ∀ {vs : List V} {ds : List D}, Reps K H vs ds → vs.length = ds.length
  | _, _, .nil => rfl
  | _, _, .cons _ t => by rw [List.length_cons, List.length_cons, t.len]
mutual
theorem Rep.flat {K : PySem.W.Frag} {H : Hp} : ∀ {v : V} {d : D}, Rep K H v d → flatD d = true
  | _, _, .a f => by unfold flatD; exact f
  | _, _, .l _ r => by unfold flatD; exact r.flat
  | _, _, .t _ r => by unfold flatD; exact r.flat
theorem Reps.flat {K : PySem.W.Frag} {H : Hp} : ∀ {vs : List V} {ds : List D}, Reps K H vs ds → flatDs ds = true
  | _, _, .nil => by unfold flatDs; rfl
  | _, _, .cons r t => by
    unfold flatDs
    rw [r.flat, t.flat]
    rfl
end
theorem depDs_mem : ∀ {ds : List D} {d : D}, d ∈ ds → depD d ≤ depDs ds
  | d :: ds, e, h => by
    unfold depDs
    rcases List.mem_cons.mp h with rfl | h
    · exact Nat.le_max_left _ _
    · exact Nat.le_trans (depDs_mem h) (Nat.le_max_right _ _)
theorem eqDs_len : ∀ {xs ys : List D}, xs.length ≠ ys.length → eqDs xs ys = false
  | [], [], h => absurd rfl h
  | [], _ :: _, _ => by unfold eqDs; rfl
  | _ :: _, [], _ => by unfold eqDs; rfl
  | x :: xs, y :: ys, h => by
    unfold eqDs
    rw [eqDs_len (fun e => h (by simp [e])), Bool.and_false]
theorem eqDs_range : ∀ {xs ys : List D}, xs.length = ys.length → ((List.range xs.length).all fun j => eqD (xs.getD j (.l [])) (ys.getD j (.l []))) = eqDs xs ys
  | [], [], _ => by unfold eqDs; rfl
  | [], _ :: _, h => by simp at h
  | _ :: _, [], h => by simp at h
  | x :: xs, y :: ys, h => by
    have ih := eqDs_range (xs := xs) (ys := ys) (by simpa using h)
    unfold eqDs
    rw [← ih, List.length_cons, List.range_succ_eq_map, List.all_cons, List.all_map]
    rfl
section
variable {X : Cx} {pins : List (Addr × Obj)} {σ : St} {H : Hp} {s : Shared}
theorem SqL.notT (I : Inv X pins σ H s) {p : Addr} {xs ys : List V} (h : SqL X.K H p xs) (h' : SqT X.K H p ys) : False := by
  obtain ⟨_, _, pl, _⟩ := I.list h
  obtain ⟨_, _, pt, _⟩ := I.tuple h'
  exact SeqAt.ne_of_list_tuple pl.isList pt rfl
mutual
theorem Rep.inj (I : Inv X pins σ H s) : ∀ {v : V} {d e : D}, Rep X.K H v d → Rep X.K H v e → d = e
  | _, _, _, .a f, .a _ => rfl
  | _, _, _, .a f, .l _ _ => absurd (show false = true from f) Bool.false_ne_true
  | _, _, _, .a f, .t _ _ => absurd (show false = true from f) Bool.false_ne_true
  | _, _, _, .l _ _, .a f => absurd (show false = true from f) Bool.false_ne_true
  | _, _, _, .t _ _, .a f => absurd (show false = true from f) Bool.false_ne_true
  | _, _, _, .l h r, .l h' r' => by
    have e := I.list_inj h h'
    subst e
    rw [Reps.inj I r r']
  | _, _, _, .t h r, .t h' r' => by
    have e := I.tuple_inj h h'
    subst e
    rw [Reps.inj I r r']
  | _, _, _, .l h _, .t h' _ => (SqL.notT I h h').elim
  | _, _, _, .t h _, .l h' _ => (SqL.notT I h' h).elim
theorem Reps.inj (I : Inv X pins σ H s) : ∀ {vs : List V} {ds es : List D}, Reps X.K H vs ds → Reps X.K H vs es → ds = es
  | _, _, _, .nil, .nil => rfl
  | _, _, _, .cons r t, .cons r' t' => by rw [Rep.inj I r r', Reps.inj I t t']
end
theorem rc_flat {A : Around} {y x : V} {u v : Value} (ry : RelV y u) (rx : RelV x v) (fy : flatV y = true) (fx : flatV x = true) : SeqAt.RcAt A s u v (eqV y x) := by
  cases y with
  | non =>
    cases ry
    cases x with
    | non => cases rx; exact SeqAt.RcAt.none_none
    | bl b => cases rx; exact SeqAt.RcAt.none_bool b
    | int b => obtain ⟨t, rfl⟩ := rx; exact SeqAt.RcAt.none_int b t
    | str b => obtain ⟨t, rfl⟩ := rx; exact SeqAt.RcAt.none_str b t
    | _ => exact absurd (show false = true from fx) Bool.false_ne_true
  | bl c =>
    cases ry
    cases x with
    | non => cases rx; exact SeqAt.RcAt.bool_none c
    | bl b => cases rx; exact SeqAt.RcAt.bool_bool c b
    | int b => obtain ⟨t, rfl⟩ := rx; exact SeqAt.RcAt.bool_int c b t
    | str b => obtain ⟨t, rfl⟩ := rx; exact SeqAt.RcAt.bool_str c b t
    | _ => exact absurd (show false = true from fx) Bool.false_ne_true
  | int c =>
    obtain ⟨t', rfl⟩ := ry
    cases x with
    | non => cases rx; exact SeqAt.RcAt.int_none c t'
    | bl b => cases rx; exact SeqAt.RcAt.int_bool c t' b
    | int b => obtain ⟨t, rfl⟩ := rx; exact SeqAt.RcAt.int_int c t' b t
    | str b => obtain ⟨t, rfl⟩ := rx; exact SeqAt.RcAt.int_str c t' b t
    | _ => exact absurd (show false = true from fx) Bool.false_ne_true
  | str c =>
    obtain ⟨t', rfl⟩ := ry
    cases x with
    | non => cases rx; exact SeqAt.RcAt.str_none c t'
    | bl b => cases rx; exact SeqAt.RcAt.str_bool c t' b
    | int b => obtain ⟨t, rfl⟩ := rx; exact SeqAt.RcAt.str_int c t' b t
    | str b => obtain ⟨t, rfl⟩ := rx; exact SeqAt.RcAt.str_str c t' b t
    | _ => exact absurd (show false = true from fx) Bool.false_ne_true
  | _ => exact absurd (show false = true from fy) Bool.false_ne_true
end
end L2
namespace L2
open PySem PySem.Spec PyProof.Rows
section
variable {X : Cx} {pins : List (Addr × Obj)} {σ : St} {H : Hp} {s : Shared} {A : Around} {x : V} {u : Value} {p : Addr} {items : Array Value}
theorem eqAt_fl (f : flatV x = true) (r : RelV x u) (hl : s.heap.IsList p items) (hu : A.units < cLine) : SeqAt.EqAt A s u (.ref p) false := by
  cases x with
  | non => cases r; exact .none_list hl hu
  | bl b => cases r; exact .bool_list b hl hu
  | int b => obtain ⟨t, rfl⟩ := r; exact .int_list b t hl hu
  | str b => obtain ⟨t, rfl⟩ := r; exact .str_list b t hl hu
  | _ => exact absurd (show false = true from f) Bool.false_ne_true
theorem eqAt_lf (f : flatV x = true) (r : RelV x u) (hl : s.heap.IsList p items) (hu : A.units < cLine) : SeqAt.EqAt A s (.ref p) u false := by
  cases x with
  | non => cases r; exact .list_none hl hu
  | bl b => cases r; exact .list_bool b hl hu
  | int b => obtain ⟨t, rfl⟩ := r; exact .list_int b t hl hu
  | str b => obtain ⟨t, rfl⟩ := r; exact .list_str b t hl hu
  | _ => exact absurd (show false = true from f) Bool.false_ne_true
theorem eqAt_ft (f : flatV x = true) (r : RelV x u) (hl : s.heap.IsTuple p items) (hu : A.units < cLine) : SeqAt.EqAt A s u (.ref p) false := by
  cases x with
  | non => cases r; exact .none_tuple hl hu
  | bl b => cases r; exact .bool_tuple b hl hu
  | int b => obtain ⟨t, rfl⟩ := r; exact .int_tuple b t hl hu
  | str b => obtain ⟨t, rfl⟩ := r; exact .str_tuple b t hl hu
  | _ => exact absurd (show false = true from f) Bool.false_ne_true
theorem eqAt_tf (f : flatV x = true) (r : RelV x u) (hl : s.heap.IsTuple p items) (hu : A.units < cLine) : SeqAt.EqAt A s (.ref p) u false := by
  cases x with
  | non => cases r; exact .tuple_none hl hu
  | bl b => cases r; exact .tuple_bool b hl hu
  | int b => obtain ⟨t, rfl⟩ := r; exact .tuple_int b t hl hu
  | str b => obtain ⟨t, rfl⟩ := r; exact .tuple_str b t hl hu
  | _ => exact absurd (show false = true from f) Bool.false_ne_true
theorem rc_fl (f : flatV x = true) (r : RelV x u) (hl : s.heap.IsList p items) (hu : A.units < cLine) : SeqAt.RcAt A s u (.ref p) false := by
  cases x with
  | non => cases r; exact .none_list hl hu
  | bl b => cases r; exact .bool_list b hl hu
  | int b => obtain ⟨t, rfl⟩ := r; exact .int_list b t hl hu
  | str b => obtain ⟨t, rfl⟩ := r; exact .str_list b t hl hu
  | _ => exact absurd (show false = true from f) Bool.false_ne_true
theorem rc_lf (f : flatV x = true) (r : RelV x u) (hl : s.heap.IsList p items) (hu : A.units < cLine) : SeqAt.RcAt A s (.ref p) u false := by
  cases x with
  | non => cases r; exact .list_none hl hu
  | bl b => cases r; exact .list_bool b hl hu
  | int b => obtain ⟨t, rfl⟩ := r; exact .list_int b t hl hu
  | str b => obtain ⟨t, rfl⟩ := r; exact .list_str b t hl hu
  | _ => exact absurd (show false = true from f) Bool.false_ne_true
theorem rc_ft (f : flatV x = true) (r : RelV x u) (hl : s.heap.IsTuple p items) (hu : A.units < cLine) : SeqAt.RcAt A s u (.ref p) false := by
  cases x with
  | non => cases r; exact .none_tuple hl hu
  | bl b => cases r; exact .bool_tuple b hl hu
  | int b => obtain ⟨t, rfl⟩ := r; exact .int_tuple b t hl hu
  | str b => obtain ⟨t, rfl⟩ := r; exact .str_tuple b t hl hu
  | _ => exact absurd (show false = true from f) Bool.false_ne_true
theorem rc_tf (f : flatV x = true) (r : RelV x u) (hl : s.heap.IsTuple p items) (hu : A.units < cLine) : SeqAt.RcAt A s (.ref p) u false := by
  cases x with
  | non => cases r; exact .tuple_none hl hu
  | bl b => cases r; exact .tuple_bool b hl hu
  | int b => obtain ⟨t, rfl⟩ := r; exact .tuple_int b t hl hu
  | str b => obtain ⟨t, rfl⟩ := r; exact .tuple_str b t hl hu
  | _ => exact absurd (show false = true from f) Bool.false_ne_true
theorem getD_rep {K : PySem.W.Frag} : ∀ {vs : List V} {us : List Value} {ds : List D} (j : Nat) (h1 : j < us.toArray.size), Vals vs us → Reps K H vs ds → ∃ v, RelV v us.toArray[j] ∧ Rep K H v (ds.getD j (.l [])) ∧ (ds.getD j (.l [])) ∈ ds
  | _, _, _, j, h1, .nil, _ => by simp at h1
  | _, _, _, 0, _, .cons r _, .cons q _ => ⟨_, r, q, by simp⟩
  | v :: vs, u :: us, d :: ds, j + 1, h1, .cons _ t, .cons _ t' => by
    obtain ⟨v, a, b, c⟩ := getD_rep j (by simpa using h1) t t'
    exact ⟨v, by simpa using a, by simpa using b, List.mem_cons_of_mem _ (by simpa using c)⟩
/-- == by RcAt, of data no deeper than n -/
theorem eqD_at (I : Inv X pins σ H s) : ∀ (n : Nat) {A : Around} {d e : D} {x y : V} {u w : Value}, depD d ≤ n → A.units + n < cLine → Rep X.K H x d → Rep X.K H y e → RelV x u → RelV y w → SeqAt.RcAt A s u w (eqD d e) ∧ SeqAt.EqAt A s u w (eqD d e) := by
  intro n
  induction n with
  | zero =>
    intro A d e x y u w hd hu rx ry ru rw
    have hu' : A.units < cLine := by omega
    cases rx with
    | a f =>
      cases ry with
      | a f' => unfold eqD; exact ⟨rc_flat ru rw f f', eqAt_V ru rw f f'⟩
      | l h r => cases rw; obtain ⟨_, _, pl, _⟩ := I.list h; unfold eqD; exact ⟨rc_fl f ru pl.isList hu', eqAt_fl f ru pl.isList hu'⟩
      | t h r => cases rw; obtain ⟨_, _, pl, _⟩ := I.tuple h; unfold eqD; exact ⟨rc_ft f ru pl hu', eqAt_ft f ru pl hu'⟩
    | l h r => unfold depD at hd; omega
    | t h r => unfold depD at hd; omega
  | succ n ih =>
    intro A d e x y u w hd hu rx ry ru rw
    have hu' : A.units < cLine := by omega
    have hin : A.in1.units + n < cLine := by show A.units + 1 + n < cLine; omega
    cases rx with
    | a f =>
      cases ry with
      | a f' => unfold eqD; exact ⟨rc_flat ru rw f f', eqAt_V ru rw f f'⟩
      | l h r => cases rw; obtain ⟨_, _, pl, _⟩ := I.list h; unfold eqD; exact ⟨rc_fl f ru pl.isList hu', eqAt_fl f ru pl.isList hu'⟩
      | t h r => cases rw; obtain ⟨_, _, pl, _⟩ := I.tuple h; unfold eqD; exact ⟨rc_ft f ru pl hu', eqAt_ft f ru pl hu'⟩
    | @l p vs ds h r =>
      cases ru
      obtain ⟨its, rv, pl, _⟩ := I.list h
      cases ry with
      | a f' => unfold eqD; exact ⟨rc_lf f' rw pl.isList hu', eqAt_lf f' rw pl.isList hu'⟩
      | @t p' vs' ds' h' r' =>
        cases rw
        obtain ⟨its', rv', pt, _⟩ := I.tuple h'
        unfold eqD
        exact ⟨.list_tuple pl.isList pt hu', .list_tuple pl.isList pt hu'⟩
      | @l p' vs' ds' h' r' =>
        cases rw
        obtain ⟨its', rv', pl', _⟩ := I.list h'
        have e1 := rv.length
        have e2 := rv'.length
        have e3 := r.len
        have e4 := r'.len
        have rc : SeqAt.RcAt A s (.ref p) (.ref p') (eqD (.l ds) (.l ds')) := by
          unfold eqD
          by_cases hl : ds.length = ds'.length
          · have := SeqAt.RcAt.lists (A := A) (e := fun j => eqD (ds.getD j (.l [])) (ds'.getD j (.l []))) pl.isList pl'.isList (by simp only [List.size_toArray]; omega) hu' (fun j h1 h2 => by
              obtain ⟨v1, a1, b1, c1⟩ := getD_rep j h1 rv r
              obtain ⟨v2, a2, b2, c2⟩ := getD_rep j h2 rv' r'
              have hdj : depD (ds.getD j (.l [])) ≤ n := Nat.le_trans (depDs_mem c1) (by unfold depD at hd; omega)
              exact (ih hdj hin b1 b2 a1 a2).2)
            rw [List.size_toArray, ← e1, e3, eqDs_range hl] at this
            exact this
          · rw [eqDs_len hl]
            exact .lists_lengths pl.isList pl'.isList (by simp only [List.size_toArray]; simp; omega) hu'
        refine ⟨rc, ?_⟩
        by_cases hp : p = p'
        · subst hp
          have e5 := I.list_inj h h'
          subst e5
          have e6 := Reps.inj I r r'
          subst e6
          rw [eqD_refl _ (by unfold flatD; exact r.flat)]
          exact .same _
        · exact .of_refs hp rc
    | @t p vs ds h r =>
      cases ru
      obtain ⟨its, rv, pl, _⟩ := I.tuple h
      cases ry with
      | a f' => unfold eqD; exact ⟨rc_tf f' rw pl hu', eqAt_tf f' rw pl hu'⟩
      | @l p' vs' ds' h' r' =>
        cases rw
        obtain ⟨its', rv', pl', _⟩ := I.list h'
        unfold eqD
        exact ⟨.tuple_list pl pl'.isList hu', .tuple_list pl pl'.isList hu'⟩
      | @t p' vs' ds' h' r' =>
        cases rw
        obtain ⟨its', rv', pl', _⟩ := I.tuple h'
        have e1 := rv.length
        have e2 := rv'.length
        have e3 := r.len
        have e4 := r'.len
        have rc : SeqAt.RcAt A s (.ref p) (.ref p') (eqD (.t ds) (.t ds')) := by
          unfold eqD
          have := SeqAt.RcAt.tuples (A := A) (e := fun j => eqD (ds.getD j (.l [])) (ds'.getD j (.l []))) pl pl' hu' (fun j h1 h2 => by
              obtain ⟨v1, a1, b1, c1⟩ := getD_rep j h1 rv r
              obtain ⟨v2, a2, b2, c2⟩ := getD_rep j h2 rv' r'
              have hdj : depD (ds.getD j (.l [])) ≤ n := Nat.le_trans (depDs_mem c1) (by unfold depD at hd; omega)
              exact (ih hdj hin b1 b2 a1 a2).2)
          by_cases hl : ds.length = ds'.length
          · have em : min its.toArray.size its'.toArray.size = ds.length := by simp only [List.size_toArray]; omega
            have eb : (its.toArray.size == its'.toArray.size) = true := by simp only [List.size_toArray]; simp; omega
            rw [em, eb, Bool.and_true, eqDs_range hl] at this
            exact this
          · have eb : (its.toArray.size == its'.toArray.size) = false := by simp only [List.size_toArray]; simp; omega
            rw [eb, Bool.and_false] at this
            rw [eqDs_len hl]
            exact this
        refine ⟨rc, ?_⟩
        by_cases hp : p = p'
        · subst hp
          have e5 := I.tuple_inj h h'
          subst e5
          have e6 := Reps.inj I r r'
          subst e6
          rw [eqD_refl _ (by unfold flatD; exact r.flat)]
          exact .same _
        · exact .of_refs hp rc
def rEqD (K : PySem.W.Frag) : R2 := fun x y H Q => ∃ d e, Rep K H x d ∧ Rep K H y e ∧ depD d ≤ 60 ∧ Q (.bl (eqD d e)) H
theorem op_eqD (hu : X.A.units + 64 < cLine) : OpR X (compareOp .Eq) (rEqD X.K) := by
  intro pins s σ H x y v u Q I rx ry h
  obtain ⟨d, e, r1, r2, hd, q⟩ := h
  exact (eqD_at I 60 hd (by omega) r1 r2 rx ry).1 _ _ _ _ ⟨.bl _, H, I, rfl, q⟩
end
end L2

set_option Elab.async false
set_option linter.all false
set_option maxRecDepth 100000
set_option maxHeartbeats 2000000
namespace L2
open PySem
/-! ### a run has one end -/
end L2

set_option Elab.async false
set_option linter.all false
set_option maxRecDepth 100000
namespace L2
open PySem
end L2

set_option Elab.async false
set_option linter.all false
set_option maxRecDepth 100000
namespace L2
open PySem
/-! ### what leaves an exception's context as it is -/
/-- the record at a has None as its third field, and no dict -/
def Ctx0 (a : Addr) (h : Heap) : Prop := ∃ o fs, h.get? a = some o ∧ o.data = .fields fs ∧ fs[2]? = some Value.none ∧ o.dict = none
def F2 (f : Obj → Obj) : Prop := ∀ o fs, o.data = .fields fs → fs[2]? = some Value.none → ∃ fs', (f o).data = .fields fs' ∧ fs'[2]? = some Value.none ∧ (f o).dict = o.dict
def Tame {α : Type} : Sem α → Prop
  | .pure _ => True
  | .raise _ => True
  | .unsupported _ => True
  | .finish _ => True
  | .rule _ k => Tame (k ())
  | .at _ k => Tame (k ())
  | .point _ k => Tame (k ())
  | .load _ _ k => ∀ o, Tame (k o)
  | .update _ _ f k => F2 f ∧ Tame (k ())
  | .alloc _ k => ∀ a, Tame (k a)
  | .loadIfAlive _ k => ∀ o, Tame (k o)
  | .fresh k => ∀ t, Tame (k t)
  | .ask k => ∀ x, Tame (k x)
  | .handled _ k => ∀ x, Tame (k x)
  | .stack k => ∀ x, Tame (k x)
  | .thread k => ∀ x, Tame (k x)
  | _ => False
theorem tame_bind {α β : Type} {m : Sem α} {f : α → Sem β} (hf : ∀ a, Tame (f a)) : Tame m → Tame (m >>= f) := by
  show Tame m → Tame (Sem.bind m f)
  induction m with
  | pure a => intro _; exact hf a
  | raise e => intro _; trivial
  | unsupported w => intro _; trivial
  | finish w => intro _; trivial
  | rule t k ih => intro h; exact ih () h
  | «at» t k ih => intro h; exact ih () h
  | point t k ih => intro h; exact ih () h
  | load a t k ih => intro h o; exact ih o (h o)
  | update a t g k ih => intro h; exact ⟨h.1, ih () h.2⟩
  | alloc o k ih => intro h a; exact ih a (h a)
  | loadIfAlive o k ih => intro h a; exact ih a (h a)
  | fresh k ih => intro h a; exact ih a (h a)
  | ask k ih => intro h a; exact ih a (h a)
  | handled o k ih => intro h a; exact ih a (h a)
  | stack k ih => intro h a; exact ih a (h a)
  | thread k ih => intro h a; exact ih a (h a)
  | _ => intro h; exact h.elim
theorem Ctx0.push {a : Addr} {h : Heap} {o : Obj} (c : Ctx0 a h) : Ctx0 a (h.push o) := by
  obtain ⟨ob, fs, e, d, f⟩ := c
  exact ⟨ob, fs, Heap.get?_push_of_some _ e, d, f⟩
theorem Ctx0.update {a b : Addr} {h : Heap} {f : Obj → Obj} (c : Ctx0 a h) (hf : F2 f) : Ctx0 a (h.update b f) := by
  obtain ⟨ob, fs, e, d, g⟩ := c
  by_cases z : b = a
  · subst z
    obtain ⟨fs', d', g', k⟩ := hf ob fs d g.1
    exact ⟨f ob, fs', Heap.get?_update_self _ e (Obj.isFreed_of_fields d'), d', g', by rw [k]; exact g.2⟩
  · exact ⟨ob, fs, by rw [Heap.get?_update_other _ _ z]; exact e, d, g⟩
theorem tame_wp {α : Type} {M : Model} {Γ : Ctx} {a : Addr} {Q : α → Pos → Shared → Prop} {E : Value → Pos → Shared → Prop} (m : Sem α) : ∀ {p : Pos} {s : Shared}, Tame m → Ctx0 a s.heap → Sem.wp M Γ m Q E p s →
    Sem.wp M Γ m (fun x p s => Q x p s ∧ Ctx0 a s.heap) (fun e p s => E e p s ∧ Ctx0 a s.heap) p s := by
  induction m with
  | pure x => intro p s _ c h; rw [Sem.wp] at h ⊢; exact ⟨h, c⟩
  | raise e => intro p s _ c h; rw [Sem.wp] at h ⊢; exact ⟨h, c⟩
  | unsupported w => intro p s _ c h; rw [Sem.wp] at h; exact h.elim
  | finish w => intro p s _ c h; rw [Sem.wp] at h; exact h.elim
  | rule t k ih => intro p s q c h; rw [Sem.wp] at h ⊢; exact ih () q c h
  | «at» t k ih => intro p s q c h; rw [Sem.wp] at h ⊢; exact ih () q c h
  | point t k ih => intro p s q c h; rw [Sem.wp] at h ⊢; exact ih () q c h
  | load b t k ih => intro p s q c h; rw [Sem.wp] at h ⊢; obtain ⟨o, e, h⟩ := h; exact ⟨o, e, ih o (q o) c h⟩
  | update b t g k ih => intro p s q c h; rw [Sem.wp] at h ⊢; exact ⟨h.1, ih () q.2 (c.update q.1) h.2⟩
  | alloc o k ih => intro p s q c h; rw [Sem.wp] at h ⊢; exact ih _ (q _) c.push h
  | loadIfAlive b k ih => intro p s q c h; rw [Sem.wp] at h ⊢; exact ih _ (q _) c h
  | fresh k ih => intro p s q c h; rw [Sem.wp] at h ⊢; exact ih _ (q _) c h
  | ask k ih => intro p s q c h; rw [Sem.wp] at h ⊢; exact ih _ (q _) c h
  | handled o k ih => intro p s q c h; rw [Sem.wp] at h ⊢; exact ih _ (q _) c h
  | stack k ih => intro p s q c h; rw [Sem.wp] at h ⊢; exact ih _ (q _) c h
  | thread k ih => intro p s q c h; rw [Sem.wp] at h ⊢; exact ih _ (q _) c h
  | _ => intro p s q; exact q.elim
theorem tame_any {α : Type} {M : Model} {A : Around} {a : Addr} {m : Sem α} {Q : α → Shared → Prop} {E : Value → Shared → Prop} {s : Shared} (t : Tame m) (c : Ctx0 a s.heap) (h : wpAny M A m Q E s) :
    wpAny M A m (fun x s => Q x s ∧ Ctx0 a s.heap) (fun e s => E e s ∧ Ctx0 a s.heap) s := fun Γ p hΓ => tame_wp m t c (h Γ p hΓ)
theorem tame_field {v : Value} {i : Nat} : Tame (field v i) := by
  unfold field
  refine tame_bind (fun fs => ?_) ?_
  · cases fs[i]? <;> trivial
  · unfold fieldsOf
    cases v with
    | ref a =>
      refine tame_bind (fun o => ?_) (fun o => trivial)
      cases o.data <;> trivial
    | _ => trivial
theorem f2_set {i : Nat} {x : Value} (hi : i ≠ 2) : F2 (Obj.mapFields (·.setIfInBounds i x)) := fun o fs d g => ⟨fs.setIfInBounds i x, Obj.data_mapFields d _, by rw [Array.getElem?_setIfInBounds_ne hi]; exact g, by cases o; simp only at d; subst d; rfl⟩
theorem tame_setField {v x : Value} {i : Nat} (hi : i ≠ 2) : Tame (setField v i x) := by
  unfold setField
  cases v with
  | ref a =>
    show Tame (updateField a i x)
    unfold updateField
    refine tame_bind (fun o => ?_) (fun o => trivial)
    cases o.data with
    | fields vs =>
      show Tame (if i < vs.size then _ else _)
      split
      · exact ⟨f2_set hi, trivial⟩
      · trivial
    | _ => trivial
  | _ => trivial
theorem tame_setFlight {e : Value} {f : Option Addr} : Tame (setFlight e f) := by
  unfold setFlight
  refine tame_bind (fun tb => ?_) tame_field
  split
  · exact tame_setField (by decide)
  · trivial
theorem tame_ready : ∀ l : List Env, Tame (readyFrames l)
  | [] => trivial
  | env :: outer => by
    unfold readyFrames
    cases env.frame with
    | none => trivial
    | some f =>
      refine tame_bind (fun o => ?_) (fun o => trivial)
      split
      · trivial
      · refine tame_bind (fun b => ?_) ?_
        · refine tame_bind (fun v => ?_) ?_
          · exact tame_bind (fun _ => tame_ready outer) ⟨fun o fs d g => ⟨fs, d, g, rfl⟩, trivial⟩
          · unfold keptBack
            cases outer with
            | nil =>
              dsimp only
              split
              · trivial
              · exact tame_bind (fun _ => trivial) (tame_bind (fun _ => trivial) (fun _ => trivial))
            | cons c l => trivial
        · unfold behindIsImport
          split
          · trivial
          · split
            · trivial
            · exact tame_bind (fun _ => trivial) tame_field
theorem tame_new (vs : Array Value) : Tame (newObj (Value.type "traceback") (.fields vs)) := by
  have fin : ∀ d : Data, Tame (newObjAsIs (Value.type "traceback") d) := fun d => fun _ => trivial
  unfold newObj
  dsimp only
  split
  · exact tame_bind (fun _ => fin _) trivial
  · exact fin _
theorem tame_noteFrame {e : Value} {env : Env} : Tame (noteFrame e env) := by
  unfold noteFrame
  cases env.frame with
  | none => trivial
  | some f =>
    refine tame_bind (fun hd => ?_) tame_field
    have rest : Tame (do setField e 1 (← EntryCells.newEntry hd (← frameOf env) .none (rawInt f) .none (← entryPlaceOf f (hd != .none)))) := by
      refine tame_bind (fun fr => ?_) ?_
      · refine tame_bind (fun pl => ?_) ?_
        · refine tame_bind (fun en => tame_setField (by decide)) ?_
          exact tame_new _
        · unfold entryPlaceOf
          refine tame_bind (fun acts => ?_) (fun _ => trivial)
          split <;> trivial
      · unfold frameOf
        refine tame_bind (fun l => ?_) ?_
        · refine tame_bind (fun o => ?_) ?_
          · cases o <;> trivial
          · unfold frameObject
            split
            · trivial
            · exact tame_bind (fun _ => trivial) (tame_ready _)
        · unfold frameEnvs
          exact tame_bind (fun _ => trivial) (fun _ => trivial)
    dsimp only
    split
    · refine tame_bind (fun x => ?_) tame_field
      split
      · trivial
      · exact tame_bind (fun _ => rest) (tame_setField (by decide))
    · exact rest
theorem tame_leaving {e : Value} {env : Env} : Tame (leaving env e) := by
  unfold leaving
  exact tame_bind (fun _ => tame_setFlight) tame_noteFrame
end L2

set_option Elab.async false
set_option linter.all false
set_option maxRecDepth 100000
namespace L2
open PySem PySem.Spec PyProof.Rows

/-! ### exceptions: how one lies behind a call -/
/-- all that stood at s, and all that is tracked, is in B (the frames apart) -/
def Cov (B : Heap) (fs : List Addr) (s : Shared) (H' : Hp) : Prop := ∀ b, b ∉ fs → ((∃ o, s.heap.get? b = some o) ∨ ∃ o, H' b = some o) → ∃ o, B.get? b = some o
def CX1 (P : Program) (w : World) (base : Heap) : CXT := fun outer H s E e s' => ∃ (a C : Addr) (a0 : Value) (H' : Hp) (B : Heap), e = .ref a ∧ s'.os = s.os ∧ AllBare s'.gens ∧ Un (frs outer) [] H H' s.heap s'.heap ∧ HOk P w H' s'.heap ∧
  Heap.FlyingW B outer a (.ref C) a0 s'.heap ∧ base.StaysIn B ∧ Cov B (frs outer) s H' ∧ (∀ b ∈ frs outer, H' b = none) ∧ Ctx0 a s'.heap ∧ E (.ref C) none H'

theorem hok_there {P : Program} {w : World} {H : Hp} {h : Heap} (ok : HOk P w H h) {b : Addr} {u : HO} (e : H b = some u) : ∃ o, h.get? b = some o := by
  have x := ok b u e
  cases u with
  | lst xs => obtain ⟨_, _, _, _, e⟩ := x; exact ⟨_, e⟩
  | tup xs => obtain ⟨_, _, _, o, e, _⟩ := x; exact ⟨_, e⟩
  | dK kvs => obtain ⟨_, _, _, _, o, _, _, e, _⟩ := x; exact ⟨_, e⟩
  | dT kvs => obtain ⟨_, _, _, _, o, _, _, e, _⟩ := x; exact ⟨_, e⟩
  | set S n => obtain ⟨o, _, _, _, e, _⟩ := x; exact ⟨_, e⟩
  | ins C dx fs => obtain ⟨_, _, _, e, _⟩ := x; exact ⟨_, e⟩
  | own y => obtain ⟨_, e⟩ := x; exact ⟨_, e⟩
  | xd fs => obtain ⟨_, ⟨_, _, _, e, _⟩, _⟩ := x; exact ⟨_, e⟩
  | rng lo hi => obtain ⟨_, _, _, e⟩ := x; exact ⟨_, e⟩
  | frz ob u => obtain ⟨e, _⟩ := x; exact ⟨_, e⟩
  | tbl ps => exact ⟨_, (show h.get? b = some _ from x)⟩
  | met f y => exact ⟨_, (show h.get? b = some _ from x)⟩
  | ext φ => obtain ⟨_, ⟨_, e⟩, _⟩ := x; exact ⟨_, e⟩
/-- what is in B stays, the frames keep up to slots: a step behind an exception -/
theorem un_step {fs : List Addr} {H H' : Hp} {s : Shared} {h1 h2 B : Heap} (u : Un fs [] H H' s.heap h1) (c : Cov B fs s H') (st1 : B.StaysIn h1) (st2 : B.StaysIn h2) (up : h1.UpToSlots h2)
    (fd : ∀ b ∈ fs, ∃ o, h1.get? b = some o ∧ ∀ vs, o.data ≠ .fields vs) : Un fs [] H H' s.heap h2 := by
  have go : ∀ b o, b ∉ fs → (∃ v, s.heap.get? b = some v) → h1.get? b = some o → h2.get? b = some o := fun b o hb hs e => by
    obtain ⟨o', e'⟩ := c b hb (.inl hs)
    have := st1 b o' e'
    rw [e] at this; cases this
    exact st2 b o e'
  refine ⟨fun b o q n hb hx => go b o hb ⟨o, q⟩ (u.keep b o q n hb hx), fun b o q n hb hx => ?_, u.free, fun b o q hx => ?_, u.tups, u.frzs, u.tbls⟩
  · obtain ⟨sl, e⟩ := u.slot b o q n hb hx
    obtain ⟨o1, e1, hd⟩ := fd b hb
    rw [e] at e1; cases e1
    obtain ⟨sl2, e2⟩ := up b _ e hd
    exact ⟨sl2, e2⟩
  · obtain ⟨o', e⟩ := u.there b o q hx
    by_cases hb : b ∈ fs
    · obtain ⟨o1, e1, hd⟩ := fd b hb
      rw [e] at e1; cases e1
      obtain ⟨sl2, e2⟩ := up b _ e hd
      exact ⟨_, e2⟩
    · exact ⟨o', go b o' hb ⟨o, q⟩ e⟩
theorem hok_step {P : Program} {w : World} {fs : List Addr} {H' : Hp} {s : Shared} {h1 h2 B : Heap} (ok : HOk P w H' h1) (c : Cov B fs s H') (st1 : B.StaysIn h1) (st2 : B.StaysIn h2) (nf : ∀ b ∈ fs, H' b = none) : HOk P w H' h2 := fun b u q =>
  (ok b u q).stay (fun d v hd e => by
    have hn : ∃ o, H' d = some o := by
      rcases hd with rfl | hd
      · exact ⟨_, q⟩
      · exact ⟨_, hd⟩
    have hf : d ∉ fs := fun z => by obtain ⟨o, ho⟩ := hn; rw [nf d z] at ho; cases ho
    obtain ⟨o', e'⟩ := c d hf (.inr hn)
    have := st1 d o' e'
    rw [e] at this; cases this
    exact st2 d v e') (fun _ r => r) fun _ _ r => r
theorem flying_data {B h : Heap} {l : List Env} {a : Addr} {cls a0 : Value} (fl : Heap.FlyingW B l a cls a0 h) : ∀ b ∈ frs l, ∃ o, h.get? b = some o ∧ ∀ vs, o.data ≠ .fields vs := fun b hb => (fl.2.2.1.mem hb).2

section
variable {P : Program} {w : World} {K : PySem.W.Frag} {mg : Str → Option Value} {base : Heap} {N : List Str} {qual : Str} {scope : Scope} {f : Addr} {cd : Value} {A : Around} {outer : List Env} {s₀ : Shared} {H₀ : Hp} {E : XK}
  {pins : List (Addr × Obj)} {σ : St} {H : Hp} {s : Shared}
/-- a new exception leaves the def in which it is raised -/
theorem raise_leaves {h' : Heap} {e C : Addr} {us : List Value} (I : Inv (cxOf (CX1 P w base) P w K mg base N qual scope f cd A outer s₀ H₀ E) pins σ H s) (hx : Heap.MadeExcOf s.heap h' e (.ref C) us) (hE : E (.ref C) none H) :
    (cxOf (CX1 P w base) P w K mg base N qual scope f cd A outer s₀ H₀ E).xe (.ref e) { s with heap := h' } := by
  have hst := I.stack
  have hfree := I.stkFree
  have hfr : ∀ b, b ∈ frs (envOfC qual scope s₀.heap.objs.size f cd :: outer) ↔ b = s₀.heap.objs.size ∨ b ∈ frs outer := fun b => by
    show b ∈ s₀.heap.objs.size :: frs outer ↔ _
    exact List.mem_cons
  have old : ∀ b o, s₀.heap.get? b = some o → b ≠ s₀.heap.objs.size := fun b o q => Nat.ne_of_lt (Heap.lt_size q)
  have hin : ∀ env ∈ (envOfC qual scope s₀.heap.objs.size f cd :: outer), ∀ b, env.frame = some b → b ∈ frs (envOfC qual scope s₀.heap.objs.size f cd :: outer) := fun env he b hb => List.mem_filterMap.mpr ⟨env, he, hb⟩
  have c0 : Ctx0 e h' := by
    obtain ⟨t, g, _⟩ := hx.there
    exact ⟨_, _, g, rfl, rfl, rfl⟩
  refine wpAny_mono (tame_any (a := e) (s := { s with heap := h' }) tame_leaving c0 (wpAny_leaves_madeW (E := fun _ _ => False) (Q := fun _ s2 => ∃ (h2 : Heap) (t : Addr), s2 = { s with heap := h2 } ∧ Heap.FlyingW (PySem.W.hideAll s.heap (frs (envOfC qual scope s₀.heap.objs.size f cd :: outer))) outer e (.ref C) (.ref t) h2 ∧ h2.TupAt t us ∧ (PySem.W.hideAll s.heap (frs (envOfC qual scope s₀.heap.objs.size f cd :: outer))).get? t = none ∧ h'.UpToSlots h2) (base := PySem.W.hideAll s.heap (frs (envOfC qual scope s₀.heap.objs.size f cd :: outer))) (h := s.heap) I.ok.frames rfl (fun b o q => PySem.W.of_hideAll _ q) (PySem.W.funFrames_hide hst hin) hx fun h2 t fl tup tn up => ⟨h2, t, rfl, fl, tup, tn, up⟩)) (fun _ s2 ⟨⟨h2, t, e2, fl, tup, tn, up⟩, c2⟩ => ?_) (fun _ _ z => z.1.elim)
  subst e2
  have keep : ∀ b o, b ∉ frs (envOfC qual scope s₀.heap.objs.size f cd :: outer) → s.heap.get? b = some o → h2.get? b = some o := fun b o hb q => fl.1 b o (PySem.W.hideAll_get _ q hb)
  have slots : ∀ b o, b ∈ frs (envOfC qual scope s₀.heap.objs.size f cd :: outer) → s.heap.get? b = some o → ∃ sl, h2.get? b = some { o with slots := sl } := fun b o hb q => by
    obtain ⟨_, o1, e1, hd⟩ := hst.mem hb
    rw [q] at e1; cases e1
    exact up b o (hx.keeps b o q) hd
  refine ⟨e, C, .ref t, H, _, rfl, I.os, I.bare, ⟨fun b o q n hb hx => ?_, fun b o q n hb hx => ?_, I.base.free, fun b o q hx => ?_, I.base.tups, I.base.frzs, I.base.tbls⟩, fun b u q => ?_, fl, fun b o q => ?_, fun b hb hh => ?_, fun b hb => hfree b ((hfr b).mpr (.inr hb)), c2, hE⟩
  · refine keep b o (fun z => ?_) (I.base.keep b o q n hb hx)
    rcases (hfr b).mp z with z | z
    · exact old b o q z
    · exact hb z
  · obtain ⟨sl, e1⟩ := I.base.slot b o q n hb hx
    obtain ⟨sl2, e2⟩ := slots b _ ((hfr b).mpr (.inr hb)) e1
    exact ⟨sl2, e2⟩
  · obtain ⟨o1, e1⟩ := I.base.there b o q hx
    by_cases z : b ∈ frs (envOfC qual scope s₀.heap.objs.size f cd :: outer)
    · obtain ⟨sl2, e2⟩ := slots b _ z e1
      exact ⟨_, e2⟩
    · exact ⟨_, keep b _ z e1⟩
  · refine (I.hok b u q).stay (fun d v hd r => keep d v (fun z => ?_) r) (fun _ r => r) fun _ _ r => r
    have hn : ∃ o, H d = some o := by
      rcases hd with rfl | hd
      · exact ⟨_, q⟩
      · exact ⟨_, hd⟩
    obtain ⟨o, ho⟩ := hn
    rw [hfree d z] at ho; cases ho
  · refine PySem.W.hideAll_get _ (I.bk b o q) fun z => ?_
    have := (hst.mem z).1
    have q' : base.get? b = some o := q
    rw [show (cxOf (CX1 P w base) P w K mg base N qual scope f cd A outer s₀ H₀ E).base = base from rfl] at this
    rw [q'] at this; cases this
  · have hs : (∃ o, s.heap.get? b = some o) ∧ b ≠ s₀.heap.objs.size := by
      rcases hh with ⟨o, ho⟩ | ⟨o, ho⟩
      · exact ⟨I.base.there b o ho (by intro z; cases z), old b o ho⟩
      · refine ⟨hok_there I.hok ho, fun z => ?_⟩
        have := I.free
        rw [z] at ho
        rw [show (cxOf (CX1 P w base) P w K mg base N qual scope f cd A outer s₀ H₀ E).env.locals = s₀.heap.objs.size from rfl] at this
        rw [this] at ho; cases ho
    obtain ⟨⟨o, ho⟩, hne⟩ := hs
    exact ⟨o, PySem.W.hideAll_get _ ho fun z => ((hfr b).mp z).elim hne hb⟩
end
end L2

set_option Elab.async false
set_option linter.all false
set_option maxRecDepth 100000
namespace L2
open PySem PySem.Spec PyProof.Rows

/-! ### raise C(..) -/
abbrev bmV : List Value := [.type "ValueError", .type "Exception", .type "BaseException", .type "object"]
theorem exc_in {K : PySem.W.Frag} {h : Heap} {C : Addr} {bmB : List Value} {newId : String} (X : K.In h) (q : PySem.W.excIn K C bmB newId = true) :
    ∃ bm N nm qn bs hdct sn sub ab col dd k0 k1 k2 k3 k5 mN, h.get? C = some (excClassObj nm qn C N bs bm hdct sn sub ab col dd k0 k1 k2 k3 k5 newId) ∧ h.Ns N mN ∧ mN "__init__" = none ∧ OwnTail h bmB bm := by
  revert q
  unfold PySem.W.excIn
  split
  · rename_i d1 cdat slots hlook
    split
    · rename_i C1 tl1 z0 z1 z2 z3 nid z5 hmro hslots
      intro q
      rw [Bool.and_eq_true, Bool.and_eq_true, Bool.and_eq_true, Bool.and_eq_true, Bool.and_eq_true] at q
      obtain ⟨⟨⟨⟨⟨qa, qb⟩, qc⟩, qd⟩, qe⟩, qf⟩ := q
      have ea : C1 = C := by simpa using qa
      have eb : nid = newId := by simpa using qb
      have ec : cdat.hasDel = false := by simpa using qc
      have ef : PySem.W.nsIn K cdat.ns "__init__" = some none := by simpa using qf
      subst ea eb
      cases cdat with
      | mk nm bs mro ns qn hd sn sub ab col del =>
        simp only at hmro ec qe ef
        subst hmro ec
        cases slots with
        | mk sl =>
          simp only at hslots
          subst hslots
          exact ⟨tl1, ns, nm, qn, bs, hd, sn, sub, ab, col, d1, z0, z1, z2, z3, z5, _, X _ _ hlook, .of_isNs (PySem.W.isNs_of_in X qe), PySem.W.nsMap_none_of_in X qe ef, PySem.W.tail_of_in X qd⟩
    · intro q; cases q
  · intro q; cases q
def tRaise (C : Addr) (E : XK) (ta : TA) : TS := fun _ σ H => ta σ H fun vs H1 => vs.length ≤ sizeLine ∧ E (.ref C) none H1
section
variable {P : Program} {w : World} {K : PySem.W.Frag} {mg : Str → Option Value} {base : Heap} {N : List Str} {qual : Str} {scope : Scope} {f : Addr} {cd : Value} {A : Around} {outer : List Env} {s₀ : Shared} {H₀ : Hp} {E : XK}
/-- the context of a def that may raise -/
abbrev cxR (P : Program) (w : World) (K : PySem.W.Frag) (mg : Str → Option Value) (base : Heap) (N : List Str) (qual : Str) (scope : Scope) (f : Addr) (cd : Value) (A : Around) (outer : List Env) (s₀ : Shared) (H₀ : Hp) (E : XK) : Cx :=
  cxOf (CX1 P w base) P w K mg base N qual scope f cd A outer s₀ H₀ E
theorem ps_raise {x : Str} {np cpos pos : Pos} {e : Expr} {es : List Expr} {ta : TA} {C : Addr} (q : PySem.W.excIn K C bmV "ValueError.__new__" = true) (hm : mg x = some (.ref C)) (ha : PA (cxR P w K mg base N qual scope f cd A outer s₀ H₀ E) (e :: es) ta)
    (hg : Gl (cxR P w K mg base N qual scope f cd A outer s₀ H₀ E) x := by rfl) (he : notStar e = true := by rfl) (hpl : es.all notStar = true := by rfl) (hdb : (x == ("__debug__" : Str)) = false := by decide) :
    PS (cxR P w K mg base N qual scope f cd A outer s₀ H₀ E) (.Raise (some (.Call (.Name x np) (e :: es) [] cpos)) none pos) (tRaise C E ta) := by
  intro pins s σ H D I h
  obtain ⟨bm, Nn, nm, qn, bs, hdct, sn, sub, ab, col, dd, k0, k1, k2, k3, k5, mN, hC, hN, hni, T⟩ := exc_in (X := I.mod.kin) q
  have hh : (cxR P w K mg base N qual scope f cd A outer s₀ H₀ E).A.handled = none := I.ok.hd rfl
  have hall : (e :: es).all notStar = true := by rw [List.all_cons, he, hpl]; rfl
  refine wpAny_Raise_call_subU (nm := nm) (q := qn) (C := C) (N := Nn) (bs := bs) (hdct := hdct) (sn := sn) (sub := sub) (ab := ab) (col := col) (dd := dd) (k0 := k0) (k1 := k1) (k2 := k2) (k3 := k3) (k5 := k5) PySem.F.excBase_ValueError (by decide) PySem.F.excBase_ValueError (T.hasType (by decide)) hh (star_none hall) hni ?_
  refine ld_glob I hg hm ⟨rfl, ?_⟩ hdb
  have hA := ha cpos pins s σ H _ I h
  rw [star_cons he] at hA ⊢
  refine Calls.evalArgs_plain ?_
  refine thn hA fun us s2 ⟨vs, H2, I2, r2, hl, q2⟩ => ⟨rfl, ?_, I2.bk _ _ hC, hN.keeps I2.bk, T.keeps I2.bk, fun h' a hx => raise_leaves I2 hx q2⟩
  rw [← r2.length]; exact hl
end

/-! ### a def that may raise, and its contract -/
section
variable {P : Program} {w : World} {K : PySem.W.Frag} {mg : Str → Option Value} {base : Heap}
theorem Fun.okX {x qual : Str} {st : Stmt} {f : Addr} {fd : FuncData} {N ps : List Str} {k : Nat} {sp : Sp} (F : Fun K x qual st f fd) (S : FnScope N ps (defScope st)) (len : ∀ vs H Q E, sp vs H Q E → vs.length = ps.length)
    (hbody : ∀ (cdv : Value) (A : Around) (outer : List Env) (s : Shared) (H : Hp) (vs : List V) (Q : VK) (E : XK), Room k (A.deeper (envOfC qual (defScope st) s.heap.objs.size f cdv)) → sp vs H Q E →
      ∃ t, PSs (cxR P w K mg base N qual (defScope st) f cdv A outer s H E) (defBody st) t ∧ t { nx := fun _ H' => Q .non H', rt := Q } (start N vs) H) : FnOk P w K mg base (CX1 P w base) (k + 1) f fd ps sp := by
  obtain ⟨oc, od, kV, doc, pm, an, cdv, ct, osl, rfl, lk, hcd⟩ := F.ex
  exact fn_of lk hcd S len fun A outer s H vs Q E hr hsp => hbody cdv A outer s H vs Q E hr hsp
/-- a method of a class -/
def KnowsM (CX : CXT) (P : Program) (w : World) (K : PySem.W.Frag) (mg : Str → Option Value) (base : Heap) (k : Nat) (C : Addr) (m : Str) (ps : List Str) (sp : Sp) : Prop :=
  ∃ f fd, Meth K C m f ∧ Binds K fd ps [] ∧ FnOk P w K mg base CX k f fd ps sp
end
section
variable {X : Cx} {CX : CXT} {x m : Str} {ps : List Str} {sp : Sp} {j k : Nat} {e o : Expr} {es : List Expr} {ta : TE} {t : TA} {p pos apos : Pos} {E : XK} {C : Addr}
theorem passes_none {P : Program} {w : World} {base : Heap} : Passes (CX1 P w base) X E0 := fun _ _ _ _ _ _ _ h => by
  obtain ⟨_, _, _, _, _, _, _, _, _, _, _, _, _, _, _, z⟩ := h
  exact z.elim
theorem pe_methM {pl : Sem Bool} (F : KnowsM CX X.prog X.w X.K X.mg X.base j C m ps sp) (c : Cls X.K C) (hr : Room k X.A) (hx : Passes CX X E) (ho : PE X o ta) (ha : PA X (e :: es) t) (hjk : j ≤ k := by decide)
    (he : notStar e = true := by rfl) (hpl : es.all notStar = true := by rfl)
    (ht : eval (.Call (.Attribute o m apos) (e :: es) [] pos) X.env = (do
      let ov ← eval o X.env
      standAt apos.atName
      let (f, first) ← holding [ov] (getMethod ov m pl)
      callWith pos f first (backTo pos (starEach (e :: es) X.env)) (backToKw pos (keywordEach [] X.env))) := by rfl) : PE X (.Call (.Attribute o m apos) (e :: es) [] pos) (tMeth C m sp [] E ta t) := by
  obtain ⟨f, fd, hm, hb, F⟩ := F
  exact pe_meth (pl := pl) ho c hm F (hr.mono hjk) hb .nil hx ha (star_cons he) (star_none hpl) ht
theorem pe_methM0 {pl : Sem Bool} (F : KnowsM CX X.prog X.w X.K X.mg X.base j C m ps sp) (c : Cls X.K C) (hr : Room k X.A) (hx : Passes CX X E) (ho : PE X o ta) (hjk : j ≤ k := by decide)
    (ht : eval (.Call (.Attribute o m apos) [] [] pos) X.env = (do
      let ov ← eval o X.env
      standAt apos.atName
      let (f, first) ← holding [ov] (getMethod ov m pl)
      callWith pos f first (backTo pos (starEach [] X.env)) (backToKw pos (keywordEach [] X.env))) := by rfl) : PE X (.Call (.Attribute o m apos) [] [] pos) (tMeth C m sp [] E ta tNil) := by
  obtain ⟨f, fd, hm, hb, F⟩ := F
  exact pe_meth0 (pl := pl) ho c hm F (hr.mono hjk) hb .nil hx ht
end
end L2

set_option Elab.async false
set_option linter.all false
set_option maxRecDepth 100000
namespace L2
open PySem PySem.Spec PyProof.Rows

/-! ### try: .. except NAME: .. -/
/-- within the try's suite: the pins that stood are borne by every state -/
abbrev Cx.inTry (X : Cx) (pn : List (Addr × Obj)) (xe : Value → Shared → Prop) : Cx := { X with pn := pn, xe := xe }
/-- within the except's suite -/
abbrev Cx.inExc (X : Cx) (a : Addr) : Cx := { X with A := X.A.mark (some (.ref a)), calm := false }
section
variable {X : Cx} {pins : List (Addr × Obj)} {σ : St} {H : Hp} {s : Shared} {xe : Value → Shared → Prop} {a : Addr}
theorem Inv.inTry (I : Inv X pins σ H s) (xe : Value → Shared → Prop) : Inv (X.inTry (X.pn ++ pins) xe) [] σ H s :=
  ⟨⟨I.ok.mod, I.ok.kind, I.ok.glob, I.ok.blt, I.ok.above, I.ok.inj, I.ok.has, I.ok.cab, I.ok.hd, I.ok.frames, I.ok.stk, I.ok.exf, I.ok.bs, I.ok.bsz, I.ok.noex, I.ok.exfs, I.ok.funs, I.ok.frf⟩,
    I.os, I.bare, I.base, I.loc, I.cell, I.free, I.freeC, fun p hp => I.pin p (by simpa using hp), I.hok, I.len⟩
theorem Inv.outTry {pins' : List (Addr × Obj)} (I : Inv (X.inTry (X.pn ++ pins) xe) pins' σ H s) : Inv X pins σ H s :=
  ⟨⟨I.ok.mod, I.ok.kind, I.ok.glob, I.ok.blt, I.ok.above, I.ok.inj, I.ok.has, I.ok.cab, I.ok.hd, I.ok.frames, I.ok.stk, I.ok.exf, I.ok.bs, I.ok.bsz, I.ok.noex, I.ok.exfs, I.ok.funs, I.ok.frf⟩,
    I.os, I.bare, I.base, I.loc, I.cell, I.free, I.freeC, fun p hp => I.pin p (List.mem_append_left _ hp), I.hok, I.len⟩
theorem Inv.inExc (I : Inv X pins σ H s) (a : Addr) : Inv (X.inExc a) pins σ H s :=
  ⟨⟨I.ok.mod, I.ok.kind, I.ok.glob, I.ok.blt, I.ok.above, I.ok.inj, I.ok.has, I.ok.cab, (fun z => by cases z), I.ok.frames, I.ok.stk, I.ok.exf, I.ok.bs, I.ok.bsz, I.ok.noex, I.ok.exfs, I.ok.funs, I.ok.frf⟩,
    I.os, I.bare, I.base, I.loc, I.cell, I.free, I.freeC, I.pin, I.hok, I.len⟩
theorem SP.outTry {D : Ends} {f : Flow} {s' : Shared} (h : SP (X.inTry (X.pn ++ pins) xe) [] D f s') : SP X pins D f s' := by
  cases f with
  | next => obtain ⟨σ', H', I, q⟩ := h; exact ⟨σ', H', I.outTry, q⟩
  | brk => obtain ⟨σ', H', I, q⟩ := h; exact ⟨σ', H', I.outTry, q⟩
  | cont => obtain ⟨σ', H', I, q⟩ := h; exact ⟨σ', H', I.outTry, q⟩
  | ret u => obtain ⟨v, σ', H', I, r, q⟩ := h; exact ⟨v, σ', H', I.outTry, r, q⟩
end
/-- the exceptions of the suite's calls, by the names' values at the call -/
abbrev Lands (X : Cx) (Eb : St → XK) : Prop := ∀ (pins : List (Addr × Obj)) (σ : St) (H : Hp) (s : Shared) (e : Value) (s' : Shared), Inv X pins σ H s → CX1 X.prog X.w X.base X.stack H s (Eb σ) e s' → X.xe e s'
section
variable {X : Cx} {x : Str} {np hpos pos : Pos} {body : List Stmt} {b₀ : Stmt} {suite : List Stmt} {Dc : Addr} {tb : (St → XK) → TS} {ts : TS}
end
end L2

set_option Elab.async false
set_option linter.all false
set_option maxRecDepth 100000
namespace L2
open PySem PySem.Spec PyProof.Rows

/-! ### calls within a try's suite -/
section
variable {X : Cx} {k j : Nat} {f C : Addr} {fd : FuncData} {ps : List Str} {sp : Sp} {Eb : St → XK} {x m : Str} {p pos apos : Pos} {e o : Expr} {es : List Expr} {ta : TE} {t : TA}
theorem run_fnS {pins : List (Addr × Obj)} {σ : St} {H : Hp} {s : Shared} {Q : VK} {us : List Value} {vs : List V} (F : FnOk X.prog X.w X.K X.mg X.base (CX1 X.prog X.w X.base) k f fd ps sp) (hr : Room k X.A) (hb : Binds X.K fd ps []) (hx : Lands X Eb)
    (I : Inv X pins σ H s) (r : Vals vs us) (h : sp vs H Q (Eb σ)) : wpAny (model X.prog X.w) X.A (call (.ref f) us) (EP X pins σ Q) X.xe s := by
  have hl : us.length = ps.length := by rw [← r.length]; exact F.len _ _ _ _ h
  have hbind := hb s us I.kIn (by rw [List.append_nil]; exact hl)
  rw [List.append_nil] at hbind
  refine wpAny_call (codeAny_mono (F.run X.A X.stack s H ⟨us, []⟩ us vs Q (Eb σ) hr I.env0 hbind r h) fun res s' hq => ?_)
  cases res with
  | error e => exact hx pins σ H s e s' I hq
  | ok fl =>
    cases fl with
    | ret u => exact I.after hq
    | next => exact False.elim hq
    | brk => exact False.elim hq
    | cont => exact False.elim hq
def tMethS (C : Addr) (m : Str) (sp : Sp) (Eb : St → XK) (ta : TE) (t : TA) : TE := fun σ H Q => ta σ H fun x H1 => ∃ a dx fs, x = .ref a ∧ H1 a = some (.ins C dx fs) ∧ fs.lookup m = none ∧ t σ H1 fun vs H2 => sp (x :: vs) H2 Q (Eb σ)
theorem pe_methS {pl : Sem Bool} (F : KnowsM (CX1 X.prog X.w X.base) X.prog X.w X.K X.mg X.base j C m ps sp) (c : Cls X.K C) (hr : Room k X.A) (hx : Lands X Eb) (ho : PE X o ta) (ha : PA X (e :: es) t) (hjk : j ≤ k := by decide)
    (he : notStar e = true := by rfl) (hpl : es.all notStar = true := by rfl)
    (ht : eval (.Call (.Attribute o m apos) (e :: es) [] pos) X.env = (do
      let ov ← eval o X.env
      standAt apos.atName
      let (f, first) ← holding [ov] (getMethod ov m pl)
      callWith pos f first (backTo pos (starEach (e :: es) X.env)) (backToKw pos (keywordEach [] X.env))) := by rfl) : PE X (.Call (.Attribute o m apos) (e :: es) [] pos) (tMethS C m sp Eb ta t) := by
  obtain ⟨f, fd, hm, hb, F⟩ := F
  intro pins s σ H Q I h
  refine PySem.W.methodCall_KW (pl := pl) (thn (ho pins s σ H _ I h) fun u s1 ⟨x, H1, I1, rx, a, dx, fs, ex, ea, l, q⟩ => ?_) ht
  subst ex
  obtain rfl : u = Value.ref a := rx
  refine getmeth_ok I1 ea c hm l ?_
  refine PySem.W.callWith_K (first := [.ref a]) (h₀ := X.base) I.ok.mod.kin hm.kp (thn (ha pos pins s1 σ H1 _ I1 q) fun us s2 ⟨vs, H2, I2, r, q2⟩ => ⟨I2.kIn, ?_⟩) (star_cons he) (star_none hpl)
  exact run_fnS (us := .ref a :: us) (vs := .ref a :: vs) F (hr.mono hjk) hb hx I2 (.cons rfl r) q2
theorem pe_methS0 {pl : Sem Bool} (F : KnowsM (CX1 X.prog X.w X.base) X.prog X.w X.K X.mg X.base j C m ps sp) (c : Cls X.K C) (hr : Room k X.A) (hx : Lands X Eb) (ho : PE X o ta) (hjk : j ≤ k := by decide)
    (ht : eval (.Call (.Attribute o m apos) [] [] pos) X.env = (do
      let ov ← eval o X.env
      standAt apos.atName
      let (f, first) ← holding [ov] (getMethod ov m pl)
      callWith pos f first (backTo pos (starEach [] X.env)) (backToKw pos (keywordEach [] X.env))) := by rfl) : PE X (.Call (.Attribute o m apos) [] [] pos) (tMethS C m sp Eb ta tNil) := by
  obtain ⟨f, fd, hm, hb, F⟩ := F
  intro pins s σ H Q I h
  refine PySem.W.methodCall_KW (pl := pl) (thn (ho pins s σ H _ I h) fun u s1 ⟨x, H1, I1, rx, a, dx, fs, ex, ea, l, q⟩ => ?_) ht
  subst ex
  obtain rfl : u = Value.ref a := rx
  refine getmeth_ok I1 ea c hm l ?_
  exact PySem.W.callWith_K0 (first := [.ref a]) I1.kIn hm.kp (run_fnS (us := [.ref a]) (vs := [.ref a]) F (hr.mono hjk) hb hx I1 (.cons rfl .nil) q)
end
end L2

set_option Elab.async false
set_option linter.all false
set_option maxRecDepth 100000
namespace L2
open PySem PySem.Spec PyProof.Rows

/-! ### for k, x in enumerate(xs) -/
end L2

set_option Elab.async false
set_option linter.all false
set_option maxRecDepth 100000
namespace L2
open PySem PySem.Spec PyProof.Rows
open PySem.AutoSeq1 (wpAny_loadPart')
open PySem.MeetsSeq

/-! ### in, not in, != of data -/
theorem eqD_l (xs ys : List D) : eqD (.l xs) (.l ys) = eqDs xs ys := by unfold eqD; rfl
theorem eqD_t (xs ys : List D) : eqD (.t xs) (.t ys) = eqDs xs ys := by unfold eqD; rfl
section
variable {X : Cx}
theorem rcne_fl {s : Shared} {A : Around} {x : V} {u : Value} {p : Addr} {items : Array Value} (f : flatV x = true) (r : RelV x u) (hl : s.heap.IsList p items) (hu : A.units < cLine) : SeqAt.RcNeAt A s u (.ref p) true := by
  cases x with
  | non => cases r; exact .none_list hl hu
  | bl b => cases r; exact .bool_list b hl hu
  | int b => obtain ⟨t, rfl⟩ := r; exact .int_list b t hl hu
  | str b => obtain ⟨t, rfl⟩ := r; exact .str_list b t hl hu
  | _ => exact absurd (show false = true from f) Bool.false_ne_true
theorem rcne_lf {s : Shared} {A : Around} {x : V} {u : Value} {p : Addr} {items : Array Value} (f : flatV x = true) (r : RelV x u) (hl : s.heap.IsList p items) (hu : A.units < cLine) : SeqAt.RcNeAt A s (.ref p) u true := by
  cases x with
  | non => cases r; exact .list_none hl hu
  | bl b => cases r; exact .list_bool b hl hu
  | int b => obtain ⟨t, rfl⟩ := r; exact .list_int b t hl hu
  | str b => obtain ⟨t, rfl⟩ := r; exact .list_str b t hl hu
  | _ => exact absurd (show false = true from f) Bool.false_ne_true
theorem rcne_ft {s : Shared} {A : Around} {x : V} {u : Value} {p : Addr} {items : Array Value} (f : flatV x = true) (r : RelV x u) (hl : s.heap.IsTuple p items) (hu : A.units < cLine) : SeqAt.RcNeAt A s u (.ref p) true := by
  cases x with
  | non => cases r; exact .none_tuple hl hu
  | bl b => cases r; exact .bool_tuple b hl hu
  | int b => obtain ⟨t, rfl⟩ := r; exact .int_tuple b t hl hu
  | str b => obtain ⟨t, rfl⟩ := r; exact .str_tuple b t hl hu
  | _ => exact absurd (show false = true from f) Bool.false_ne_true
theorem rcne_tf {s : Shared} {A : Around} {x : V} {u : Value} {p : Addr} {items : Array Value} (f : flatV x = true) (r : RelV x u) (hl : s.heap.IsTuple p items) (hu : A.units < cLine) : SeqAt.RcNeAt A s (.ref p) u true := by
  cases x with
  | non => cases r; exact .tuple_none hl hu
  | bl b => cases r; exact .tuple_bool b hl hu
  | int b => obtain ⟨t, rfl⟩ := r; exact .tuple_int b t hl hu
  | str b => obtain ⟨t, rfl⟩ := r; exact .tuple_str b t hl hu
  | _ => exact absurd (show false = true from f) Bool.false_ne_true
theorem rcne_flat {s : Shared} {A : Around} {y x : V} {u v : Value} (ry : RelV y u) (rx : RelV x v) (fy : flatV y = true) (fx : flatV x = true) : SeqAt.RcNeAt A s u v (!eqV y x) := by
  cases y with
  | non =>
    cases ry
    cases x with
    | non => cases rx; exact SeqAt.RcNeAt.none_none
    | bl b => cases rx; exact SeqAt.RcNeAt.none_bool b
    | int b => obtain ⟨t, rfl⟩ := rx; exact SeqAt.RcNeAt.none_int b t
    | str b => obtain ⟨t, rfl⟩ := rx; exact SeqAt.RcNeAt.none_str b t
    | _ => exact absurd (show false = true from fx) Bool.false_ne_true
  | bl c =>
    cases ry
    cases x with
    | non => cases rx; exact SeqAt.RcNeAt.bool_none c
    | bl b => cases rx; exact SeqAt.RcNeAt.bool_bool c b
    | int b => obtain ⟨t, rfl⟩ := rx; exact SeqAt.RcNeAt.bool_int c b t
    | str b => obtain ⟨t, rfl⟩ := rx; exact SeqAt.RcNeAt.bool_str c b t
    | _ => exact absurd (show false = true from fx) Bool.false_ne_true
  | int c =>
    obtain ⟨t', rfl⟩ := ry
    cases x with
    | non => cases rx; exact SeqAt.RcNeAt.int_none c t'
    | bl b => cases rx; exact SeqAt.RcNeAt.int_bool c t' b
    | int b => obtain ⟨t, rfl⟩ := rx; exact SeqAt.RcNeAt.int_int c t' b t
    | str b => obtain ⟨t, rfl⟩ := rx; exact SeqAt.RcNeAt.int_str c t' b t
    | _ => exact absurd (show false = true from fx) Bool.false_ne_true
  | str c =>
    obtain ⟨t', rfl⟩ := ry
    cases x with
    | non => cases rx; exact SeqAt.RcNeAt.str_none c t'
    | bl b => cases rx; exact SeqAt.RcNeAt.str_bool c t' b
    | int b => obtain ⟨t, rfl⟩ := rx; exact SeqAt.RcNeAt.str_int c t' b t
    | str b => obtain ⟨t, rfl⟩ := rx; exact SeqAt.RcNeAt.str_str c t' b t
    | _ => exact absurd (show false = true from fx) Bool.false_ne_true
  | _ => exact absurd (show false = true from fy) Bool.false_ne_true
def rNeD (K : PySem.W.Frag) : R2 := fun x y H Q => ∃ d e, Rep K H x d ∧ Rep K H y e ∧ depD d ≤ 60 ∧ Q (.bl (!eqD d e)) H
theorem op_neD (hu : X.A.units + 64 < cLine) : OpR X (compareOp .NotEq) (rNeD X.K) := by
  intro pins s σ H x y v u Q I rx ry h
  obtain ⟨d, e, r1, r2, hd, q⟩ := h
  have hu' : X.A.units < cLine := by omega
  have hin : X.A.in1.units + 60 < cLine := by show X.A.units + 1 + 60 < cLine; omega
  have fin : ∀ b, (!eqD d e) = b → EP X pins σ Q (.bool b) s := fun b hb => ⟨.bl b, H, I, rfl, by rw [← hb]; exact q⟩
  cases r1 with
  | a f =>
    cases r2 with
    | a f' => exact EqBoolInt.of_rcne (rcne_flat rx ry f f') (fin _ (by unfold eqD; rfl))
    | l h r => cases ry; obtain ⟨_, _, pl, _⟩ := I.list h; exact EqBoolInt.of_rcne (rcne_fl f rx pl.isList hu') (fin _ (by unfold eqD; rfl))
    | t h r => cases ry; obtain ⟨_, _, pl, _⟩ := I.tuple h; exact EqBoolInt.of_rcne (rcne_ft f rx pl hu') (fin _ (by unfold eqD; rfl))
  | @l p vs ds h r =>
    cases rx
    obtain ⟨its, rv, pl, _⟩ := I.list h
    cases r2 with
    | a f' => exact EqBoolInt.of_rcne (rcne_lf f' ry pl.isList hu') (fin _ (by unfold eqD; rfl))
    | @t p' vs' ds' h' r' =>
      cases ry
      obtain ⟨its', rv', pt, _⟩ := I.tuple h'
      exact EqBoolInt.of_rcne (.list_tuple pl.isList pt hu') (fin _ (by unfold eqD; rfl))
    | @l p' vs' ds' h' r' =>
      cases ry
      obtain ⟨its', rv', pl', _⟩ := I.list h'
      have e1 := rv.length
      have e2 := rv'.length
      have e3 := r.len
      have e4 := r'.len
      by_cases hl : ds.length = ds'.length
      · refine EqBoolInt.of_rcne (SeqAt.RcNeAt.lists (e := fun j => eqD (ds.getD j (.l [])) (ds'.getD j (.l []))) pl.isList pl'.isList (by simp only [List.size_toArray]; omega) hu' (fun j h1 h2 => ?_)) (fin _ ?_)
        · obtain ⟨v1, a1, b1, c1⟩ := getD_rep j h1 rv r
          obtain ⟨v2, a2, b2, c2⟩ := getD_rep j h2 rv' r'
          have hdj : depD (ds.getD j (.l [])) ≤ 60 := Nat.le_trans (depDs_mem c1) (by unfold depD at hd; omega)
          exact (eqD_at I 60 hdj hin b1 b2 a1 a2).2
        · rw [eqD_l, List.size_toArray, ← e1, e3, eqDs_range hl]
      · refine EqBoolInt.of_rcne (SeqAt.RcNeAt.lists_lengths pl.isList pl'.isList (by simp only [List.size_toArray]; simp; omega) hu') (fin _ ?_)
        rw [eqD_l, eqDs_len hl]
        rfl
  | @t p vs ds h r =>
    cases rx
    obtain ⟨its, rv, pl, _⟩ := I.tuple h
    cases r2 with
    | a f' => exact EqBoolInt.of_rcne (rcne_tf f' ry pl hu') (fin _ (by unfold eqD; rfl))
    | @l p' vs' ds' h' r' =>
      cases ry
      obtain ⟨its', rv', pl', _⟩ := I.list h'
      exact EqBoolInt.of_rcne (.tuple_list pl pl'.isList hu') (fin _ (by unfold eqD; rfl))
    | @t p' vs' ds' h' r' =>
      cases ry
      obtain ⟨its', rv', pl', _⟩ := I.tuple h'
      have e1 := rv.length
      have e2 := rv'.length
      have e3 := r.len
      have e4 := r'.len
      refine EqBoolInt.of_rcne (SeqAt.RcNeAt.tuples (e := fun j => eqD (ds.getD j (.l [])) (ds'.getD j (.l []))) pl pl' hu' (fun j h1 h2 => ?_)) (fin _ ?_)
      · obtain ⟨v1, a1, b1, c1⟩ := getD_rep j h1 rv r
        obtain ⟨v2, a2, b2, c2⟩ := getD_rep j h2 rv' r'
        have hdj : depD (ds.getD j (.l [])) ≤ 60 := Nat.le_trans (depDs_mem c1) (by unfold depD at hd; omega)
        exact (eqD_at I 60 hdj hin b1 b2 a1 a2).2
      · rw [eqD_t]
        by_cases hl : ds.length = ds'.length
        · have em : min its.toArray.size its'.toArray.size = ds.length := by simp only [List.size_toArray]; omega
          have eb : (its.toArray.size == its'.toArray.size) = true := by simp only [List.size_toArray]; simp; omega
          rw [em, eb, Bool.and_true, eqDs_range hl]
        · have eb : (its.toArray.size == its'.toArray.size) = false := by simp only [List.size_toArray]; simp; omega
          rw [eb, Bool.and_false, eqDs_len hl]
/-- the items' answers, read off the values -/
theorem ans_of {K : PySem.W.Frag} {H : Hp} {d : D} : ∀ {vs : List V} {us : List Value} {ds : List D}, Vals vs us → Reps K H vs ds → (∀ v e e', Rep K H v e → Rep K H v e' → e = e') →
    ∃ ans : Value → Bool, (∀ u ∈ us, ∃ v e, RelV v u ∧ Rep K H v e ∧ e ∈ ds ∧ ans u = eqD e d) ∧ us.map ans = ds.map fun e => eqD e d := by
  intro vs us ds rv rp inj
  have key : ∃ ans : Value → Bool, ∀ v u e, RelV v u → Rep K H v e → ans u = eqD e d := by
    classical
    refine ⟨fun u => decide (∃ v e, RelV v u ∧ Rep K H v e ∧ eqD e d = true), fun v u e r q => ?_⟩
    cases hb : eqD e d
    · refine decide_eq_false fun ⟨v', e', r', q', h'⟩ => ?_
      have ev : v' = v := r'.inj r
      subst ev
      rw [inj _ _ _ q' q, hb] at h'
      cases h'
    · exact decide_eq_true ⟨v, e, r, q, hb⟩
  obtain ⟨ans, ha⟩ := key
  refine ⟨ans, ?_, ?_⟩
  · intro u hu
    induction rv generalizing ds with
    | nil => cases hu
    | @cons v u0 vs us r t ih =>
      cases rp with
      | @cons _ e _ es q qs =>
        rcases List.mem_cons.mp hu with rfl | hu
        · exact ⟨v, e, r, q, List.mem_cons_self, ha _ _ _ r q⟩
        · obtain ⟨v', e', a, b, c, f⟩ := ih qs hu
          exact ⟨v', e', a, b, List.mem_cons_of_mem _ c, f⟩
  · induction rv generalizing ds with
    | nil => cases rp; rfl
    | @cons v u0 vs us r t ih =>
      cases rp with
      | @cons _ e _ es q qs => rw [List.map_cons, List.map_cons, ih qs, ha _ _ _ r q]
def rInD (K : PySem.W.Frag) (neg : Bool) : R2 := fun x y H Q => ∃ p vs ds d, y = .ref p ∧ SqL K H p vs ∧ Reps K H vs ds ∧ Rep K H x d ∧ depDs ds ≤ 50 ∧ Q (.bl (if neg then !(ds.any fun e => eqD e d) else ds.any fun e => eqD e d)) H
theorem any_map {us : List Value} {ds : List D} {ans : Value → Bool} {f : D → Bool} (h : us.map ans = ds.map f) : us.any ans = ds.any f := by
  have : ∀ {α : Type} (l : List α) (g : α → Bool), l.any g = (l.map g).any id := by
    intro α l g
    rw [List.any_map]; rfl
  rw [this, this ds, h]
theorem op_inD (hu : X.A.units + 64 < cLine) : OpR X (compareOp .In) (rInD X.K false) := by
  intro pins s σ H x y v u Q I rx ry h
  obtain ⟨p, vs, ds, d, rfl, hq, rp, rd, hd, q⟩ := h
  cases ry
  obtain ⟨its, rv, pl, hz⟩ := I.list hq
  obtain ⟨ans, ha, hm⟩ := ans_of (d := d) rv rp (fun v e e' a b => Rep.inj I a b)
  have hin : X.A.in1.units + 50 < cLine := by show X.A.units + 1 + 50 < cLine; omega
  refine SeqAt.in_listAt ans pl.isList (fun y hy => ?_) ⟨.bl _, H, I, rfl, ?_⟩
  · obtain ⟨v', e, a, b, c, f⟩ := ha y (by simpa using hy)
    rw [f]
    exact (eqD_at I 50 (Nat.le_trans (depDs_mem c) hd) hin b rd a rx).2
  · rw [show its.toArray.any ans = its.any ans by simp, any_map hm]
    exact q
/-! ### xs.insert(i, y), xs.remove(y), a ** n -/
def rInsert : V → List V → Hp → VK → Prop := fun x vs H Q => ∃ (l : Addr) (xs : List V) (i : Int) (y : V), x = .ref l ∧ vs = [.int i, y] ∧ H l = some (.lst xs) ∧ 0 ≤ i ∧ i ≤ xs.length ∧ xs.length < sizeLine ∧ Q .non (upd H l (.lst (xs.take i.toNat ++ y :: xs.drop i.toNat)))
theorem mt_insert : MtR X "list.insert" rInsert := by
  intro pins s σ H x vs v us Q I rx rv h
  obtain ⟨l, xs, i, y, rfl, rfl, hH, hi0, hi1, hz, q⟩ := h
  cases rx
  obtain ⟨u1, u2, rfl, ⟨t, rfl⟩, ru⟩ := rv.two
  obtain ⟨z, its, n, r, hl, e⟩ := I.lstM hH
  have hn := line63
  have hsz : its.toArray.size ≤ sizeLine := by rw [List.size_toArray]; omega
  have hfit : ¬ (!Builtin.List.listFitsIndex i) = true := by
    rw [fitsIndex_both (by omega) (by omega)]
    decide
  refine call_meets F.slot_list_insert ⟨_, e, rfl⟩ F.entry_list_insert (F.args_list_insert_3 _ _ _) (AutoSeq1.list_insert_list_int_val_1 l its.toArray n i t u2 hfit hsz) ⟨e, ?_⟩
  refine ⟨.non, _, I.lset (its' := its.take i.toNat ++ u2 :: its.drop i.toNat) hH e ?_ ((r.take i.toNat).append (.cons ru (r.drop i.toNat))) ?_, rfl, q⟩
  · have e1 : ¬ (i < 0) := by omega
    have e2 : min i.toNat its.toArray.size = i.toNat := by rw [List.size_toArray]; omega
    simp only [e1, if_false, e2]
    apply Array.ext'
    simp
    exact List.take_of_length_le (by rw [List.length_drop]; exact Nat.le_refl _)
  · rw [List.length_append, List.length_cons, List.length_take, List.length_drop]
    omega
theorem rmLoop (q : Addr) (arr : Array Value) (nn : Nat) (v : Value) (ans : Value → Bool) (place : Nat) (hin : place < arr.size) (yes : ans arr[place] = true) (small : arr.size ≤ sizeLine) (togo : Nat) :
    ∀ i : Nat, place - i = togo → i ≤ place → (∀ m (hm : m < arr.size), i ≤ m → m < place → ans arr[m] = false) → Meets (Builtin.«list.remove.loop» ⟨[.ref q, v, rawInt i], []⟩)
      (fun A R s => s.heap.get? q = some { cls := .type "list", dict := none, data := .seq arr nn, slots := #[] } ∧ (∀ y, y ∈ arr → SeqAt.EqAt A.in1 s y v (ans y)) ∧ R (.ok (.ret .none)) { s with heap := s.heap.update q (Obj.mapSeq fun xs => xs.eraseIdxIfInBounds place) }) := by
  induction togo with
  | zero =>
    intro i hd hle no prog w A R s hyp
    obtain ⟨hp, g, dr, tk, os⟩ := s
    obtain ⟨obj, eqs, fin⟩ := hyp
    obtain rfl : i = place := by omega
    wp_walk using wpAny_loadPart' obj
    rw [show arr[((i : Nat) : Int).toNat]? = some arr[i] by simp [hin]]
    refine wpAny_bind (eqs _ (Array.getElem_mem hin) prog w _ _ ?_)
    rw [yes]
    have bigger : (arr.eraseIdxIfInBounds i).size ≤ sizeLine + 1 := Nat.le_trans (size_erased arr _) (Nat.le_succ_of_le small)
    wp_walk using (wpAny_updateSeq obj rfl (hz := small) (_hz' := bigger)), wpAny_loadPart' obj
    simpa using fin
  | succ togo ih =>
    intro i hd hle no prog w A R s hyp
    obtain ⟨hp, g, dr, tk, os⟩ := s
    obtain ⟨obj, eqs, fin⟩ := hyp
    have hlt : i < arr.size := by omega
    wp_walk using wpAny_loadPart' obj
    rw [show arr[((i : Nat) : Int).toNat]? = some arr[i] by simp [hlt]]
    refine wpAny_bind (eqs _ (Array.getElem_mem hlt) prog w _ _ ?_)
    rw [no i hlt (Nat.le_refl _) (by omega)]
    wp_walk
    rw [show ((i : Int) + 1) = ((i + 1 : Nat) : Int) by push_cast; rfl]
    refine ⟨plainId_quiet plain_remove_loop _, codeAny_builtin entry_remove_loop ?_⟩
    rw [Around.under_plainId plain_remove_loop _]
    exact ih (i + 1) (by omega) (by omega) (fun m hm a b => no m hm (by omega) b) prog w A R _ ⟨obj, eqs, fin⟩
theorem rmList (q : Addr) (arr : Array Value) (nn : Nat) (v : Value) (ans : Value → Bool) (place : Nat) (hin : place < arr.size) (yes : ans arr[place] = true) (no : ∀ m (hm : m < arr.size), m < place → ans arr[m] = false) (small : arr.size ≤ sizeLine) :
    Meets (Builtin.«list.remove» ⟨[.ref q, v], []⟩)
      (fun A R s => s.heap.get? q = some { cls := .type "list", dict := none, data := .seq arr nn, slots := #[] } ∧ (∀ y, y ∈ arr → SeqAt.EqAt A.in1 s y v (ans y)) ∧ R (.ok (.ret .none)) { s with heap := s.heap.update q (Obj.mapSeq fun xs => xs.eraseIdxIfInBounds place) }) := by
  intro prog w A R s hyp
  obtain ⟨hp, g, dr, tk, os⟩ := s
  obtain ⟨obj, eqs, fin⟩ := hyp
  wp_walk using wpAny_loadPart' obj
  refine ⟨plainId_quiet plain_remove_loop _, codeAny_builtin entry_remove_loop ?_⟩
  rw [Around.under_plainId plain_remove_loop _]
  exact rmLoop q arr nn v ans place hin yes small _ 0 rfl (Nat.zero_le _) (fun m hm _ b => no m hm b) prog w A R _ ⟨obj, eqs, fin⟩
def rRemove (K : PySem.W.Frag) : V → List V → Hp → VK → Prop := fun x vs H Q => ∃ (l : Addr) (xs : List V) (ds : List D) (y : V) (d : D) (place : Nat), x = .ref l ∧ vs = [y] ∧ H l = some (.lst xs) ∧ Reps K H xs ds ∧ Rep K H y d ∧ depDs ds ≤ 50 ∧
  (ds.map fun e => eqD e d)[place]? = some true ∧ (∀ m, m < place → (ds.map fun e => eqD e d)[m]? = some false) ∧ Q .non (upd H l (.lst (xs.eraseIdx place)))
theorem mt_remove (hu : X.A.units + 64 < cLine) : MtR X "list.remove" (rRemove X.K) := by
  intro pins s σ H x vs v us Q I rx rv h
  obtain ⟨l, xs, ds, y, d, place, rfl, rfl, hH, rp, rd, hd, hyes, hno, q⟩ := h
  cases rx
  obtain ⟨u, rfl, ru⟩ := rv.one
  obtain ⟨z, its, n, r, hl, e⟩ := I.lstM hH
  obtain ⟨ans, ha, hm⟩ := ans_of (d := d) r rp (fun v e e' a b => Rep.inj I a b)
  have hin : X.A.in1.units + 50 < cLine := by show X.A.units + 1 + 50 < cLine; omega
  have hget : ∀ m b, (ds.map fun e => eqD e d)[m]? = some b → ∃ h : m < its.toArray.size, ans its.toArray[m] = b := fun m b hb => by
    rw [← hm, List.getElem?_map] at hb
    cases hx : its[m]? with
    | none => rw [hx] at hb; cases hb
    | some u' =>
      rw [hx] at hb
      obtain ⟨hlt, e'⟩ := List.getElem?_eq_some_iff.mp hx
      refine ⟨by simpa using hlt, ?_⟩
      have : its.toArray[m] = u' := by simpa using e'
      rw [this]
      exact Option.some.inj hb
  obtain ⟨hp, yes⟩ := hget place true hyes
  have hsz : its.toArray.size ≤ sizeLine := by rw [List.size_toArray]; omega
  refine call_meets F.slot_list_remove ⟨_, e, rfl⟩ F.entry_list_remove (F.args_list_remove_2 _ _) (rmList l its.toArray n u ans place hp yes (fun m hm' hlt => (hget m false (hno m hlt)).2) hsz) ⟨e, fun w hw => ?_, ?_⟩
  · obtain ⟨v', e', a, b, c, f⟩ := ha w (by simpa using hw)
    rw [f]
    exact (eqD_at I 50 (Nat.le_trans (depDs_mem c) hd) hin b rd a ru).2
  · refine ⟨.non, _, I.lset (its' := its.eraseIdx place) hH e ?_ (r.eraseIdx place) ?_, rfl, q⟩
    · show its.toArray.eraseIdxIfInBounds place = (its.eraseIdx place).toArray
      rw [List.eraseIdxIfInBounds_toArray]
    · have := len_erase xs place
      omega
def CPowS (i j : Int) : Prop := 0 ≤ j ∧ (Builtin.Int.intBits i : Int) * j ≤ 2 ^ 27
theorem op_powS : OpR X (binaryOp .Pow) (rI CPowS fun i j => .int (i ^ j.toNat)) := opI fun _ _ _ _ _ _ _ hc q => pow_int hc.1 hc.2 q
end
end L2

set_option Elab.async false
set_option linter.all false
set_option maxRecDepth 100000
namespace L2
open PySem PySem.Spec PyProof.Rows
section
variable {X : Cx} {pos : Pos}
end

/-! ### the law's head, with the size of the script's ints -/
theorem weight_all {ns : List Int} : ∀ v ∈ ns, (PySem.W.WData.weight (.int v)) ≤ PySem.W.WData.weightAll (ns.map .int) := by
  intro v hv
  induction ns with
  | nil => cases hv
  | cons n r ih =>
    have e : PySem.W.WData.weightAll ((n :: r).map PySem.W.WData.int) = PySem.W.WData.weight (.int n) + 1 + PySem.W.WData.weightAll (r.map .int) := by
      rw [List.map_cons, PySem.W.WData.weightAll]
    rw [e]
    rcases List.mem_cons.mp hv with rfl | hv
    · omega
    · have := ih hv
      omega
end L2

set_option Elab.async false
set_option linter.all false
set_option maxRecDepth 100000
namespace Att
open PySem PySem.W PySem.Calls PyProof.Rows L2
theorem small_of {ns : List Int} (h : WData.layableAll [WData.list (ns.map WData.int)] = true) : ∀ v ∈ ns, Builtin.Int.intBits v ≤ 1048576 := by
  intro v hv
  unfold WData.layableAll at h
  rw [List.all_cons, Bool.and_eq_true] at h
  have h1 := h.1
  unfold WData.layable at h1
  rw [Bool.and_eq_true] at h1
  have h2 := of_decide_eq_true h1.2
  have e : WData.weight (WData.list (ns.map WData.int)) = WData.weightAll (ns.map WData.int) := by rw [WData.weight]
  rw [e] at h2
  have h3 := weight_all v hv
  have e2 : WData.weight (.int v) = Builtin.Int.intBits v := by
    rw [WData.weight]
    rfl
  rw [e2] at h3
  have : (2 : Nat) ^ 20 = 1048576 := by decide
  omega
theorem attach_callW {l : OpenLaw} {n : Nat} {q : Program} {loose : List Str} {XP : (Str → Option Value) → Heap → Prop} {YP : World → Heap → Prop} {d : DefRec}
    (hn : l.most = some n) (hdf : d.params.defaults = [])
    (call : ∀ (w : World) (s₀ s₁ : Shared) (mg mb : Str → Option Value) (fa : Addr) (o : Obj) (pm cd doc : Value) (a : Addr) (vs : List Value) (ns : List Int),
      Ground q loose [] XP w s₀ mg mb s₁.heap → YP w s₁.heap →
      s₁.heap.get? fa = some o → o.data = .func (docDef d.name d.params d.body d.scope pm cd doc) → s₁.heap.CodeRec cd d.name → mg d.name = some (.ref fa) →
      s₁.heap.get? a = some { cls := .type "list", data := .seq vs.toArray } → IntsAre vs ns → ns.length ≤ n → (∀ v ∈ ns, Builtin.Int.intBits v ≤ 1048576) → s₁.gens = #[] →
      codeAny (model l.prog w) callerA (.call (.ref fa) ⟨[.ref a], []⟩) (fun r s' => r = .ok (.ret (.bool true)) ∧ OldK s₁.heap s'.heap ∧ s'.os = s₁.os ∧ AllBare s'.gens) s₁) :
    WalkO q loose XP YP l.row.toRowW d [] (fun f vs => PySem.call f vs) := by
  intro w s₀ s₁ mg mb G Y fa o pm cd doc dV kV ho hd hcd hD hmg hg args vals as hpre hlay hrd hwl hlo
  obtain rfl : dV = .none := Dflts.none hD hdf
  obtain rfl : kV = .none := Dflts.noKw hD
  obtain ⟨a, vs, ns, rfl, rfl, hobj, hints, hlen⟩ := script_of hn hpre hwl
  refine enter_call (codeAny_mono (call w s₀ s₁ mg mb fa o pm cd doc a vs ns G Y ho (fd_plain hd) hcd hmg hobj hints hlen (small_of hlay) hg) fun r s' hq => ?_)
  obtain ⟨rfl, h2, h3, h4⟩ := hq
  exact ⟨.inl ⟨.bool true, .bool true, [], rfl, fun _ => rfl, .bool true, post_true l _, fun _ => ⟨List.Pairwise.nil, fun _ hm => (nomatch hm)⟩⟩, h2, h3, h4⟩
end Att
namespace L2
open PySem PySem.Spec PyProof.Rows
theorem walk_ofW {l : PySem.W.OpenLaw} {n k : Nat} {q : Program} {loose : List Str} {XP : (Str → Option Value) → Heap → Prop} {YP : World → Heap → Prop} {d : DefRec} {K : Params → PySem.W.Frag} {CX : World → CXT} {sp : World → Sp} {x : Str}
    (hn : l.most = some n) (hn2 : n ≤ sizeLine) (hdf : d.params.defaults = []) (hr : Room k callerA)
    (hY : ∀ (w : World) (h : Heap), YP w h → (K w.params).In h)
    (F : ∀ (w : World) (mg : Str → Option Value) (fa : Addr) (h : Heap), (K w.params).In h → h.Ns mainGlobals mg → mg d.name = some (.ref fa) →
      ∃ fd : FuncData, (∀ (s : Shared) (u : Value), BindsTo s fd ⟨[u], []⟩ [(x, u)]) ∧
        ∀ base : Heap, (K w.params).In base → base.Ns mainGlobals mg → FnOk l.prog w (K w.params) mg base (CX w) k fa fd [x] (sp w))
    (hsp : ∀ (w : World) (H : Hp) (a : Addr) (ns : List Int), ns.length ≤ n → (∀ v ∈ ns, Builtin.Int.intBits v ≤ 1048576) → Only H → SqL (K w.params) H a (ns.map V.int) → sp w [.ref a] H (fun v _ => v = .bl true) fun _ _ _ => False)
    (hCX : ∀ (w : World) (H : Hp) (s : Shared) (e : Value) (s' : Shared), CX w [] H s (fun _ _ _ => False) e s' → False) :
    PySem.W.WalkO q loose XP YP l.row.toRowW d [] (fun f vs => PySem.call f vs) := by
  refine Att.attach_callW hn hdf fun w s₀ s₁ mg mb fa o pm cd doc a vs ns G Y ho hd hcd hmg hobj hints hlen hsm hg => ?_
  have KX := hY w _ Y
  obtain ⟨fd, hb, hF⟩ := F w mg fa _ KX G.T.g hmg
  exact law_call KX G.T.g G.T.b G.T.builtins G.T.nolimit hg hobj hints (Nat.le_trans hlen hn2) hr hF hb (fun H hO hS => hsp w H a ns hlen hsm hO hS) fun H e s' => hCX w H s₁ e s'
end L2

set_option Elab.async false
set_option linter.all false
set_option maxRecDepth 100000
namespace L2
open PySem PySem.Spec PyProof.Rows
/-- a class of the text whose __init__ has a contract -/
def KnowsI (CX : CXT) (P : Program) (w : World) (K : PySem.W.Frag) (mg : Str → Option Value) (base : Heap) (k : Nat) (C : Addr) (ps : List Str) (sp : Sp) : Prop :=
  ∃ f fd, Mk K C f ∧ Binds K fd ps [] ∧ FnOk P w K mg base CX k f fd ps sp
section
variable {X : Cx} {CX : CXT} {x : Str} {ps : List Str} {sp : Sp} {j k : Nat} {e : Expr} {es : List Expr} {t : TA} {p pos : Pos} {E : XK} {C : Addr}
theorem pe_makeM0 (F : KnowsI CX X.prog X.w X.K X.mg X.base j C ps sp) (hr : Room k X.A) (hm : X.mg x = some (.ref C)) (hx : Passes CX X E) (hjk : j + 1 ≤ k := by decide) (hg : Gl X x := by rfl)
    (hdb : (x == ("__debug__" : Str)) = false := by decide) : PE X (.Call (.Name x p) [] [] pos) (tMake C sp [] E tNil) := by
  obtain ⟨f, fd, M, hb, F⟩ := F
  exact pe_make0 M F (hr.mono hjk) hg hm hb .nil hx hdb
end
end L2

set_option Elab.async false
set_option linter.all false
set_option maxRecDepth 100000
namespace L2
open PySem PySem.Spec PyProof.Rows
theorem def_mk {K : PySem.W.Frag} {h : Heap} {mg : Str → Option Value} (X : K.In h) (G : h.Ns mainGlobals mg) {x : Str} {st : Stmt} {ps : List Str} {f : Addr} {oc : Value} {od an : Option Addr} {osl : Array (Option Value)} {kV doc pm cdv ct : Value}
    (a : PySem.W.nsIn K mainGlobals x = some (some (.ref f))) (l : K.lookup f = some ⟨oc, od, .func (PySem.W.fnOf x x (defArgs st) (defBody st) (defScope st) .none kV doc pm an cdv ct), osl⟩) (c : PySem.W.codeIn K cdv x = true) (k : PySem.W.keepIn K (.ref f) = true)
    (b : ∀ (kV doc pm : Value) (an : Option Addr) (cdv ct : Value) (us : List Value), us.length = ps.length → bindArgs (PySem.W.fnOf x x (defArgs st) (defBody st) (defScope st) .none kV doc pm an cdv ct) ⟨us, []⟩ = pure (ps.zip us)) : Def K mg x st ps :=
  ⟨⟨_, _, fun_mk l c k, PySem.W.mg_of X G a, (fun_mk l c k).binds b⟩⟩
/-- a method's def -/
structure MDef (K : PySem.W.Frag) (C : Addr) (m qual : Str) (st : Stmt) (ps : List Str) : Prop where
  ex : ∃ f fd, Meth K C m f ∧ Fun K m qual st f fd ∧ Binds K fd ps []
/-- the def of __init__ of a class that is called -/
structure IDef (K : PySem.W.Frag) (C : Addr) (qual : Str) (st : Stmt) (ps : List Str) : Prop where
  ex : ∃ f fd, Mk K C f ∧ Fun K "__init__" qual st f fd ∧ Binds K fd ps []
theorem meth_mk {K : PySem.W.Frag} {C : Addr} {m qual : Str} {st : Stmt} {ps : List Str} {f : Addr} {oc : Value} {od an : Option Addr} {osl : Array (Option Value)} {kV doc pm cdv ct : Value}
    (a : PySem.W.findIn K (.ref C) m = some (some (.ref f))) (n : PySem.W.isFn K (.ref f) = true) (l : K.lookup f = some ⟨oc, od, .func (PySem.W.fnOf m qual (defArgs st) (defBody st) (defScope st) .none kV doc pm an cdv ct), osl⟩) (c : PySem.W.codeIn K cdv qual = true) (k : PySem.W.keepIn K (.ref f) = true)
    (b : ∀ (kV doc pm : Value) (an : Option Addr) (cdv ct : Value) (us : List Value), us.length = ps.length → bindArgs (PySem.W.fnOf m qual (defArgs st) (defBody st) (defScope st) .none kV doc pm an cdv ct) ⟨us, []⟩ = pure (ps.zip us)) : MDef K C m qual st ps :=
  ⟨⟨f, _, ⟨a, n, k⟩, fun_mk l c k, (fun_mk l c k).binds b⟩⟩
theorem init_mk {K : PySem.W.Frag} {C : Addr} {qual : Str} {st : Stmt} {ps : List Str} {f : Addr} {oc : Value} {od an : Option Addr} {osl : Array (Option Value)} {kV doc pm cdv ct : Value}
    (a : PySem.W.findIn K (.ref C) "__init__" = some (some (.ref f))) (n : PySem.W.isFn K (.ref f) = true) (l : K.lookup f = some ⟨oc, od, .func (PySem.W.fnOf "__init__" qual (defArgs st) (defBody st) (defScope st) .none kV doc pm an cdv ct), osl⟩) (c : PySem.W.codeIn K cdv qual = true) (k : PySem.W.keepIn K (.ref f) = true)
    (mk : PySem.W.makesIn K C = true) (kC : PySem.W.keepIn K (.ref C) = true)
    (b : ∀ (kV doc pm : Value) (an : Option Addr) (cdv ct : Value) (us : List Value), us.length = ps.length → bindArgs (PySem.W.fnOf "__init__" qual (defArgs st) (defBody st) (defScope st) .none kV doc pm an cdv ct) ⟨us, []⟩ = pure (ps.zip us)) : IDef K C qual st ps :=
  ⟨⟨f, _, ⟨mk, a, n, kC⟩, fun_mk l c k, (fun_mk l c k).binds b⟩⟩
section
variable {P : Program} {w : World} {K : PySem.W.Frag} {mg : Str → Option Value} {base : Heap} {C : Addr}
theorem MDef.knows {CX : CXT} {m qual : Str} {st : Stmt} {ps : List Str} {k : Nat} {sp : Sp} (D : MDef K C m qual st ps) (h : ∀ f fd, Fun K m qual st f fd → FnOk P w K mg base CX k f fd ps sp) : KnowsM CX P w K mg base k C m ps sp := by
  obtain ⟨f, fd, hm, F, hb⟩ := D.ex
  exact ⟨f, fd, hm, hb, h f fd F⟩
theorem IDef.knows {CX : CXT} {qual : Str} {st : Stmt} {ps : List Str} {k : Nat} {sp : Sp} (D : IDef K C qual st ps) (h : ∀ f fd, Fun K "__init__" qual st f fd → FnOk P w K mg base CX k f fd ps sp) : KnowsI CX P w K mg base k C ps sp := by
  obtain ⟨f, fd, hm, F, hb⟩ := D.ex
  exact ⟨f, fd, hm, hb, h f fd F⟩
end
end L2

set_option Elab.async false
set_option linter.all false
set_option maxRecDepth 100000
namespace L2
open PySem PySem.Spec PyProof.Rows
section
variable {X : Cx}
end
end L2

set_option Elab.async false
set_option linter.all false
set_option maxRecDepth 100000
namespace L2
open PySem PySem.Spec PyProof.Rows
set_option maxHeartbeats 1000000 in
/-- what is known of the block's own dict at its end -/
structure CEnd (X : Cx) (pins : List (Addr × Obj)) (H : Hp) (C : Addr) : Prop where
  no : H C = none
  ne : C ≠ X.env.locals
  new : X.s₀.heap.objs.size ≤ C
  cl : ∀ x c, X.env.cells.lookup x = some c → c ≠ C
  pn : ∀ p ∈ X.pn ++ pins, p.1 ≠ C
end L2

set_option Elab.async false
set_option linter.all false
set_option maxRecDepth 100000
set_option maxHeartbeats 1000000
namespace L2
open PySem PySem.Spec PyProof.Rows
/-! ### for x, y in zip(t, u), t and u tuples -/
section
variable {P : Program} {w : World} {A : Around} {E : Value → Shared → Prop} {s : Shared}
end
end L2

set_option Elab.async false
set_option linter.all false
set_option maxRecDepth 100000
set_option maxHeartbeats 3200000
namespace L2
open PySem PySem.Spec PyProof.Rows
/-! ### the unlike ones of a row of keys -/
section
variable {P : Program} {w : World} {A : Around} {R : Result → Shared → Prop} {I : Addr} {fp wr : List Addr} {G : Array GenState → Array GenState → Prop} {n : Nat} {Pr : Nat → Value → Prop} {St : Nat → Shared → Prop}
end
section
variable {P : Program} {w : World} {A : Around} {E : Value → Shared → Prop} {s : Shared}
end
end L2

set_option Elab.async false
set_option linter.all false
set_option maxRecDepth 100000
set_option maxHeartbeats 1000000
namespace L2
open PySem PySem.Spec PyProof.Rows
/-! ### len(set(l)), sum(l), list(range(n)), l[a:b:c] -/
section
variable {X : Cx} {e l : Expr} {te tl : TE} {p pos p2 pos2 : Pos}
variable {lo hi : Option Expr} {st : Expr} {t1 t2 t3 : TO}
end
/-! ### isinstance(x, (T, ..)) -/
section
variable {X : Cx} {pins : List (Addr × Obj)} {σ : St} {H : Hp} {s : Shared}
end
end L2

set_option Elab.async false
set_option linter.all false
set_option maxRecDepth 100000
set_option maxHeartbeats 1000000
namespace L2
open PySem PySem.Spec PyProof.Rows
/-! ### a class of the text that is called with keywords, defaults left out -/
section
variable {P : Program} {w : World} {K : PySem.W.Frag} {mg : Str → Option Value} {base : Heap}
end
section
variable {X : Cx} {CX : CXT} {x : Str} {ps ks : List Str} {sp : Sp} {j k np : Nat} {T : List Bi} {e : Expr} {es : List Expr} {kws : List Keyword} {t tk : TA} {p pos : Pos} {E : XK} {C f : Addr} {fd : FuncData} {Bs : PySem.W.Frag → FuncData → Prop}
end
end L2

set_option Elab.async false
set_option linter.all false
set_option maxRecDepth 100000
set_option maxHeartbeats 3200000
namespace L2
open PySem PySem.Spec PyProof.Rows
/-! ### dict(l), l a list of pairs -/
section
variable {P : Program} {w : World} {A : Around} {E : Value → Shared → Prop} {s : Shared}
end
namespace F
end F
section
variable {P : Program} {w : World} {A : Around} {R : Result → Shared → Prop} {I : Addr} {fp wr : List Addr} {G : Array GenState → Array GenState → Prop} {n : Nat} {Pr : Nat → Value → Prop} {St : Nat → Shared → Prop}
end
section
variable {P : Program} {w : World} {A : Around} {E : Value → Shared → Prop} {s : Shared}
end
section
variable {X : Cx}
end
end L2

set_option Elab.async false
set_option linter.all false
set_option maxRecDepth 100000
set_option maxHeartbeats 1000000
namespace L2
open PySem PySem.Spec PyProof.Rows
section
variable {X : Cx}
theorem boot_sorted' : bootBuiltins "sorted" = some (.builtin "sorted") := by kernel_rfl
end
/-! ### isinstance(x, C), C a class of the text -/
section
variable {X : Cx} {pins : List (Addr × Obj)} {σ : St} {H : Hp} {s : Shared}
end
end L2

set_option Elab.async false
set_option linter.all false
set_option maxRecDepth 100000
namespace L2
open PySem PySem.Spec PyProof.Rows
end L2

set_option Elab.async false
set_option linter.all false
set_option maxRecDepth 100000
namespace L2
open PySem PySem.Spec PyProof.Rows
/-! ### a method of an object whose class is one of some -/
section
variable {X : Cx} {CX : CXT} {ι : Type} {c : ι → Addr} {m : Str} {ps : List Str} {sp : ι → Sp} {j k : Nat} {o e : Expr} {es : List Expr} {ta : TE} {t : TA} {apos pos : Pos} {E : XK}
end
/-! ### a comprehension over a list of pairs, with a test -/
end L2

set_option Elab.async false
set_option linter.all false
set_option maxRecDepth 100000
namespace L2
open PySem PySem.Spec PyProof.Rows
/-! ### what is being handled, if anything is, has no context of its own -/
def Quiet (A : Around) (h : Heap) : Prop := A.handled = none ∨ ∃ (a : Addr) (o : Obj) (fs : Array Value), A.handled = some (.ref a) ∧ h.get? a = some o ∧ o.data = .fields fs ∧ fs[2]? = some .none
theorem Quiet.ext {A : Around} {h h' : Heap} (q : Quiet A h) (e : ∀ a o, A.handled = some (.ref a) → h.get? a = some o → h'.get? a = some o) : Quiet A h' := by
  rcases q with q | ⟨a, o, fs, a1, a2, a3, a4⟩
  · exact .inl q
  · exact .inr ⟨a, o, fs, a1, e a o a1 a2, a3, a4⟩
theorem Quiet.in1 {A : Around} {h : Heap} (q : Quiet A h) : Quiet A.in1 h := q
theorem entry_unchain : entryFor table "proto.unchain" = some Builtin.«proto.unchain» := by kernel_rfl
section
variable {prog : Program} {w : World} {A : Around} {E : Value → Shared → Prop} {s : Shared}
theorem raiseNewQ {α : Type} {x : Addr} {ox : Obj} {vs : Array Value} {Q : α → Shared → Prop} (hq : Quiet A s.heap) (hx : s.heap.get? x = some ox) (hd : ox.data = .fields vs) (h3 : 2 < vs.size) (hne : A.handled ≠ some (.ref x))
    (hE : ∀ h', Heap.SameBut x s.heap h' → (∃ o', h'.get? x = some o' ∧ o'.cls = ox.cls) → E (.ref x) { s with heap := h' }) : wpAny (model prog w) A (raiseNew (.ref x) : Sem α) Q E s := by
  simp only [raiseNew]
  refine wpAny_bind (wpAny_handled ?_)
  rcases hq with q | ⟨a, o, fs, a1, a2, a3, a4⟩
  · rw [q]
    exact wpAny_bind (wpAny_pure (wpAny_throw (hE s.heap (Heap.SameBut.refl ..) ⟨_, hx, rfl⟩)))
  · rw [a1]
    have hax : a ≠ x := fun z => hne (by rw [a1, z])
    have hb : ((Value.ref a) != (Value.ref x)) = true := by
      rw [bne_iff_ne]
      exact fun z => hax (by injection z)
    dsimp only
    rw [if_pos hb]
    refine wpAny_bind (wpAny_holding (wpAny_runValue ?_))
    refine codeAny_builtin entry_unchain ?_
    show wpAny _ _ (field (.ref a) 2 >>= _) _ _ s
    refine wpAny_bind (wpAny_field a2 a3 a4 ?_)
    show wpAny _ _ (ret Value.none) _ _ s
    refine wpAny_pure ?_
    refine wpAny_bind ?_
    simp only [updateField]
    refine wpAny_bind (wpAny_load hx ?_)
    rw [hd]
    dsimp only
    rw [if_pos h3]
    exact wpAny_update hx (wpAny_throw (hE _ (Heap.SameBut.update ..) ⟨_, Heap.get?_update_self _ hx (Obj.isFreed_of_fields (Obj.data_mapFields hd _)), Obj.cls_mapFields ..⟩))
end
end L2

set_option Elab.async false
set_option linter.all false
set_option maxRecDepth 100000
namespace L2
open PySem PySem.Spec PyProof.Rows
/-! ### an exception that is being handled, tracked -/
/-- an exception without a dict and without a context, of the class at C -/
def ExcO (a C : Addr) : HO := .ext fun h => ∃ o fs, h.get? a = some o ∧ o.cls = .ref C ∧ o.data = .fields fs ∧ fs[2]? = some Value.none ∧ o.dict = none
theorem exc_ok {P : Program} {w : World} {H : Hp} {h : Heap} {a C : Addr} (c : Ctx0 a h) (hc : ∃ o, h.get? a = some o ∧ o.cls = .ref C) : ObjOk P w H h a (ExcO a C) := by
  obtain ⟨o, fs, e, d, g, k⟩ := c
  obtain ⟨o', e', q⟩ := hc
  rw [e] at e'; cases e'
  refine ⟨⟨o, fs, e, q, d, g, k⟩, ⟨o, e⟩, fun h1 h2 p st => ?_⟩
  obtain ⟨o, fs, e, rest⟩ := p
  exact ⟨o, fs, st o e, rest⟩
theorem exc_at {P : Program} {w : World} {H : Hp} {h : Heap} {a C : Addr} (ok : HOk P w H h) (e : H a = some (ExcO a C)) : ∃ o fs, h.get? a = some o ∧ o.cls = .ref C ∧ o.data = .fields fs ∧ fs[2]? = some Value.none ∧ o.dict = none := (ok a _ e).1
/-- what of the text an exception's class must have -/
structure ECls (K : PySem.W.Frag) (C : Addr) : Prop where
  ga : PySem.W.findIn K (.ref C) "__getattribute__" = some (some (.builtin "BaseException.__getattribute__"))
  gh : PySem.W.findIn K (.ref C) "__getattr__" = some none
  be : PySem.W.mroIn K C (.type "BaseException") = some true
  hd : PySem.W.hasDictIn K C = true
  ha : PySem.W.findIn K (.ref C) "__class__" = some (some (.builtin "object.__class__"))
  hm : PySem.W.mroIn K C (.type "object") = some true
structure ECls0 (K : PySem.W.Frag) : Prop where
  hn : PySem.W.specialIn K (.builtin "object.__class__") "__get__" = some (some (.builtin "getset_descriptor.__get__"))
  htk : PySem.W.takesIn K (.builtin "object.__class__") = some true
theorem exc_class {prog : Program} {w : World} {A : Around} {E : Value → Shared → Prop} {s : Shared} {K : PySem.W.Frag} {x C : Addr} {ox : Obj} {Q : Option Value → Shared → Prop} (X : K.In s.heap) (I : PySem.W.InstAt s.heap x ox C none) (c : ECls K C) (c0 : ECls0 K)
    (q : Q (some (.ref C)) { s with toks := s.toks + 1 }) : wpAny (model prog w) A (getAttr? (.ref x) "__class__") Q E s := by
  obtain ⟨cd, hcd, _⟩ := PySem.W.any_some c.hd
  have hf : PySem.W.findObj K C none "__class__" = some (.bind (.builtin "getset_descriptor.__get__") (.builtin "object.__class__")) := by
    unfold PySem.W.findObj
    rw [hcd, Option.bind_some, c.ha, Option.bind_some]
    simp [c0.hn, c0.htk]
  obtain ⟨hh, g, d, t, os⟩ := s
  have L0 := I.type (M := model prog w)
  have L1 := PySem.W.looks_findIn (M := model prog w) X c.ga
  have LH : PySem.W.Looks (model prog w) hh (hookBefore (.ref C)) none := PySem.W.looks_hook X (by exact c.gh)
  have L2 := PySem.W.looks_find (M := model prog w) X I hf
  unfold getAttr? getAttrBy? getAttrBy
  refine wpAny_bind (wpAny_mkText (wpAny_bind (wpAny_attempt (wpAny_holding (wpAny_bind (L0.at (wpAny_bind (L1.at ?_))))))))
  dsimp only
  rw [show (onTheHeap (Value.ref C) && Value.builtin "BaseException.__getattribute__" == Value.builtin "object.__getattribute__") = false from by rw [show (Value.builtin "BaseException.__getattribute__" == Value.builtin "object.__getattribute__") = false from by decide +kernel, Bool.and_false], if_neg (by decide)]
  unfold getAttrByItsOwn
  refine wpAny_bind (LH.at (wpAny_bind (wpAny_attempt (wpAny_holding ?_))))
  unfold callGetattribute
  rw [show (false && onTheHeap (Value.builtin "BaseException.__getattribute__")) = false from rfl, if_neg (by decide)]
  unfold boundAndCalled
  rw [F.excAttr_ValueError.ga.bind]
  refine wpAny_bind (wpAny_pure ?_)
  show wpAny _ _ (call (.builtin "BaseException.__getattribute__") [.ref x, .str "__class__" t]) _ _ _
  refine wpAny_call ?_
  refine codeAny_call_builtin F.excAttr_ValueError.ga.plain F.entry_bexc_ga ?_
  refine @PySem.W.check_slot (model prog w) _ _ { heap := hh, gens := g, drawn := d, toks := t + 1, os := os } "BaseException.__getattribute__" "BaseException" "__getattribute__" (.ref x) [.str "__class__" t] [] _ (by decide +kernel) (by decide +kernel) (L0.andThen (PySem.W.looks_subIn X c.be)) (F.args_bexc_ga _ _) ?_
  unfold Builtin.«object.__getattribute__»
  refine wpAny_bind (wpAny_pure (wpAny_bind (wpAny_pure (wpAny_bind (L0.at (wpAny_bind (L2.at ?_)))))))
  show wpAny _ _ (holding [.builtin "object.__class__"] (call (.builtin "getset_descriptor.__get__") [.builtin "object.__class__", .ref x, .ref C]) >>= ret) _ _ _
  refine wpAny_bind (wpAny_holding (wpAny_call (PySem.W.class_get (s := { heap := hh, gens := g, drawn := d, toks := t + 1, os := os }) (ox := ox) (od := none) X I c.hm ?_)))
  refine wpAny_pure ?_
  exact PySem.W.handed_on rfl (wpAny_pure q)
theorem kitx_exc {K : PySem.W.Frag} {a C : Addr} (c : ECls K C) (c0 : ECls0 K) : PySem.W.KitX K (.ref a) (.ref C) (fun h => ∃ ox, PySem.W.InstAt h a ox C none) := by
  obtain ⟨cd, hcd, _⟩ := PySem.W.any_some c.hd
  have hc : ∃ o, K.lookup C = some o ∧ ∃ d, o.data = .cls d := by
    unfold PySem.W.clsIn at hcd
    split at hcd
    · rename_i ho
      exact ⟨_, ho, _, rfl⟩
    · cases hcd
  obtain ⟨oc, hl, dc, hdc⟩ := hc
  refine ⟨fun M h X p => ?_, fun M h X p => ?_, fun h tp dd its n sl X htp => ?_, fun {prog w A E Q s} X p q => ?_⟩
  · obtain ⟨ox, I⟩ := p
    exact I.type
  · intro A' Q' E' s' k q
    unfold isType loadHead
    refine wpAny_bind (wpAny_loadPart (k _ _ (X _ _ hl)) ?_)
    rw [hdc]
    exact wpAny_pure q
  · refine Bool.eq_false_iff.mpr fun q => ?_
    have e : C = tp := Value.ref.inj (beq_iff_eq.mp q)
    subst e
    have z := (X _ _ hl).symm.trans htp
    injection z with z
    rw [z] at hdc
    cases hdc
  · obtain ⟨ox, I⟩ := p
    exact exc_class X I c c0 q
section
variable {X : Cx}
/-- isinstance(e, D), e an exception, D a class of the text or a built-in one -/
def rIsiE (K : PySem.W.Frag) (D : Value) (vD : V) : List V → Hp → VK → Prop := fun xs H Q => ∃ a C b, xs = [.ref a, vD] ∧ H a = some (ExcO a C) ∧ ECls K C ∧ PySem.W.kitOne K (.ref C) D = some b ∧ Q (.bl b) H
theorem call_isiE {D : Value} {vD : V} (hD : ∀ u, RelV vD u → u = D) (c0 : ECls0 X.K) : CallR X (.builtin "isinstance") (rIsiE X.K D vD) := by
  intro pins s σ H xs us Q I r h
  obtain ⟨a, C, b, rfl, e, c, kit, q⟩ := h
  cases r with
  | cons rx rest =>
  obtain ⟨u, rfl, ru⟩ := Vals.one rest
  cases hD _ ru
  cases rx
  obtain ⟨o, fs, e1, e2, e3, e4, e5⟩ := exc_at I.hok e
  refine PySem.W.kia_one (kitx_exc c c0) I.kIn ⟨o, e1, e2, ?_, ?_⟩ kit (fun z => nomatch z) fun tk => ⟨.bl b, H, I.tok _, rfl, q⟩
  · unfold PySem.W.notCls
    rw [e3]
  · rw [e5]
    trivial
end
end L2

set_option Elab.async false
set_option linter.all false
set_option maxRecDepth 100000
namespace L2
open PySem PySem.Spec PyProof.Rows
section
variable {prog : Program} {w : World} {A : Around} {E : Value → Shared → Prop} {s : Shared}
/-- StopIteration is raised: what it leaves -/
theorem stopQ {α : Type} {Q : α → Shared → Prop} (hq : Quiet A s.heap) (hlt : ∀ a, A.handled = some (.ref a) → a < s.heap.objs.size)
    (hE : ∀ x h', s.heap.objs.size ≤ x → (∀ b o, s.heap.get? b = some o → h'.get? b = some o) → (∃ o', h'.get? x = some o' ∧ o'.cls = .type "StopIteration") → E (.ref x) { s with heap := h' }) :
    wpAny (model prog w) A (newExc (.type "StopIteration") [] >>= fun e => (raiseNew e : Sem α)) Q E s := by
  have ht : (s.heap.push { cls := Value.type "tuple", data := Data.seq #[] }).objs.size = s.heap.objs.size + 1 := by simp [Heap.push]
  have none_ : firstArgMember (.type "StopIteration") [] = pure Value.none := by first | rfl | (simp only [firstArgMember]; rfl)
  refine wpAny_bind ?_
  simp only [newExc, newTuple]
  refine wpAny_bind (wpAny_newObj_type (wpAny_bind (m := firstArgMember _ _) (wpAny_of_eq none_ (wpAny_newObj_type ?_ (by size_fits)))) (by size_fits))
  refine raiseNewQ (hq.ext fun a o h1 h2 => Heap.get?_push_of_some _ (Heap.get?_push_of_some _ h2)) (Heap.get?_push_size _ rfl) rfl (show 2 < 6 by decide) (fun z => ?_) fun h' sb ho => ?_
  · have h3 : (s.heap.push { cls := Value.type "tuple", data := Data.seq #[] }).objs.size < s.heap.objs.size := hlt _ z
    omega
  · obtain ⟨o', h1, h2⟩ := ho
    refine hE _ h' ?_ (fun b o e => ?_) ⟨o', h1, h2⟩
    · show s.heap.objs.size ≤ (s.heap.push { cls := Value.type "tuple", data := Data.seq #[] }).objs.size
      omega
    · exact (sb.2 b (Nat.ne_of_lt (Nat.lt_of_lt_of_le (Heap.lt_size e) (by rw [ht]; exact Nat.le_succ _)))).trans (Heap.get?_push_of_some _ (Heap.get?_push_of_some _ e))
/-- the iterator at it has come to its end: its sequence is let go, StopIteration is raised -/
theorem letGoQ {it : Addr} {o : Obj} {fs : Array Value} {x : Value} {Q : Option Value → Shared → Prop} {α : Type} {Q0 : α → Shared → Prop} (hq : Quiet A s.heap) (hni : A.handled ≠ some (.ref it)) (hlt : ∀ a, A.handled = some (.ref a) → a < s.heap.objs.size) (ho : s.heap.get? it = some o) (hd : o.data = .fields fs) (h0 : 0 < fs.size)
    (hE : ∀ x h', Heap.ExtBut it s.heap h' → (∃ o', h'.get? x = some o' ∧ o'.cls = .type "StopIteration") → E (.ref x) { s with heap := h' }) :
    wpAny (model prog w) A (setField (.ref it) 0 x >>= fun _ => newExc (.type "StopIteration") [] >>= fun e => (raiseNew e : Sem α)) Q0 E s := by
  refine wpAny_bind (wpAny_setField ho hd h0 (stopQ (hq.ext fun a oa h1 h2 => ?_) (fun a ha => ?_) fun y h' hx1 hx2 hx3 => ?_))
  · exact ((Heap.SameBut.update ..).2 a fun z => hni (by rw [← z]; exact h1)).trans h2
  · show a < (Heap.update _ _ _).objs.size
    rw [show (Heap.update s.heap it _).objs.size = s.heap.objs.size by simp [Heap.update]]
    exact hlt a ha
  · exact hE y h' (fun b ob hb e => hx2 b ob (((Heap.SameBut.update ..).2 b hb).trans e)) hx3
theorem list_endQ {it l : Addr} {i : Nat} {items : Array Value} {Q : Option Value → Shared → Prop} (hq : Quiet A s.heap) (hni : A.handled ≠ some (.ref it)) (hlt : ∀ a, A.handled = some (.ref a) → a < s.heap.objs.size)
    (hit : s.heap.IsListIter it l i) (hl : s.heap.IsList l items) (hx : items[i]? = none)
    (hQ : ∀ h', Heap.ExtBut it s.heap h' → Q none { s with heap := h' }) : wpAny (model prog w) A (pyNext (.ref it)) Q E s := by
  have ty := hit.typeIs
  obtain ⟨o, ho, hc, hd⟩ := hit
  obtain ⟨ol, hol, _, nl, hdl⟩ := hl
  unfold pyNext
  refine wpAny_bind (wpAny_attempt ?_)
  refine wpAny_callSpecial?_slot (name := Str.ofString "__next__") ty slot_listiter_next ?_
  refine wpAny_call_entry slot_listiter_next ty entry_listiter_next ?_ (args_listiter_next _)
  refine (show wpAny (model prog w) A.in1 (field (.ref it) 0 >>= _) _ _ s from wpAny_bind (wpAny_field (x := .ref l) ho hd rfl ?_))
  have nn : ¬ ((Value.ref l == Value.none) = true) := by simp
  dsimp only
  rw [if_neg nn]
  refine wpAny_bind (wpAny_field (x := .int i 0) ho hd rfl ?_)
  refine wpAny_bind (wpAny_seqItems hol hdl ?_)
  simp only [Int.toNat_natCast, hx]
  refine wpAny_bind (wpAny_rule ?_)
  refine letGoQ (Q := Q) hq.in1 hni hlt ho hd (show 0 < 2 by decide) fun y h' ext ⟨o', g1, g2⟩ => ?_
  exact wpAny_bind (wpAny_isInstance (T := "StopIteration") (b := true) ⟨o', g1, g2⟩ isSubtype_stop (wpAny_pure (hQ _ ext)))
theorem tup_endQ {it t : Addr} {i : Nat} {items : Array Value} {Q : Option Value → Shared → Prop} (hq : Quiet A s.heap) (hni : A.handled ≠ some (.ref it)) (hlt : ∀ a, A.handled = some (.ref a) → a < s.heap.objs.size)
    (hit : IsTupIter s.heap it t i) (ht : IsTup s.heap t items) (hx : items[i]? = none)
    (hQ : ∀ h', Heap.ExtBut it s.heap h' → Q none { s with heap := h' }) : wpAny (model prog w) A (pyNext (.ref it)) Q E s := by
  have ty := hit.typeIs
  obtain ⟨o, ho, hc, hd⟩ := hit
  obtain ⟨ol, hol, _, nl, hdl⟩ := ht
  unfold pyNext
  refine wpAny_bind (wpAny_attempt ?_)
  refine wpAny_callSpecial?_slot (name := Str.ofString "__next__") ty slot_tupleiter_next ?_
  refine wpAny_call_entry slot_tupleiter_next ty entry_tupleiter_next ?_ (args_tupleiter_next _)
  refine (show wpAny (model prog w) A.in1 (field (.ref it) 0 >>= _) _ _ s from wpAny_bind (wpAny_field (x := .ref t) ho hd rfl ?_))
  have nn : ¬ ((Value.ref t == Value.none) = true) := by simp
  dsimp only
  rw [if_neg nn]
  refine wpAny_bind (wpAny_field (x := .int i 0) ho hd rfl ?_)
  refine wpAny_bind (wpAny_seqItems hol hdl ?_)
  simp only [Int.toNat_natCast, hx]
  refine wpAny_bind (wpAny_rule ?_)
  refine letGoQ (Q := Q) hq.in1 hni hlt ho hd (show 0 < 2 by decide) fun y h' ext ⟨o', g1, g2⟩ => ?_
  exact wpAny_bind (wpAny_isInstance (T := "StopIteration") (b := true) ⟨o', g1, g2⟩ isSubtype_stop (wpAny_pure (hQ _ ext)))
/-- a tuple taken apart -/
theorem unpackQ {t : Addr} {items : Array Value} {targets : List (Bool × (Value → Sem Unit))} {Q : Unit → Shared → Prop} (hq : Quiet A s.heap) (hlt : ∀ a, A.handled = some (.ref a) → a < s.heap.objs.size) (ht : IsTup s.heap t items)
    (hn : targets.length = items.size) (hstar : targets.findIdx? (·.1) = none)
    (h : ∀ h', Heap.ExtBut s.heap.objs.size s.heap h' → wpAny (model prog w) A (assignInOrder (targets.map (·.2)) items.toList) Q E { s with heap := h' }) : wpAny (model prog w) A (unpack (.ref t) targets) Q E s := by
  have hne : t ≠ s.heap.objs.size := by obtain ⟨o, ho, _⟩ := ht; exact Nat.ne_of_lt (Heap.lt_size ho)
  have new : ∀ a, A.handled = some (.ref a) → a ≠ s.heap.objs.size := fun a ha => Nat.ne_of_lt (hlt a ha)
  have all : List.take items.size (List.drop 0 items.toList) = items.toList := by rw [List.drop_zero]; exact List.take_of_length_le (by simp)
  unfold unpack unpackItems notIterableAtAll
  rw [hn, hstar]
  refine wpAny_bind (wpAny_holding (wpAny_bind (wpAny_bind (wpAny_specialOf ht.typeIs slot_tuple_iter.lookup (wpAny_pure ?_)))))
  simp only [Bool.false_eq_true, if_false]
  refine wpAny_bind (wpAny_holding (iter_tuple ht (wpAny_bind (wpAny_holding (draw_tuple hne items.size 0 _ _ ⟨_, Heap.get?_push_size _ rfl, rfl, rfl⟩ (ht.push _) (by omega) fun h1 hit1 hs1 => ?_)))))
  rw [all, if_neg (by simp)]
  have q1 : Quiet A h1 := hq.ext fun a o ha e => hs1.extBut a o (new a ha) (Heap.get?_push_of_some _ e)
  have l1 : ∀ a, A.handled = some (.ref a) → a < h1.objs.size := fun a ha => by
    rcases q1 with z | ⟨a', o', fs', z, e, _⟩
    · rw [z] at ha; cases ha
    · rw [z] at ha
      cases ha
      exact Heap.lt_size e
  refine wpAny_bind (wpAny_holding (tup_endQ (s := { s with heap := h1 }) q1 (fun z => new _ z rfl) l1 hit1 ((ht.push _).extBut hs1.extBut hne) (by simp) fun h2 he2 => ?_))
  simp only [Option.isSome_none, Bool.false_eq_true, if_false]
  exact wpAny_pure (h h2 fun b o hb e => he2 b o hb (hs1.extBut b o hb (Heap.get?_push_of_some _ e)))
end
/-! ### the exception that is handled is tracked -/
def HQ (A : Around) (H : Hp) : Prop := ∃ a C, A.handled = some (.ref a) ∧ H a = some (ExcO a C)
section
variable {X : Cx} {pins : List (Addr × Obj)} {σ : St} {H : Hp} {s : Shared}
theorem HQ.quiet (q : HQ X.A H) (I : Inv X pins σ H s) : Quiet X.A s.heap := by
  obtain ⟨a, C, h1, h2⟩ := q
  obtain ⟨o, fs, e1, e2, e3, e4, e5⟩ := exc_at I.hok h2
  exact .inr ⟨a, o, fs, h1, e1, e3, e4⟩
theorem HQ.lt (q : HQ X.A H) (I : Inv X pins σ H s) : ∀ a, X.A.handled = some (.ref a) → a < s.heap.objs.size := by
  obtain ⟨a, C, h1, h2⟩ := q
  obtain ⟨o, fs, e1, _⟩ := exc_at I.hok h2
  intro b hb
  rw [h1] at hb; cases hb
  exact Heap.lt_size e1
theorem HQ.ne {A : Around} {it : Addr} (q : HQ A H) (h : H it = none) : A.handled ≠ some (.ref it) := by
  obtain ⟨a, C, h1, h2⟩ := q
  intro z
  rw [h1] at z; cases z
  rw [h2] at h; cases h
theorem HQ.same {A : Around} {H' : Hp} (q : HQ A H) (e : Same H H') : HQ A H' := by
  obtain ⟨a, C, h1, h2⟩ := q
  exact ⟨a, C, h1, e _ _ h2⟩
/-- (a, b, ..) = a tuple of that length -/
def gTupQ (A : Around) (K : PySem.W.Frag) (n : Nat) (t : TGs) : TG := fun v σ H Q => HQ A H ∧ gTup K n t v σ H Q
theorem pg_tupQ {K0 : PySem.W.Frag} {es : List Expr} {k : Nat} {t : TGs} {n : Nat} {pos : Pos} (hK : X.K = K0) (h : PGs X es t)
    (hn : (assignEach es X.env).length = n := by rfl) (hst : (assignEach es X.env).findIdx? (·.1) = none := by rfl) : PG X (.Tuple es k pos) (gTupQ X.A K0 n t) := by
  subst hK
  intro pins s σ H v u Q I r hw
  obtain ⟨hq, a, xs, e1, hs, hl, hw⟩ := hw
  subst e1
  cases r
  obtain ⟨its, rv, ht, hz⟩ := I.tuple hs
  rw [assign_Tuple]
  refine wpAny_bind (wpAny_standAt (unpackQ (hq.quiet I) (hq.lt I) ht (by simp [hn, ← hl, rv.length]) hst fun h' hx => ?_))
  exact h pins _ σ H xs _ Q (I.kept (t' := s.toks) fun b o e => hx b o (Nat.ne_of_lt (Heap.lt_size e)) e) (by simpa using rv) hw
end
end L2

set_option Elab.async false
set_option linter.all false
set_option maxRecDepth 100000
namespace L2
open PySem PySem.Spec PyProof.Rows
/-! ### comprehensions where an exception is handled -/
structure TurnQ (P : Program) (w : World) (K : PySem.W.Frag) (A0 : Around) (tg : Expr) (J : It) (fp : List Addr) (it : Addr) (tn : Nat → Heap → Prop) : Prop where
  mem : it ∈ fp
  obj : ∀ i h, tn i h → ∀ b ∈ fp, ∃ o, h.get? b = some o ∧ ∀ v, o.data ≠ .cell v
  keep : ∀ i h h', tn i h → (∀ b ∈ fp, ∀ o, h.get? b = some o → h'.get? b = some o) → tn i h'
  item : ∀ (X : Cx), X.prog = P → X.w = w → X.K = K → X.A = A0 → ∀ (i : Nat) (pins : List (Addr × Obj)) (s : Shared) (σ : St) (H : Hp) (E : Value → Shared → Prop), Inv X pins σ H s → (∀ b ∈ fp, FpOk X pins H b) → tn i s.heap → J.go i H →
    wpAny (model P w) X.A (pyNext (.ref it)) (fun r s1 => ∃ u, r = some u ∧
      wpAny (model P w) X.A (letOwnedTupleGo tg (.ref it) u) (fun _ s2 => ∃ x H', Inv X pins σ H' s2 ∧ RelV x u ∧ J.yld i H x H' ∧ tn (i + 1) s2.heap ∧ ∀ b ∈ fp, H' b = none) E s1) E s
  done : ∀ (X : Cx), X.prog = P → X.w = w → X.K = K → X.A = A0 → ∀ (i : Nat) (pins : List (Addr × Obj)) (s : Shared) (σ : St) (H : Hp) (E : Value → Shared → Prop), Inv X pins σ H s → (∀ b ∈ fp, FpOk X pins H b) → tn i s.heap → J.stop i H →
    wpAny (model P w) X.A (pyNext (.ref it)) (fun r s1 => r = none ∧ Inv X pins σ H s1) E s
  self : ∀ (A : Around) (i : Nat) (s : Shared) (Q : Value → Shared → Prop) (E : Value → Shared → Prop), tn i s.heap → Q (.ref it) s → wpAny (model P w) A (pyIter (.ref it)) Q E s
def PIEQ (X : Cx) (pins : List (Addr × Obj)) (σ : St) (tg : Expr) (R : It → Hp → Prop) (itv : Value) (s2 : Shared) : Prop :=
  ∃ (it : Addr) (fp : List Addr) (tn : Nat → Heap → Prop) (J : It) (H' : Hp), itv = .ref it ∧ Inv X pins σ H' s2 ∧ TurnQ X.prog X.w X.K X.A tg J fp it tn ∧ tn 0 s2.heap ∧ (∀ b ∈ fp, FpOk X pins H' b) ∧ R J H'
def PIQ (X : Cx) (tg iter : Expr) (wi : TI) : Prop :=
  ∀ (pins : List (Addr × Obj)) (s : Shared) (σ : St) (H : Hp) (R : It → Hp → Prop), Inv X pins σ H s → wi σ H R →
    wpAny (model X.prog X.w) X.A (eval iter X.env) (fun v s1 => wpAny (model X.prog X.w) X.A (pyIter v) (PIEQ X pins σ tg R) X.xe s1) X.xe s
/-- the list at a, where an exception is handled -/
def Itq (K : PySem.W.Frag) (A : Around) (a : Addr) : It := ⟨(Itl K a).go, (Itl K a).yld, fun i H => (Itl K a).stop i H ∧ HQ A H⟩
theorem turn_listQ {P : Program} {w : World} {K : PySem.W.Frag} {A0 : Around} {tg : Expr} (a it : Addr) : TurnQ P w K A0 tg (Itq K A0 a) [it] it (fun i h => h.IsListIter it a i) where
  mem := (turn_list (P := P) (w := w) (K := K) (tg := tg) a it).mem
  obj := (turn_list (P := P) (w := w) (K := K) (tg := tg) a it).obj
  keep := (turn_list (P := P) (w := w) (K := K) (tg := tg) a it).keep
  item := by
    intro X hP hw hK hA i pins s σ H E I hf st hg
    subst hP hw hK
    obtain ⟨xs, x, hq, hx⟩ := hg
    obtain ⟨its, rv, p, hz⟩ := I.list hq
    obtain ⟨u, hu, ru⟩ := rv.get hx
    obtain ⟨f0, f1, f2, f3, f4, f5⟩ := hf it (by simp)
    refine wpAny_pyNext_list_item st p.isList (x := u) (by simpa using hu) fun h' st' sb => ?_
    have I1 : Inv X pins σ H { s with heap := h' } := I.turned (t' := s.toks) (fun b o hb e => (sb.2 b hb).trans e) f0 f1 f3 f4 f5
    obtain ⟨o, e, c, d⟩ := id st'
    exact ⟨u, rfl, go_of (s := { s with heap := h' }) e c d (by decide) ⟨x, H, I1, ru, ⟨rfl, fun ys hy => by rw [I.list_inj hy hq]; exact hx⟩, st', fun b hb => (hf b hb).1⟩⟩
  done := by
    intro X hP hw hK hA i pins s σ H E I hf st hg
    subst hP hw hK hA
    obtain ⟨⟨xs, hq, hx⟩, hQ⟩ := hg
    obtain ⟨its, rv, p, hz⟩ := I.list hq
    obtain ⟨f0, f1, f2, f3, f4, f5⟩ := hf it (by simp)
    have hl := rv.length
    exact list_endQ (hQ.quiet I) (hQ.ne f0) (hQ.lt I) st p.isList (by simp; omega) fun h' eb => ⟨rfl, I.turned (t' := s.toks) (fun b o hb e => eb b o hb e) f0 f1 f3 f4 f5⟩
  self := (turn_list (P := P) (w := w) (K := K) (tg := tg) a it).self
def iListQ (K : PySem.W.Frag) (A : Around) (tl : TE) : TI := fun σ H R => tl σ H fun x H1 => ∃ a, x = .ref a ∧ (∃ xs, SqL K H1 a xs) ∧ R (Itq K A a) H1
theorem pi_listQ {X : Cx} {tg l : Expr} {tl : TE} (hl : PE X l tl) : PIQ X tg l (iListQ X.K X.A tl) := by
  intro pins s σ H R I h
  refine thn (hl pins s σ H _ I h) fun v s1 ⟨x, H1, I1, r1, q1⟩ => ?_
  obtain ⟨a, e, ⟨xs, hq⟩, q⟩ := q1
  subst e
  cases r1
  obtain ⟨its, rv, p, hz⟩ := I1.list hq
  refine wpAny_pyIter_list p.isList ?_
  refine ⟨s1.heap.objs.size, [s1.heap.objs.size], _, _, H1, rfl, I1.kept (t' := s1.toks) fun b o e => Heap.get?_push_of_some _ e, turn_listQ a _, ⟨_, Heap.get?_push_size _ rfl, rfl, rfl⟩, fun b hb => ?_, q⟩
  have e : b = s1.heap.objs.size := by simpa using hb
  subst e
  exact I1.fpOk (Nat.le_refl _) (I1.hok.fresh (Nat.le_refl _))
theorem comp2_listQ {K : PySem.W.Frag} {A : Around} {l : Addr} {js : List Nat} {xs : List V} {σ : St} {H1 : Hp} {tc : TT} {te : TE} {Q : VK} (Pv : Nat → List V → Hp → Prop) (h0 : Pv 0 [] H1) (hP : ∀ i ys H, i ≤ xs.length → Pv i ys H → SqL K H l xs ∧ HQ A H ∧ ys.length ≤ i) (hsz : xs.length ≤ sizeLine)
    (hs : ∀ i x ys H (Nx : List V → Hp → Prop), xs[i]? = some x → Pv i ys H → (∀ ys' H', Pv (i + 1) ys' H' → Nx ys' H') → ∃ T u v, x = .ref T ∧ SqT K H T [u, v] ∧ tc (some u :: some v :: caps σ js) H fun b H3 => if b = true then te (some u :: some v :: caps σ js) H3 fun y H4 => Nx (ys ++ [y]) H4 else Nx ys H3)
    (hd : ∀ ys H, Pv xs.length ys H → ∀ D, H D = none → Q (.ref D) (upd H D (.lst ys))) :
    tCompB 2 js (gTupQ A K 2 (gCons (gName 0) (gCons (gName 1) gNil))) tc te σ Q (Itq K A l) H1 := by
  have wk := wk_list K l xs
  refine ⟨fun i m ys H => m = xs.length - i ∧ i ≤ xs.length ∧ Pv i ys H, ⟨xs.length, by simp, Nat.zero_le _, h0⟩, ?_⟩
  rintro i m ys H ⟨rfl, hi, p⟩
  obtain ⟨q, hqq, hl⟩ := hP i ys H hi p
  by_cases hlt : i < xs.length
  · refine .inr ⟨wk.go i H hlt q, by omega, fun x H' y os hos => ?_⟩
    obtain ⟨e, y2⟩ := wk.yld i H x H' q y
    subst e
    obtain ⟨T, u, v, rfl, ht, hh⟩ := hs i x ys _ (fun ys' H' => ∃ m', m' < xs.length - i ∧ m' = xs.length - (i + 1) ∧ i + 1 ≤ xs.length ∧ Pv (i + 1) ys' H') (y2 hlt) p fun ys' H' p' => ⟨xs.length - (i + 1), by omega, rfl, hlt, p'⟩
    match os, hos with
    | [o0, o1], _ =>
      exact ⟨hqq, T, _, rfl, ht, rfl, _, _, rfl, _, _, rfl, rfl, ⟨[some u, some v], rfl, rfl⟩, hh⟩
  · have e : i = xs.length := by omega
    subst e
    exact .inl ⟨⟨wk.stop H q, hqq⟩, by omega, hd ys H p⟩
end L2

set_option Elab.async false
set_option linter.all false
set_option maxRecDepth 100000
namespace L2
open PySem PySem.Spec PyProof.Rows
/-! ### a def that is called where an exception is handled -/
structure RoomQ (k : Nat) (A : Around) : Prop where
  dp : A.depth + 3 * k + 5 < recursionLimit
  un : A.units + 16 * k + 200 < cLine
theorem RoomQ.mono {j k : Nat} {A : Around} (r : RoomQ k A) (h : j ≤ k) : RoomQ j A := ⟨by have := r.dp; omega, by have := r.un; omega⟩
theorem RoomQ.deeper {k : Nat} {A : Around} (r : RoomQ (k + 1) A) (env : Env) : RoomQ k (A.deeper env) :=
  ⟨by have := r.dp; show A.depth + 1 + 3 * k + 5 < _; omega, by have := r.un; show A.units + 3 + 16 * k + 200 < _; omega⟩
theorem RoomQ.depth {k : Nat} {A : Around} (r : RoomQ k A) : A.depth < recursionLimit := by have := r.dp; omega
theorem RoomQ.units0 {k : Nat} {A : Around} (r : RoomQ k A) : A.units < cLine := by have := r.un; omega
theorem Room.q {k : Nat} {A : Around} (r : Room k A) : RoomQ k A := ⟨r.dp, r.un⟩
theorem RoomQ.mark {k : Nat} {A : Around} (r : RoomQ k A) (h : Option Value) : RoomQ k (A.mark h) := ⟨r.dp, r.un⟩
structure FnOkQ (P : Program) (w : World) (K : PySem.W.Frag) (mg : Str → Option Value) (base : Heap) (CX : CXT) (k : Nat) (f : Addr) (fd : FuncData) (ps : List Str) (sp : Sp) : Prop where
  len : ∀ vs H Q E, sp vs H Q E → vs.length = ps.length
  run : ∀ (A : Around) (outer : List Env) (s : Shared) (H : Hp) (args : Args) (us : List Value) (vs : List V) (Q : VK) (E : XK), RoomQ k A → HQ A H → Env0 P w K mg base A outer s H → BindsTo s fd args (ps.zip us) → Vals vs us → sp vs H Q E →
    codeAny (model P w) A (.call (.ref f) args) (CR CX outer P w H s Q E) s
def cxOfQ (CX : CXT) (P : Program) (w : World) (K : PySem.W.Frag) (mg : Str → Option Value) (base : Heap) (N : List Str) (qual : Str) (scope : Scope) (f : Addr) (cd : Value) (A : Around) (outer : List Env) (s : Shared) (H : Hp) (E : XK) : Cx :=
  { cxOf CX P w K mg base N qual scope f cd A outer s H E with calm := false }
theorem inv_startQ {CX : CXT} {P : Program} {w : World} {K : PySem.W.Frag} {mg : Str → Option Value} {base : Heap} {N ps : List Str} {qual : Str} {scope : Scope} {f : Addr} {cd : Value} {A : Around} {outer : List Env} {s s1 : Shared} {H : Hp} {E : XK} {us : List Value} {vs : List V}
    (S : FnScope N ps scope) (e0 : Env0 P w K mg base A outer s H) (hl : vs.length = ps.length) (r : Vals vs us)
    (x : InCallC s s.heap.objs.size (bindL (envOfC qual scope s.heap.objs.size f cd).kindOf (ps.zip us) fun _ => none) (cellsFrom (s.heap.objs.size + 1) scope.names []) (bindC (envOfC qual scope s.heap.objs.size f cd).kindOf (ps.zip us) fun _ => none) s1) :
    Inv (cxOfQ CX P w K mg base N qual scope f cd A outer s H E) [] (start N vs) H s1 := by
  have hpl : ps.length ≤ N.length := by have := congrArg List.length S.pre; rw [List.length_take] at this; omega
  obtain ⟨h1, tk, rfl, hk⟩ := x.done
  have noA : ∀ b : Addr, b ∉ (cxOfQ CX P w K mg base N qual scope f cd A outer s H E).ex := fun b z => absurd (show b ∈ ([] : List Addr) from z) (by simp)
  refine ⟨⟨e0.mod, S.kind, rfl, rfl, Nat.le_refl _, fun y z c h1 h2 => ?_, fun y hy => ?_, fun y c _ h => ?_, (fun z => by cases z), Around.frames_deeper e0.frames, .inr ⟨rfl, rfl⟩, fun b z => absurd z (noA b), e0.bs, e0.bsz, fun b _ _ => noA b, fun b z => absurd z (noA b), e0.funs, e0.frf⟩,
    rfl, e0.bare, Un.kept hk, ⟨_, x.toInCall.ns, fun i y v h1 h2 h3 => ?_⟩, fun y c h => ⟨_, x.cell y c h⟩, e0.hok.fresh (Nat.le_refl _), fun y c h => ?_, fun p hp => absurd (show p ∈ ([] : List (Addr × Obj)) from hp) (by simp), e0.hok.kept hk, ?_⟩
  · exact name_of_addr x.apart (PySem.mem_of_lookup h1) (PySem.mem_of_lookup h2)
  · have hy : scope.names.lookup y = some .cell ∨ scope.names.lookup y = some .free := hy
    rcases hy with hy | hy
    · exact cell_has hy
    · exact absurd rfl (S.nofree _ (PySem.mem_of_lookup hy))
  · exact Nat.le_of_lt (x.above y c (PySem.mem_of_lookup h))
  · have hi : i < vs.length := by
      unfold start at h2
      by_cases hi : i < vs.length
      · exact hi
      · rw [List.getElem?_append_right (by simpa using hi)] at h2
        rw [List.getElem?_replicate] at h2
        split at h2 <;> cases h2
    have ha : vs[i]? = some v := by
      unfold start at h2
      rw [List.getElem?_append_left (by simpa using hi), List.getElem?_map] at h2
      cases e : vs[i]? with
      | none => rw [e] at h2; cases h2
      | some a => rw [e] at h2; cases h2; rfl
    obtain ⟨u, hu, rv⟩ := r.get ha
    have hp : ps[i]? = some y := by
      rw [← S.pre, List.getElem?_take_of_lt (by omega)]; exact h1
    have ndP : ps.Nodup := by rw [← S.pre]; exact S.nd.sublist (List.take_sublist _ _)
    refine ⟨u, rv, ?_⟩
    rcases S.par y (List.mem_of_getElem? hp) with k | k
    · exact .inl ⟨k, bindL_get ndP hp hu k⟩
    · obtain ⟨c, e⟩ := cell_has (n := s.heap.objs.size + 1) k
      refine .inr ⟨.inl k, c, e, ?_⟩
      have q := x.cell y c e
      rw [bindC_get ndP hp hu (by show scope.names.lookup y ≠ _; rw [k]; decide)] at q
      exact q
  · exact e0.hok.fresh (Nat.le_of_lt (x.above y c (PySem.mem_of_lookup h)))
  · unfold start
    show _ = N.length
    rw [List.length_append, List.length_map, List.length_replicate]
    omega

theorem fn_ofQ {CX : CXT} {P : Program} {w : World} {K : PySem.W.Frag} {mg : Str → Option Value} {base : Heap} {k : Nat} {f : Addr} {name qual : Str} {params : Arguments} {body : List Stmt} {scope : Scope} {dV kV doc pm cdv ct oc : Value} {an od : Option Addr}
    {osl : Array (Option Value)} {N ps : List Str} {sp : Sp} (lk : K.lookup f = some ⟨oc, od, .func (PySem.W.fnOf name qual params body scope dV kV doc pm an cdv ct), osl⟩) (hcd : PySem.W.codeIn K cdv qual = true) (S : FnScope N ps scope)
    (len : ∀ vs H Q E, sp vs H Q E → vs.length = ps.length)
    (hbody : ∀ (A : Around) (outer : List Env) (s : Shared) (H : Hp) (vs : List V) (Q : VK) (E : XK), RoomQ k (A.deeper (envOfC qual scope s.heap.objs.size f cdv)) → HQ (A.deeper (envOfC qual scope s.heap.objs.size f cdv)) H → sp vs H Q E →
      ∃ t, PSs (cxOfQ CX P w K mg base N qual scope f cdv A outer s H E) body t ∧ t { nx := fun _ H' => Q .non H', rt := Q } (start N vs) H) :
    FnOkQ P w K mg base CX (k + 1) f (PySem.W.fnOf name qual params body scope dV kV doc pm an cdv ct) ps sp := by
  refine ⟨len, fun A outer s H args us vs Q E hr hq0 e0 hb r hsp => ?_⟩
  have hl := len _ _ _ _ hsp
  have KX : K.In s.heap := e0.mod.kin.keeps fun b o e => (e0.bs b o e).1
  have lim : s.heap.NoLimit := e0.mod.nolimit.keeps fun b o e => (e0.bs b o e).1
  have hkind : ∀ y ∈ ps.zip us, scope.names.lookup y.1 = some .local ∨ (scope.names.lookup y.1 = some .cell ∧ ((cellsFrom (s.heap.objs.size + 1) scope.names []).lookup y.1).isSome = true) := fun ⟨n, v⟩ hy => by
    rcases S.par n (List.of_mem_zip hy).1 with q | q
    · exact .inl q
    · exact .inr ⟨q, PySem.W.cellsFrom_some _ _ _ (.inl q)⟩
  refine codeAny_call_function hr.depth (KX _ _ lk) rfl S.co S.gen rfl (PySem.W.codeRec_of KX hcd) (hb _ _ _ _ ?_)
  refine wpAny_newFunctionEnv_cells S.kind hkind fun env he s1 x => ?_
  subst he
  refine ⟨lim.keeps x.toInCall.keep, codeAny_func ?_⟩
  obtain ⟨t, ht, hq⟩ := hbody A outer s H vs Q E (hr.deeper _) hq0 hsp
  have I : Inv (cxOfQ CX P w K mg base N qual scope f cdv A outer s H E) [] (start N vs) H s1 := inv_startQ S e0 hl r x
  refine wpAny_mono (ht [] s1 (start N vs) H _ I hq) (fun fl s' hs => ?_) fun e s' hs => hs
  have fin : ∀ {σ' : St} {H' : Hp} {v : V} {u : Value}, Inv (cxOfQ CX P w K mg base N qual scope f cdv A outer s H E) [] σ' H' s' → RelV v u → Q v H' → CE outer P w H s Q u s' :=
    fun {σ' H' v u} J rv q => ⟨v, H', J.os, J.bare, J.base, J.hok, rv, q⟩
  cases fl with
  | ret u =>
    obtain ⟨v, σ', H', J, rv, q⟩ := hs
    exact fin J rv q
  | next =>
    obtain ⟨σ', H', J, q⟩ := hs
    exact fin (v := V.non) (u := Value.none) J rfl q
  | brk =>
    obtain ⟨_, _, _, q⟩ := hs
    exact False.elim q
  | cont =>
    obtain ⟨_, _, _, q⟩ := hs
    exact False.elim q

def KnowsQ (P : Program) (w : World) (K : PySem.W.Frag) (mg : Str → Option Value) (base : Heap) (k : Nat) (x : Str) (ps : List Str) (sp : Sp) : Prop :=
  ∃ f fd, mg x = some (.ref f) ∧ PySem.W.keepIn K (.ref f) = true ∧ Binds K fd ps [] ∧ FnOkQ P w K mg base CX0 k f fd ps sp
theorem Def.okQ {P : Program} {w : World} {K : PySem.W.Frag} {mg : Str → Option Value} {base : Heap} {x : Str} {st : Stmt} {N ps : List Str} {k : Nat} {sp : Sp} (D : Def K mg x st ps) (S : FnScope N ps (defScope st)) (len : ∀ vs H Q E, sp vs H Q E → vs.length = ps.length)
    (hbody : ∀ (f : Addr) (cdv : Value) (A : Around) (outer : List Env) (s : Shared) (H : Hp) (vs : List V) (Q : VK) (E : XK), RoomQ k (A.deeper (envOfC x (defScope st) s.heap.objs.size f cdv)) → HQ (A.deeper (envOfC x (defScope st) s.heap.objs.size f cdv)) H → sp vs H Q E →
      ∃ t, PSs (cxOfQ CX0 P w K mg base N x (defScope st) f cdv A outer s H E).nox (defBody st) t ∧ t { nx := fun _ H' => Q .non H', rt := Q } (start N vs) H) : KnowsQ P w K mg base (k + 1) x ps sp := by
  obtain ⟨f, fd, F, hm, hb⟩ := D.ex
  refine ⟨f, fd, hm, F.kp, hb, ?_⟩
  obtain ⟨oc, od, kV, doc, pm, an, cdv, ct, osl, rfl, lk, hcd⟩ := F.ex
  refine fn_ofQ lk hcd S len fun A outer s H vs Q E hr hq hsp => ?_
  obtain ⟨t, h, q⟩ := hbody f cdv A outer s H vs Q E hr hq hsp
  exact ⟨t, h.nox, q⟩
def tCallQ (A : Around) (sp : Sp) (t : TA) : TE := fun σ H Q => t σ H fun vs H1 => HQ A H1 ∧ sp vs H1 Q E0
section
variable {X : Cx} {x : Str} {ps : List Str} {sp : Sp} {j k : Nat} {e : Expr} {es : List Expr} {t : TA} {p pos : Pos}
theorem pe_callQ (F : KnowsQ X.prog X.w X.K X.mg X.base j x ps sp) (hr : RoomQ k X.A) (ha : PA X (e :: es) t) (hjk : j ≤ k := by decide) (hg : Gl X x := by rfl) (hdb : (x == ("__debug__" : Str)) = false := by decide)
    (he : notStar e = true := by rfl) (hpl : es.all notStar = true := by rfl) : PE X (.Call (.Name x p) (e :: es) [] pos) (tCallQ X.A sp t) := by
  obtain ⟨f, fd, hm, hk, hb, F⟩ := F
  intro pins s σ H Q I h
  refine wpAny_Call_Name_kw (ld_glob I hg hm ?_ hdb)
  refine PySem.W.callWith_K (h₀ := X.base) I.ok.mod.kin hk (thn (ha pos pins s σ H _ I h) fun us s1 ⟨vs, H1, I1, r, q0, q⟩ => ⟨I1.kIn, ?_⟩) (star_cons he) (star_none hpl)
  have hl : us.length = ps.length := by rw [← r.length]; exact F.len _ _ _ _ q
  have hbind := hb s1 us I1.kIn (by rw [List.append_nil]; exact hl)
  rw [List.append_nil] at hbind
  refine wpAny_call (codeAny_mono (F.run X.A X.stack s1 H1 ⟨us, []⟩ us vs Q E0 (hr.mono hjk) q0 I1.env0 hbind r q) fun res s' hq => ?_)
  cases res with
  | error e => exact pass0 pins σ H1 s1 e s' I1 hq
  | ok fl =>
    cases fl with
    | ret u => exact I1.after hq
    | next => exact False.elim hq
    | brk => exact False.elim hq
    | cont => exact False.elim hq
end
end L2

set_option Elab.async false
set_option linter.all false
set_option maxRecDepth 100000
namespace L2
open PySem PySem.Spec PyProof.Rows
/-! ### try: .. except NAME as n: return .. -/
theorem un_track {fs ex : List Addr} {H H' : Hp} {h h' : Heap} {a : Addr} {o : HO} (u : Un fs ex H H' h h') (n : H' a = none) (new : h.get? a = none) : Un fs ex H (upd H' a o) h h' := by
  refine ⟨u.keep, u.slot, fun b ob e hn hx => ?_, u.there, fun b xs q => ?_, fun b ob v q => ?_, fun b ps q => ?_⟩
  · rw [upd_ne (fun z => by rw [z, new] at e; cases e)]
    exact u.free b ob e hn hx
  · have z := u.tups b xs q
    rw [upd_ne (ne_of_none z n)]; exact z
  · have z := u.frzs b ob v q
    rw [upd_ne (ne_of_none z n)]; exact z
  · obtain ⟨more, z⟩ := u.tbls b ps q
    exact ⟨more, by rw [upd_ne (ne_of_none z n)]; exact z⟩
/-- a name is gone: nothing is said of the names -/
theorem inv_gone {X : Cx} {pins : List (Addr × Obj)} {σ : St} {H : Hp} {s : Shared} {h' : Heap} {m' : Str → Option Value} {t' : Nat} (I : Inv X pins σ H s) (hn' : h'.Ns X.env.locals m') (hs : Heap.SameBut X.env.locals s.heap h') :
    Inv X pins (List.replicate X.N.length none) H { s with heap := h', toks := t' } := by
  have cne := I.cne
  obtain ⟨m, hn, _⟩ := id I.loc
  have lt : ∀ b o, X.s₀.heap.get? b = some o → b ≠ X.env.locals := fun b o e => Nat.ne_of_lt (Nat.lt_of_lt_of_le (Heap.lt_size e) I.ok.above)
  refine ⟨I.ok, I.os, I.bare, ⟨fun b o e n hb hx => ?_, fun b o e n hb hx => ?_, I.base.free, fun b o e hx => ?_, I.base.tups, I.base.frzs, I.base.tbls⟩, ⟨m', hn', fun j y v' e1 e2 e3 => ?_⟩, fun y c e => ?_, I.free, I.freeC, fun p hp => ?_, fun b ob e => ?_, by simp⟩
  · exact (hs.2 b (lt b o e)).trans (I.base.keep b o e n hb hx)
  · obtain ⟨sl, e1⟩ := I.base.slot b o e n hb hx
    exact ⟨sl, (hs.2 b (lt b o e)).trans e1⟩
  · obtain ⟨o', e1⟩ := I.base.there b o e hx
    exact ⟨o', (hs.2 b (lt b o e)).trans e1⟩
  · rw [List.getElem?_replicate] at e2
    split at e2 <;> cases e2
  · obtain ⟨w', z⟩ := I.cell y c e
    exact ⟨w', z.sameBut hs (cne y c e)⟩
  · obtain ⟨e, n, ne, nf, d⟩ := I.pin p hp
    exact ⟨(hs.2 p.1 ne).trans e, n, ne, nf, d⟩
  · refine (I.hok b ob e).stay (fun c w' hc q => (hs.2 c ?_).trans q) (fun _ q => q) fun _ _ q => q
    rintro rfl
    have hfree := I.free
    rcases hc with rfl | hc
    · rw [hfree] at e; cases e
    · rw [hfree] at hc; cases hc
/-- within the except's suite, which raises nothing -/
abbrev Cx.inExcN (X : Cx) (a : Addr) : Cx := { X with A := X.A.mark (some (.ref a)), calm := false, xe := fun _ _ => False }
section
variable {X : Cx} {pins : List (Addr × Obj)} {σ : St} {H : Hp} {s : Shared} {a : Addr}
theorem Inv.inExcN (I : Inv X pins σ H s) (a : Addr) : Inv (X.inExcN a) pins σ H s :=
  ⟨⟨I.ok.mod, I.ok.kind, I.ok.glob, I.ok.blt, I.ok.above, I.ok.inj, I.ok.has, I.ok.cab, (fun z => by cases z), I.ok.frames, I.ok.stk, I.ok.exf, I.ok.bs, I.ok.bsz, I.ok.noex, I.ok.exfs, I.ok.funs, I.ok.frf⟩,
    I.os, I.bare, I.base, I.loc, I.cell, I.free, I.freeC, I.pin, I.hok, I.len⟩
theorem Inv.outExcN (ok : X.Ok) (I : Inv (X.inExcN a) pins σ H s) : Inv X pins σ H s :=
  ⟨ok, I.os, I.bare, I.base, I.loc, I.cell, I.free, I.freeC, I.pin, I.hok, I.len⟩
end
def tTryAs (K : PySem.W.Frag) (Dc : Addr) (i : Nat) (tb : (St → XK) → TS) (ts : Addr → TS) : TS := fun D σ H => ∃ Eb : St → XK, tb Eb D σ H ∧ ∀ σ' C H', Eb σ' (.ref C) none H' → PySem.W.exmOne K (.ref C) (.ref Dc) = some true ∧
  ∀ a, H' a = none → ts a { nx := fun _ _ => False, rt := D.rt } (σ'.set i (some (.ref a))) (upd H' a (ExcO a C))
section
variable {X : Cx} {x n : Str} {i : Nat} {np hpos pos : Pos} {body : List Stmt} {b₀ : Stmt} {suite : List Stmt} {Dc : Addr} {tb : (St → XK) → TS} {ts : Addr → TS}
theorem ps_tryAs (hst : X.stack = X.env :: X.outer) (hfm : X.env.frame = some X.env.locals) (hm : X.mg x = some (.ref Dc)) (hE : ∀ a, PassesOwnAt (model X.prog X.w) (X.A.mark (some (.ref a))) X.A X.env X.xe)
    (hN : X.N.Nodup) (hi : X.N[i]? = some n) (hln : X.env.scope.names.lookup n = some .local)
    (hb : ∀ (Eb : St → XK) (pn : List (Addr × Obj)) (xe : Value → Shared → Prop), Lands (X.inTry pn xe) Eb → PSs (X.inTry pn xe) body (tb Eb)) (hs : ∀ a, PSs (X.inExcN a) (b₀ :: suite) (ts a))
    (hg : Gl X x := by rfl) (hdb : (x == ("__debug__" : Str)) = false := by decide) : PS X (.Try body [.ExceptHandler (some (.Name x np)) (some n) (b₀ :: suite) hpos] [] [] pos) (tTryAs X.K Dc i tb ts) := by
  intro pins s σ H D I h
  obtain ⟨Eb, htb, hts⟩ := h
  refine wpAny_Try_except ?_
  refine wpAny_mono ((hb Eb (X.pn ++ pins) _ ?_) [] s σ H D (I.inTry _) htb) (fun f s1 hsp => ?_) (fun e s1 z => z)
  · intro pins' σ' H1 s1 e s' I1 hx
    obtain ⟨a, C, a0, H', B, rfl, os, bare, un, hok, fl, st, cov, nf, c0, hEb⟩ := hx
    obtain ⟨hmatch, hts'⟩ := hts σ' C H' hEb
    rw [show (X.inTry (X.pn ++ pins) _).stack = X.stack from rfl] at fl un cov nf
    have fl1 := fl
    rw [hst] at fl1
    have hfr : X.A.frames = some (X.env :: X.outer) := by rw [← hst]; exact I.ok.frames
    have afs : a ∉ frs X.stack := fun z => by
      obtain ⟨o, e1, hd⟩ := flying_data fl a z
      obtain ⟨o', fs, e2, d, _⟩ := c0
      rw [e1] at e2; cases e2
      exact hd _ d
    have hBa : B.get? a = none := fl.2.1
    have hHa : H' a = none := by
      cases z : H' a with
      | none => rfl
      | some o =>
        obtain ⟨ob, e⟩ := cov a afs (.inr ⟨o, z⟩)
        rw [hBa] at e; cases e
    have hsa : s1.heap.get? a = none := by
      cases z : s1.heap.get? a with
      | none => rfl
      | some o =>
        obtain ⟨ob, e⟩ := cov a afs (.inl ⟨o, z⟩)
        rw [hBa] at e; cases e
    have go : ∀ (h5 : Heap) (a0' : Value), Heap.FlyingW B (X.env :: X.outer) a (.ref C) a0' h5 → s'.heap.UpToSlots h5 → Inv X pins σ' H' { s' with heap := h5 } := fun h5 a0' fl5 up5 =>
      (I1.call' (s' := { s' with heap := h5 }) os (un_step un cov fl.1 fl5.1 up5 (flying_data fl)) (hok_step hok cov fl.1 fl5.1 nf) bare (fun b z => by cases z)).outTry
    have go2 : ∀ (h5 : Heap) (a0' : Value), Heap.FlyingW B (X.env :: X.outer) a (.ref C) a0' h5 → s'.heap.UpToSlots h5 → Ctx0 a h5 → Inv X pins σ' (upd H' a (ExcO a C)) { s' with heap := h5 } := fun h5 a0' fl5 up5 c5 =>
      (I1.call' (s' := { s' with heap := h5 }) os (un_track (un_step un cov fl.1 fl5.1 up5 (flying_data fl)) hHa hsa) ((hok_step hok cov fl.1 fl5.1 nf).track hHa (exc_ok c5 fl5.there)) bare (fun b z => by cases z)).outTry
    refine wpAny_mono (tame_any (a := a) (s := s') tame_noteFrame c0 (wpAny_looks_onW (E := fun _ _ => False) (Q := fun _ s2 => ∃ h2 : Heap, s2 = { s' with heap := h2 } ∧ Heap.HeldW B (X.env :: X.outer) a (.ref C) a0 X.env.locals h2 ∧ s'.heap.UpToSlots h2) hfr hfm fl1 fun h4 held4 up4 => ⟨h4, rfl, held4, up4⟩)) (fun _ s4 ⟨⟨h4, e4, held4, up4⟩, c4⟩ => ?_) (fun _ _ z => z.1.elim)
    subst e4
    refine wpAny_mono (tame_any (a := a) (s := { s' with heap := h4 }) tame_setFlight c4 (wpAny_landsW (E := fun _ _ => False) (Q := fun _ s2 => ∃ h2 : Heap, s2 = { s' with heap := h2 } ∧ Heap.FlyingW B (X.env :: X.outer) a (.ref C) a0 h2 ∧ h4.UpToSlots h2) held4 fun h5 fl5 up5 => ⟨h5, rfl, fl5, up5⟩)) (fun _ s5 ⟨⟨h5, e5, fl5, up5⟩, c5⟩ => ?_) (fun _ _ z => z.1.elim)
    subst e5
    have I5 := go h5 _ fl5 (up4.trans up5)
    obtain ⟨ob, hob, hobc⟩ := fl5.there
    refine wpAny_handleBy_cons (codeAny_handlers_test (ld_glob (X := X.inExc a) (I5.inExc a) hg hm ?_ hdb)) (by intro q; cases q)
    have LT : PySem.W.Looks (model X.prog X.w) h5 (typeOf (.ref a)) (.ref C) := by
      rw [← hobc]
      exact (PySem.W.Looks.ld hob).andThen .now
    refine PySem.W.exm_one I5.kIn LT hmatch _ _ _ _ (fun b o q => q) ?_
    refine codeAny_handlers_suite_as ?_
    refine wpAny_mono (tame_any (a := a) (s := { s' with heap := h5 }) tame_setFlight c5 (lands_againW (E := fun _ _ => False) (Q := fun _ s2 => ∃ h2 : Heap, s2 = { s' with heap := h2 } ∧ Heap.FlyingW B (X.env :: X.outer) a (.ref C) a0 h2 ∧ h5.UpToSlots h2) fl5 fun h6 fl6 up6 => ⟨h6, rfl, fl6, up6⟩)) (fun _ s6 ⟨⟨h6, e6, fl6, up6⟩, c6⟩ => ?_) (fun _ _ z => z.1.elim)
    subst e6
    have I6 := (go2 h6 _ fl6 ((up4.trans up5).trans up6) c6).inExcN a
    refine store_ok (X := X.inExcN a) (v := .ref a) I6 hN hi (.inl hln) rfl (fun s7 I7 => ?_) (.inr hln)
    refine wpAny_mono (hs a pins s7 _ _ { nx := fun _ _ => False, rt := D.rt } I7 (hts' a hHa)) (fun f s8 q => ?_) (fun _ _ z => z.elim)
    cases f with
    | next => obtain ⟨_, _, _, z⟩ := q; exact z.elim
    | brk => obtain ⟨_, _, _, z⟩ := q; exact z.elim
    | cont => obtain ⟨_, _, _, z⟩ := q; exact z.elim
    | ret u =>
      obtain ⟨v, σ8, H8, I8, rv, q8⟩ := q
      have I8' : Inv X pins σ8 H8 s8 := I8.outExcN I.ok
      obtain ⟨m8, hn8, _⟩ := id I8'.loc
      refine wpAny_nameGoes hln hn8 (by rw [I.ok.kind]; rfl) fun h9 m9 hn9 sb9 => ?_
      exact ⟨v, _, H8, inv_gone I8' hn9 sb9, rv, q8⟩
  · have q := hsp.outTry
    cases f with
    | next => exact wpAny_execs_nil q
    | brk => exact q
    | cont => exact q
    | ret u => exact q
end
end L2

set_option Elab.async false
set_option linter.all false
set_option maxRecDepth 100000
namespace L2
open PySem PySem.Spec PyProof.Rows
set_option maxHeartbeats 1000000 in
theorem comp_genQ {X : Cx} {elt iter tg : Expr} {pos ppos : Pos} {ifs : List Expr} {scope : Scope} {wi : TI} {g : TG} {tc : TT} {te : TE} {use : Option (Value → Sem Unit)} {Qf : Value → Shared → Prop} (own : List Str) (js : List Nat) (N' : List Str) 
    (hi : PIQ X tg iter wi)
    (hg : ∀ C s₀ H₀ ex, PG (cxComp X scope N' C s₀ H₀ ex) tg g)
    (ht : ∀ C s₀ H₀ ex, PTs (cxComp X scope N' C s₀ H₀ ex) ifs tc)
    (he : ∀ C s₀ H₀ ex, PE (cxComp X scope N' C s₀ H₀ ex) elt te)
    (hN' : N' = own ++ js.map fun j => X.N.getD j Str.empty)
    (hk : scope.kind = .function)
    (hcell : ∀ y ∈ scope.names, y.2 ≠ .cell)
    (hnames : ∀ y ∈ scope.names, y.2 = .local → scope.names.lookup y.1 = some .local)
    (hfr : (scope.names.all fun y => y.2 != .free || X.env.scope.names.lookup y.1 == some .cell) = true)
    (hjs : (js.all fun j => scope.names.lookup (X.N.getD j Str.empty) == some .free && (X.N[j]?).isSome) = true)
    (hs : ∀ z, foldedSetIterable iter X.env z = pure z)
    {pins : List (Addr × Obj)} {s : Shared} {σ : St} {H : Hp} {Q : VK} (I : Inv X pins σ H s) (h : tComp own.length js wi g tc te σ H Q)
    (fin : ∀ (D C : Addr) (H' : Hp) (s4 : Shared) (m : Str → Option Value), Inv X pins σ H' s4 → Q (.ref D) H' → s4.heap.Ns C m → CEnd X pins H' C → compPost (model X.prog X.w) X.A X.xe use Qf (.ref D) C (.ok .next) s4) :
    wpAny (model X.prog X.w) X.A (comprehension (.ListComp elt [⟨tg, iter, ifs, 0⟩] scope pos) scope X.env ppos (newList []) false (eval iter X.env) use) Qf X.xe s := by
  have free_cell : ∀ y ∈ scope.names, y.2 = .free → X.env.kindOf y.1 = some .cell := fun y hy hf => by
    have := List.all_eq_true.mp hfr y hy
    rw [hf] at this
    simp at this
    exact this
  have hcl : ∀ y ∈ scope.names, y.2 = .free → ∃ c, X.env.cells.lookup y.1 = some c := fun y hy hf => I.ok.has y.1 (.inl (free_cell y hy hf))
  refine wpAny_comprehension_free (use := use) rfl hs (closureFor_eq hcl) hk hnames ?_
  refine thn (hi pins s σ H _ I h) fun v s1 h1 => thn h1 fun itv s2 h2 => ?_
  obtain ⟨it, fp, tn, J, H2, e, I2, T, st2, f2, W, ⟨m0, w0⟩, turn⟩ := h2
  subst e
  refine wpAny_newObj_type (wpAny_newFunctionEnv hcell (by intro y hy; simp at hy) (fun h₁ hns₁ hsb₁ => ?_) hk)
  dsimp only at hns₁ hsb₁ ⊢
  generalize hG : s2.heap.push { cls := .type "list", dict := none, data := .seq ([] : List Value).toArray } = G at hns₁ hsb₁ ⊢
  have hC : G.objs.size = s2.heap.objs.size + 1 := by rw [← hG, Heap.size_push]
  have hDC : s2.heap.objs.size ≠ G.objs.size := by rw [hC]; exact Nat.ne_of_lt (Nat.lt_succ_self _)
  have below : ∀ b, b < s2.heap.objs.size → b ≠ G.objs.size ∧ b ≠ s2.heap.objs.size := fun b hb => ⟨by rw [hC]; exact Nat.ne_of_lt (Nat.lt_succ_of_lt hb), Nat.ne_of_lt hb⟩
  have old : ∀ b o, s2.heap.get? b = some o → h₁.get? b = some o := fun b o e => hsb₁.extBut b o (below b (Heap.lt_size e)).1 (Heap.get?_push_of_some _ (hG ▸ Heap.get?_push_of_some _ e))
  have hacc : h₁.get? s2.heap.objs.size = some { cls := .type "list", data := .seq ([] : List Value).toArray 0 } := hsb₁.extBut _ _ hDC (Heap.get?_push_of_some _ (hG ▸ Heap.get?_push_size _ rfl))
  have fplt : ∀ b ∈ fp, b < s2.heap.objs.size := fun b hb => let ⟨_, e, _⟩ := T.obj _ _ st2 b hb; Heap.lt_size e
  have ok' : (cxComp X scope N' G.objs.size s2 H2 fp).Ok := by
    refine ⟨I2.ok.mod, hk, I2.ok.glob, I2.ok.blt, by show s2.heap.objs.size ≤ G.objs.size; rw [hC]; exact Nat.le_succ _, fun x y c e1 e2 => I2.ok.inj x y c (lookup_closOf hcl e1) (lookup_closOf hcl e2), fun x hx => ?_,
      fun x c hx _ => (nomatch hx), I2.ok.hd, I2.ok.frames, .inl rfl, fun b hb => ⟨(below b (fplt b hb)).1, fun x c e => (f2 b hb).2.2.2.2.1 x c (lookup_closOf hcl e)⟩, I2.bs, Nat.le_trans I2.ok.bsz I2.sz, fun b o e hb => ?_, fun b hb z => ?_, I2.stack, I2.stkFree⟩
    · have hx' : (relabel scope X.env).names.lookup x = some .cell ∨ (relabel scope X.env).names.lookup x = some .free := hx
      have : (x, NameKind.free) ∈ scope.names ∨ (x, NameKind.cell) ∈ scope.names := by
        rcases hx' with z | z
        · exact relabel_back z (.inl rfl)
        · exact relabel_back z (.inr rfl)
      rcases this with z | z
      · exact has_closOf z
      · exact absurd rfl (hcell _ z)
    · rcases (f2 b hb).2.2.2.1 with z | z
      · exact I2.ok.noex b o e z
      · have h1 : b < X.base.objs.size := Heap.lt_size e
        exact absurd (Nat.lt_of_lt_of_le h1 (Nat.le_trans I2.ok.bsz z)) (Nat.lt_irrefl _)
    · rcases List.mem_cons.mp (I2.stkSub b z) with e | e
      · exact (f2 b hb).2.1 e
      · exact (f2 b hb).2.2.1 e
  have kindCap : ∀ i y, (js.map fun j => X.N.getD j Str.empty)[i]? = some y → ∃ j, js[i]? = some j ∧ X.N[j]? = some y ∧ scope.names.lookup y = some .free := fun i y e => by
    rw [List.getElem?_map] at e
    cases q : js[i]? with
    | none => rw [q] at e; cases e
    | some j =>
      rw [q] at e
      have e' : X.N.getD j Str.empty = y := Option.some.inj e
      have hj := List.all_eq_true.mp hjs j (List.mem_of_getElem? q)
      rw [Bool.and_eq_true] at hj
      obtain ⟨hj1, hj2⟩ := hj
      rw [e'] at hj1
      obtain ⟨z, hz⟩ := Option.isSome_iff_exists.mp hj2
      rw [List.getD_eq_getElem?_getD, hz] at e'
      exact ⟨j, q, by rw [hz]; exact congrArg some e', by simpa using hj1⟩
  have I0 : ∀ tk : Nat, Inv (cxComp X scope N' G.objs.size s2 H2 fp) [(s2.heap.objs.size, { cls := .type "list", data := .seq ([] : List Value).toArray 0 })] (List.replicate own.length none ++ caps σ js) H2 { s2 with heap := h₁, toks := tk } := fun tk => by
    refine ⟨ok', rfl, I2.bare, Un.kept old, ⟨_, hns₁, fun i y v e1 e2 e3 => ?_⟩, fun x c e => ?_, I2.hok.fresh (by show s2.heap.objs.size ≤ G.objs.size; rw [hC]; exact Nat.le_succ _), fun x c e => I2.freeC x c (lookup_closOf hcl e), fun p hp => ?_, I2.hok.kept old, ?_⟩
    · by_cases hlt : i < own.length
      · rw [List.getElem?_append_left (by simpa using hlt), List.getElem?_replicate] at e2
        split at e2 <;> cases e2
      · have e1' : N'[i]? = some y := e1
        rw [hN', List.getElem?_append_right (by omega)] at e1'
        rw [List.getElem?_append_right (by simpa using hlt), List.length_replicate] at e2
        obtain ⟨j, hj, hs2⟩ := caps_get e2
        obtain ⟨j', hj', hN, hfree⟩ := kindCap _ _ e1'
        rw [hj] at hj'; cases hj'
        obtain ⟨m, hm, hl⟩ := I2.loc
        have hcell' : X.env.kindOf y = some .cell := free_cell (y, .free) (PySem.mem_of_lookup hfree) rfl
        obtain ⟨u, r, l⟩ := hl j y v hN hs2 (.inr (.inl hcell'))
        refine ⟨u, r, ?_⟩
        rcases l with ⟨hk', _⟩ | ⟨hk', c, hc', z⟩
        · rw [hcell'] at hk'; cases hk'
        · obtain ⟨c', e'⟩ := has_closOf (env := X.env) (PySem.mem_of_lookup hfree)
          have := lookup_closOf hcl e'
          rw [hc'] at this; cases this
          refine .inr ⟨.inl (lookup_relabel_free I2.ok.kind hfree hcell'), c, e', ?_⟩
          obtain ⟨o, ho, hd⟩ := z
          exact ⟨o, old _ _ ho, hd⟩
    · obtain ⟨v, o, ho, hd⟩ := I2.cell x c (lookup_closOf hcl e)
      exact ⟨v, o, old _ _ ho, hd⟩
    · have hp' : p = (s2.heap.objs.size, { cls := .type "list", data := .seq ([] : List Value).toArray 0 }) := by
        rcases List.mem_append.mp hp with z | z
        · exact absurd (show p ∈ ([] : List (Addr × Obj)) from z) (by simp)
        · simpa using z
      subst hp'
      refine ⟨hacc, I2.hok.fresh (Nat.le_refl _), hDC, fun z => ?_, fun v z => by cases z⟩
      exact absurd (show s2.heap.objs.size ∈ frs X.stack from z) fun z => by
        rcases List.mem_cons.mp (I2.stkSub _ z) with e | e
        · have := I2.lt
          rw [← e] at this
          exact Nat.lt_irrefl _ this
        · exact I2.nofs (Nat.le_refl _) e
    · show _ = N'.length
      rw [hN']
      simp [caps]
  have stat : ∀ {H' : Hp} {ob : Obj}, (∀ b ∈ fp, H' b = none) → ∀ b ∈ fp, FpOk (cxComp X scope N' G.objs.size s2 H2 fp) [(s2.heap.objs.size, ob)] H' b := fun {H' ob} hn b hb =>
    ⟨hn b hb, (below b (fplt b hb)).1, fun z => ok'.exfs b hb z, .inl hb, fun x c e => (f2 b hb).2.2.2.2.1 x c (lookup_closOf hcl e), fun p hp => by
      have hp' : p = (s2.heap.objs.size, ob) := by
        rcases List.mem_append.mp hp with z | z
        · exact absurd (show p ∈ ([] : List (Addr × Obj)) from z) (by simp)
        · simpa using z
      subst hp'
      exact Ne.symm (below b (fplt b hb)).2⟩
  have loop : ∀ s₃ : Shared, s₃ = { s2 with heap := h₁, toks := s2.toks + ([] : List (Str × Value)).length } →
      codeAny (model X.prog X.w) X.A (.compLoop (.ListComp elt [⟨tg, iter, ifs, 0⟩] scope pos) 0 (.ref it) (.ref s2.heap.objs.size) (compEnvC scope (closOf scope X.env) G.objs.size X.env))
        (compPost (model X.prog X.w) X.A X.xe use Qf (.ref s2.heap.objs.size) G.objs.size) s₃ := by
    rintro s₃ rfl
    refine comp_loop (fun n s' => ∃ (i : Nat) (os : St) (H' : Hp) (ys : List V) (its : List Value) (k : Nat), os.length = own.length ∧
      Inv (cxComp X scope N' G.objs.size s2 H2 fp) [(s2.heap.objs.size, { cls := .type "list", data := .seq its.toArray k })] (os ++ caps σ js) H' s' ∧ tn i s'.heap ∧ (∀ b ∈ fp, H' b = none) ∧ Vals ys its ∧ W i n ys H') ?_ m0
      ⟨0, _, H2, [], [], 0, by simp, I0 _, T.keep _ _ _ st2 fun b _ o e => old b o e, fun b hb => (f2 b hb).1, .nil, w0⟩
    rintro n s3 ⟨i, os, H3, ys, its, k, hos, I3, st3, fr3, rv3, w3⟩
    have pinD : ∀ {σ' : St} {H' : Hp} {s' : Shared}, Inv (cxComp X scope N' G.objs.size s2 H2 fp) [(s2.heap.objs.size, { cls := .type "list", data := .seq its.toArray k })] σ' H' s' → s'.heap.get? s2.heap.objs.size = some { cls := .type "list", data := .seq its.toArray k } ∧ H' s2.heap.objs.size = none :=
      fun I => let q := I.pin (s2.heap.objs.size, { cls := .type "list", data := .seq its.toArray k }) (List.mem_append_right _ (by simp)); ⟨q.1, q.2.1⟩
    rcases turn i n ys H3 w3 with ⟨stop, hz, qn⟩ | ⟨go, hz, step⟩
    · refine thn (T.done (cxComp X scope N' G.objs.size s2 H2 fp) rfl rfl rfl rfl i _ s3 _ H3 _ I3 (stat fr3) st3 stop) fun r s4 ⟨hr, I4⟩ => ?_
      subst hr
      obtain ⟨hD4, hn4⟩ := pinD I4
      obtain ⟨m, hm, _⟩ := I4.loc
      have hsb : Heap.SameBut G.objs.size s4.heap s4.heap := ⟨rfl, fun _ _ => rfl⟩
      have b4 := I4.base
      have nC : ∀ b o, s2.heap.get? b = some o → b ≠ G.objs.size := fun b o e => (below b (Heap.lt_size e)).1
      have nD : ∀ b o, s2.heap.get? b = some o → b ≠ s2.heap.objs.size := fun b o e => (below b (Heap.lt_size e)).2
      have hok' : HOk X.prog X.w H3 s4.heap := fun b ob e => by
        refine (I4.hok b ob e).stay (fun c w' hc' q => (hsb.2 c ?_).trans q) (fun _ q => q) fun _ _ q => q
        rintro rfl
        rcases hc' with hc' | hc'
        · rw [← hc', show H3 G.objs.size = none from I4.free] at e; cases e
        · rw [show H3 G.objs.size = none from I4.free] at hc'; cases hc'
      have hD' : s4.heap.get? s2.heap.objs.size = some { cls := .type "list", data := .seq its.toArray k } := (hsb.2 _ hDC).trans hD4
      have hCn : H3 G.objs.size = none := I4.free
      have hC2 : s2.heap.objs.size ≤ G.objs.size := by rw [hC]; exact Nat.le_succ _
      refine fin s2.heap.objs.size G.objs.size (upd H3 s2.heap.objs.size (.lst ys)) s4 m ?_ (qn _ hn4) hm ⟨by rw [upd_ne (Ne.symm hDC)]; exact hCn, fun z => ?_, Nat.le_trans I2.sz hC2, fun x c e z => ?_, fun p hp z => ?_⟩
      rotate_left
      · have h9 := I2.lt
        rw [← z] at h9
        exact Nat.lt_irrefl _ (Nat.lt_of_lt_of_le h9 hC2)
      · obtain ⟨v, o, ho, _⟩ := I2.cell x c e
        have h9 := Heap.lt_size ho
        rw [z] at h9
        exact Nat.lt_irrefl _ (Nat.lt_of_lt_of_le h9 hC2)
      · have h9 := Heap.lt_size (I2.pin p hp).1
        rw [z] at h9
        exact Nat.lt_irrefl _ (Nat.lt_of_lt_of_le h9 hC2)
      refine I2.call' (ch := fp) I4.os ⟨fun b o e n hb hx => ?_, fun b o e n hb hx => ?_, fun b o e n hx => ?_, fun b o e hx => ?_, fun b xs q => ?_, fun b o u q => ?_, fun b ps q => ?_⟩ (hok'.track hn4 ⟨hz, its, k, rv3, hD'⟩) I4.bare fun b hb => ⟨(f2 b hb).2.2.2.1, (f2 b hb).2.1, (f2 b hb).2.2.2.2.1, (f2 b hb).2.2.2.2.2⟩
      · exact (hsb.2 b (nC b o e)).trans (b4.keep b o e n hb hx)
      · obtain ⟨sl, e1⟩ := b4.slot b o e n hb hx
        exact ⟨sl, (hsb.2 b (nC b o e)).trans e1⟩
      · rw [upd_ne (nD b o e)]; exact b4.free b o e n hx
      · obtain ⟨o', e1⟩ := b4.there b o e hx
        exact ⟨o', (hsb.2 b (nC b o e)).trans e1⟩
      · have z := b4.tups b xs q
        rw [upd_ne (ne_of_none z hn4)]; exact z
      · have z := b4.frzs b o u q
        rw [upd_ne (ne_of_none z hn4)]; exact z
      · obtain ⟨more, z⟩ := b4.tbls b ps q
        exact ⟨more, by rw [upd_ne (ne_of_none z hn4)]; exact z⟩
    · refine thn (T.item (cxComp X scope N' G.objs.size s2 H2 fp) rfl rfl rfl rfl i _ s3 _ H3 _ I3 (stat fr3) st3 go) fun r s4 ⟨u, hr, h4⟩ => ?_
      subst hr
      refine thn h4 fun _ s5 ⟨x, H5, I5, r5, y5, st5, fr5⟩ => ?_
      have fpo := T.obj _ _ st5
      have I5' := I5.pinned (stat fr5) fpo
      refine wpAny_mono (hg _ _ _ _ _ s5 _ H5 x u _ I5' r5 (step x H5 y5 os hos)) (fun _ s6 ⟨σ6, H6, I6, ⟨os', hos', e6⟩, q6⟩ => ?_) fun _ _ z => False.elim z
      subst e6
      refine wpAny_mono (ht _ _ _ _ _ s6 _ H6 _ I6 q6) (fun ok s7 ⟨H7, I7, q7⟩ => ?_) fun _ _ z => False.elim z
      have keepFp : ∀ {σ' : St} {H' : Hp} {s' : Shared}, Inv (cxComp X scope N' G.objs.size s2 H2 fp) ([(s2.heap.objs.size, { cls := .type "list", data := .seq its.toArray k })] ++ pinsAt fp s5.heap) σ' H' s' → tn (i + 1) s'.heap ∧ ∀ b ∈ fp, H' b = none := fun I => by
        refine ⟨T.keep _ _ _ st5 fun b hb o e => (I.pin (b, o) (List.mem_append_right _ (List.mem_append_right _ (mem_pinsAt hb e)))).1, fun b hb => ?_⟩
        obtain ⟨o, e, d⟩ := fpo b hb
        exact (I.pin (b, o) (List.mem_append_right _ (List.mem_append_right _ (mem_pinsAt hb e)))).2.1
      cases ok with
      | false =>
        obtain ⟨m', hm', w'⟩ := q7
        obtain ⟨k1, k2⟩ := keepFp I7
        exact ⟨m', hm', i + 1, os', H7, ys, its, k, hos', I7.unpinned, k1, k2, rv3, w'⟩
      | true =>
        rw [if_pos rfl]
        refine wpAny_mono (he _ _ _ _ _ s7 _ H7 _ I7 q7) (fun yv s8 ⟨y, H8, I8, r8, q8⟩ => ?_) fun _ _ z => False.elim z
        obtain ⟨m', hm', w'⟩ := q8
        obtain ⟨k1, k2⟩ := keepFp I8
        have I8' := I8.unpinned
        obtain ⟨hD8, hn8⟩ := pinD I8'
        have hil : its.length < sizeLine := by rw [← rv3.length]; exact hz
        refine call_meets F.slot_list_append ⟨_, hD8, rfl⟩ F.entry_list_append (F.args_list_append_2 _ _) (PySem.list_append _ its.toArray k yv (by rw [List.size_toArray]; omega)) ⟨hD8, ?_⟩
        have q : (s8.heap.update s2.heap.objs.size (Obj.mapSeq fun a => a.push yv)).get? s2.heap.objs.size = some { cls := .type "list", data := .seq (its ++ [yv]).toArray (if (its.toArray.push yv).size == its.toArray.size then k else k + 1) } := by
          have q0 := PySem.IsL.update hD8 (fun a : Array Value => a.push yv)
          have ea : its.toArray.push yv = (its ++ [yv]).toArray := by simp
          rw [← ea]
          exact q0
        refine ⟨m', hm', i + 1, os', H8, ys ++ [y], its ++ [yv], (if (its.toArray.push yv).size == its.toArray.size then k else k + 1), hos', ?_, T.keep _ _ _ k1 fun b hb o e => (Heap.get?_update_other s8.heap _ (below b (fplt b hb)).2.symm).trans e, k2, rv3.append (.cons r8 .nil), w'⟩
        have In : Inv (cxComp X scope N' G.objs.size s2 H2 fp) [] (os' ++ caps σ js) H8 s8 := I8'.pins_of fun p hp => absurd hp (by simp)
        have It : Inv (cxComp X scope N' G.objs.size s2 H2 fp) [] (os' ++ caps σ js) H8 { s8 with heap := s8.heap.update s2.heap.objs.size (Obj.mapSeq fun a => a.push yv) } :=
          In.turned (it := s2.heap.objs.size) (t' := s8.toks) (fun b o hb e => (Heap.get?_update_other s8.heap _ (Ne.symm hb)).trans e) hn8 hDC (.inr (Nat.le_refl _)) (fun x c e z => by
            obtain ⟨v, o, ho, hd⟩ := I8'.cell x c e
            rw [z, hD8] at ho
            cases ho
            cases hd) fun p hp => absurd hp (by simp [cxComp])
        refine It.pins_of fun p hp => ?_
        have hp' : p = (s2.heap.objs.size, { cls := .type "list", data := .seq (its ++ [yv]).toArray (if (its.toArray.push yv).size == its.toArray.size then k else k + 1) }) := List.mem_singleton.mp hp
        subst hp'
        exact ⟨q, hn8, hDC, (I8'.pin _ (List.mem_append_right _ (List.mem_singleton.mpr rfl))).2.2.2.1, fun v z => by cases z⟩
  exact codeAny_compStart_list (loop _ rfl) (T.self _ 0 _ _ _ (T.keep _ _ _ st2 fun b _ o e => old b o e) (loop _ rfl))
theorem ps_setC2Q {X : Cx} {elt iter : Expr} {x x2 y : Str} {px px2 py ptt pos spos : Pos} {kk : Nat} {ifs : List Expr} {scope : Scope} {wi : TI} {tc : TT} {te : TE} {i : Nat} (js : List Nat) (N' : List Str) (hN : X.N.Nodup) (hy : X.N[i]? = some y) (hl : Loc X.env.scope y)
    (hi : PIQ X (.Tuple [.Name x px, .Name x2 px2] kk ptt) iter wi)
    (ht : ∀ C s₀ H₀ ex, PTs (cxComp X scope N' C s₀ H₀ ex) ifs tc)
    (he : ∀ C s₀ H₀ ex, PE (cxComp X scope N' C s₀ H₀ ex) elt te)
    (hsw : swapsWith (.ListComp elt [⟨.Tuple [.Name x px, .Name x2 px2] kk ptt, iter, ifs, 0⟩] scope pos) (some (.Name y py)) spos.line X.env = pure true := by rfl)
    (hf : X.fn y = true ∨ X.env.scope.names.lookup y = some .local := by first | exact .inl rfl | exact .inr rfl | assumption)
    (nd : N'.Nodup := by decide +kernel)
    (hx : scope.names.lookup x = some .local := by rfl) (hx2 : scope.names.lookup x2 = some .local := by rfl)
    (hN' : N' = [x, x2] ++ js.map fun j => X.N.getD j Str.empty := by rfl)
    (hk : scope.kind = .function := by rfl)
    (hcell : ∀ y ∈ scope.names, y.2 ≠ .cell := by decide +kernel)
    (hnames : ∀ y ∈ scope.names, y.2 = .local → scope.names.lookup y.1 = some .local := by decide +kernel)
    (hfr : (scope.names.all fun y => y.2 != .free || X.env.scope.names.lookup y.1 == some .cell) = true := by rfl)
    (hjs : (js.all fun j => scope.names.lookup (X.N.getD j Str.empty) == some .free && (X.N[j]?).isSome) = true := by rfl)
    (hs : ∀ z, foldedSetIterable iter X.env z = pure z := by intro _; rfl) :
    PS X (.Assign [.Name y py] (.ListComp elt [⟨.Tuple [.Name x px, .Name x2 px2] kk ptt, iter, ifs, 0⟩] scope pos) spos) (tAsg (tComp 2 js wi (gTupQ X.A X.K 2 (gCons (gName 0) (gCons (gName 1) gNil))) tc te) (gName i)) := by
  intro pins s σ H D I h
  rw [exec_Assign_Name_used _ _ _ _ hsw]
  refine wpAny_bind (wpAny_standAt (wpAny_bind ?_))
  show wpAny _ _ (do let _ ← comprehension (.ListComp elt [⟨.Tuple [.Name x px, .Name x2 px2] kk ptt, iter, ifs, 0⟩] scope pos) scope X.env _ (newList []) false (eval iter X.env) (some (assign (.Name y py) X.env))) _ _ s
  refine wpAny_bind (wpAny_mono (comp_genQ (use := some (assign (.Name y py) X.env)) (Qf := fun _ s' => SP X pins D .next s') [x, x2] js N' hi (fun C s₀ H₀ ex => pg_tupQ (X := cxComp X scope N' C s₀ H₀ ex) rfl
      (pgs_cons (pg_name (X := cxComp X scope N' C s₀ H₀ ex) (i := 0) nd (by show N'[0]? = some x; rw [hN']; rfl) (Or.inl (lookup_relabel_local hx)) (.inr (lookup_relabel_local hx)))
        (pgs_cons (pg_name (X := cxComp X scope N' C s₀ H₀ ex) (i := 1) nd (by show N'[1]? = some x2; rw [hN']; rfl) (Or.inl (lookup_relabel_local hx2)) (.inr (lookup_relabel_local hx2))) pgs_nil)))
    ht he hN' hk hcell hnames hfr hjs hs I h ?_) (fun _ s' hq => wpAny_pure (wpAny_pure hq)) fun _ _ e => e)
  intro B C H' s4 m I4 q hn ce
  refine wpAny_assign_Name (store_ok2 I4 hN hy hl (v := .ref B) rfl (fun s5 I5 ⟨a, sb, ha⟩ => ?_) hf)
  have hne : C ≠ a := by
    rcases ha with rfl | ha
    · exact ce.ne
    · exact Ne.symm (ce.cl _ _ ha)
  refine ⟨m, hn.sameBut sb hne, fun h' hsb => ⟨_, H', I5.turned (t' := s5.toks) (it := C) (fun b o hb e => (hsb.2 b hb).trans e) ce.no ce.ne (.inr ce.new) ce.cl ce.pn, q⟩⟩
end L2

set_option Elab.async false
set_option linter.all false
set_option maxRecDepth 100000
namespace WM
open PySem PySem.StrLaws

end WM

set_option Elab.async false
set_option linter.all false
set_option maxRecDepth 100000
namespace L2
open PySem PySem.Spec PyProof.Rows
/-! ### any(xs) of a list of truths -/
section
variable {X : Cx}
end
/-! ### a def that a name of the frame holds -/
section
variable {X : Cx} {x y : Str} {ps : List Str} {sp : Sp} {j k : Nat} {e : Expr} {es : List Expr} {t : TA} {p pos : Pos} {f : Addr}
end
/-! ### a comprehension over a zip of two tuples -/
end L2

set_option Elab.async false
set_option linter.all false
set_option maxRecDepth 100000
namespace L2
open PySem PySem.Spec PyProof.Rows
open PySem.AutoSeq1 (wpAny_loadPart')
section
variable {s : Shared} {A : Around} {l : Addr} {o : Obj} {es : Array DictEntry} {ep : Nat}
end
end L2

set_option Elab.async false
set_option linter.all false
set_option maxRecDepth 100000
namespace L2
open PySem PySem.Spec PyProof.Rows
section
variable {X : Cx}
end
end L2

set_option Elab.async false
set_option linter.all false
set_option maxRecDepth 100000
namespace L2
open PySem PySem.Spec PyProof.Rows
/-! ### d.values() -/
section
variable {X : Cx} {o : Expr} {td : TE} {apos cpos : Pos}
/-! ### a dict frozen while its values are walked -/
end
/-! ### the walk -/
end L2

set_option Elab.async false
set_option linter.all false
set_option maxRecDepth 100000
namespace L2
open PySem PySem.Spec PyProof.Rows
/-! ### f'..' -/
section
variable {X : Cx} {e a b : Expr} {es : List Expr} {te : TE} {t : Str → TE} {pos : Pos}
end
end L2

set_option Elab.async false
set_option linter.all false
set_option maxRecDepth 100000
namespace L2
open PySem PySem.Spec PyProof.Rows
/-! ### a class called within a try's suite -/
section
variable {X : Cx} {k j : Nat} {f C : Addr} {fd : FuncData} {ps : List Str} {sp : Sp} {Eb : St → XK} {x m : Str} {p pos apos : Pos} {e o : Expr} {es : List Expr} {ta : TE} {t : TA}
end
end L2

set_option Elab.async false
set_option linter.all false
set_option maxRecDepth 100000
set_option maxHeartbeats 1000000
namespace L2
open PySem PySem.Spec PyProof.Rows
section
variable {X : Cx}
end
end L2

set_option Elab.async false
set_option linter.all false
set_option maxRecDepth 100000
set_option maxHeartbeats 1000000
/-! ### the sort of fewer than 64 things, by a strict order: the tree of its questions -/
namespace L2.Srt
open PySem PySem.W PyProof.Rows
section
variable {n : Nat} {lt : Nat → Nat → Bool} {s : Shared} {cmp : Nat → Nat → (Bool → Shared → Prop) → Shared → Prop}
end
end L2.Srt

set_option Elab.async false
set_option linter.all false
set_option maxRecDepth 100000
set_option maxHeartbeats 2000000
namespace L2
open PySem PySem.Spec PyProof.Rows
/-! ### keys of three ints -/
abbrev K3 := Int × Int × Int
def lt3 (a b : K3) : Bool := if a.1 = b.1 then (if a.2.1 = b.2.1 then decide (a.2.2 < b.2.2) else decide (a.2.1 < b.2.1)) else decide (a.1 < b.1)
def k3 (a : K3) : List V := [.int a.1, .int a.2.1, .int a.2.2]
theorem lt3_iff (a b : K3) : lt3 a b = true ↔ (a.1 < b.1 ∨ (a.1 = b.1 ∧ (a.2.1 < b.2.1 ∨ (a.2.1 = b.2.1 ∧ a.2.2 < b.2.2)))) := by
  unfold lt3
  by_cases h1 : a.1 = b.1
  · rw [if_pos h1]
    by_cases h2 : a.2.1 = b.2.1
    · rw [if_pos h2]
      simp only [decide_eq_true_eq]
      omega
    · rw [if_neg h2]
      simp only [decide_eq_true_eq]
      omega
  · rw [if_neg h1]
    simp only [decide_eq_true_eq]
    omega
theorem lt3_asym {a b : K3} (h : lt3 a b = true) : lt3 b a = false := by
  cases e : lt3 b a with
  | false => rfl
  | true =>
    rw [lt3_iff] at h e
    omega
theorem vals3 {a b c : Int} {its : List Value} (r : Vals [.int a, .int b, .int c] its) : ∃ t u v, its = [.int a t, .int b u, .int c v] := by
  cases r with
  | cons h1 r =>
    cases r with
    | cons h2 r =>
      cases r with
      | cons h3 r =>
        cases r
        obtain ⟨t, rfl⟩ := h1
        obtain ⟨u, rfl⟩ := h2
        obtain ⟨v, rfl⟩ := h3
        exact ⟨t, u, v, rfl⟩
section
variable {X : Cx} {pins : List (Addr × Obj)} {σ : St} {H : Hp} {s : Shared}
theorem lt_k3 (I : Inv X pins σ H s) {x y : Addr} {a b : K3} (hx : H x = some (.tup (k3 a))) (hy : H y = some (.tup (k3 b))) {A : Around} {Q : Bool → Shared → Prop} {E : Value → Shared → Prop} (h : Q (lt3 a b) s) : wpAny (model X.prog X.w) A (keyLt' (tuples' true) (.ref x) (.ref y)) Q E s := by
  obtain ⟨its, r, ⟨ox, ex, cx, nx, dx⟩, _⟩ := I.tuple (SqT.of hx)
  obtain ⟨jts, r', ⟨oy, ey, cy, ny, dy⟩, _⟩ := I.tuple (SqT.of hy)
  obtain ⟨t1, t2, t3, rfl⟩ := vals3 r
  obtain ⟨u1, u2, u3, rfl⟩ := vals3 r'
  refine PySem.W.kat_lt ex dx ey dy ?_
  show PySem.W.KatLex X.prog X.w A true (decide (3 < 3)) Q [(Value.int a.1 t1, Value.int b.1 u1), (Value.int a.2.1 t2, Value.int b.2.1 u2), (Value.int a.2.2 t3, Value.int b.2.2 u3)] 0 s
  unfold lt3 at h
  refine PySem.W.kat_cons (SeqAt.EqAt.int_int _ _ _ _ _ _ _ _ ?_)
  refine PySem.W.kat_go (fun e1 => PySem.W.kat_yes ?_) (fun e1 => PySem.W.kat_no ?_)
  · have e1' : a.1 = b.1 := by simpa using e1
    rw [if_pos e1'] at h
    refine PySem.W.kat_cons (SeqAt.EqAt.int_int _ _ _ _ _ _ _ _ ?_)
    refine PySem.W.kat_go (fun e2 => PySem.W.kat_yes ?_) (fun e2 => PySem.W.kat_no ?_)
    · have e2' : a.2.1 = b.2.1 := by simpa using e2
      rw [if_pos e2'] at h
      refine PySem.W.kat_cons (SeqAt.EqAt.int_int _ _ _ _ _ _ _ _ ?_)
      refine PySem.W.kat_go (fun e3 => PySem.W.kat_yes ?_) (fun e3 => PySem.W.kat_no ?_)
      · have e3' : a.2.2 = b.2.2 := by simpa using e3
        refine PySem.W.kat_nil ?_
        rw [e3', decide_eq_false (Int.lt_irrefl _)] at h
        exact h
      · exact PySem.W.kat_one _ _ (lt_int h)
    · have e2' : ¬ a.2.1 = b.2.1 := by simpa using e2
      rw [if_neg e2'] at h
      exact PySem.W.kat_one _ _ (lt_int h)
  · have e1' : ¬ a.1 = b.1 := by simpa using e1
    rw [if_neg e1'] at h
    exact oneLt_int h
/-! ### a context further in -/
end
end L2

set_option Elab.async false
set_option linter.all false
set_option maxRecDepth 100000
set_option maxHeartbeats 2000000
namespace L2.Tim
open PySem PyProof.Rows
def gallop' : Bool → Keyed → Array Keyed → Nat → Nat → Nat → StateT SortSt Sem (Option Nat) := sortPriv% PySem.Builtin.gallop
/-- the question that a gallop asks at place i -/
def byOf (left : Bool) (key : Keyed) (arr : Array Keyed) (base i : Nat) : StateT SortSt Sem (Option Bool) := elem' arr (base + i) >>= fun x => if left then lt' x key else lt' key x >>= fun b => pure (b.map (!·))
section
variable {prog : Program} {w : World} {A : Around} {E : Value → Shared → Prop} {s : Shared} {κ : SortKind}
/-- a question by place whose answers are B, and go from yes to no -/
structure Ask (prog : Program) (w : World) (A : Around) (E : Value → Shared → Prop) (s : Shared) (by_ : Nat → StateT SortSt Sem (Option Bool)) (B : Nat → Bool) (n : Nat) (st : SortSt) : Prop where
  ask : ∀ i, i < n → ∀ Q : Option Bool → SortSt → Prop, Q (some (B i)) st → wpS (model prog w) A E s (by_ i) Q st
  mono : ∀ i j, i ≤ j → j < n → B j = true → B i = true
theorem Ask.no {by_ : Nat → StateT SortSt Sem (Option Bool)} {B : Nat → Bool} {n : Nat} {st : SortSt} (a : Ask prog w A E s by_ B n st) {i j : Nat} (h : i ≤ j) (hj : j < n) (e : B i = false) : B j = false := by
  cases h' : B j with
  | false => rfl
  | true => rw [a.mono i j h hj h'] at e; cases e
theorem gallopB_ok {left : Bool} {key : Keyed} {arr : Array Keyed} {base : Nat} {B : Nat → Bool} {n hint : Nat} {st : SortSt} (a : Ask prog w A E s (byOf left key arr base) B n st) (hh : hint < n) {Q : Option Nat → SortSt → Prop}
    (q : ∀ k, k ≤ n → (∀ i, i < k → B i = true) → (∀ i, k ≤ i → i < n → B i = false) → Q (some k) st) : wpS (model prog w) A E s (gallop' left key arr base n hint) Q st := by
  refine wpS_bind (a.ask _ hh _ ?_)
  dsimp only
  cases hb : B hint
  case' true =>
    rw [if_pos rfl]
    refine wpS_bind (wpS_mono (wpS_forRange (I := fun x c st' => st = st' ∧ ∃ l o : Nat, c = (none, l, o) ∧ x + 1 ≤ o ∧ l < o ∧ (hint + l < n) ∧ B (hint + l) = true)
      (Q := fun c st' => st = st' ∧ ∃ l o : Nat, c = (none, l, o) ∧ l < o ∧ hint + l < n ∧ B (hint + l) = true ∧ (o ≥ n - hint ∨ (hint + o < n ∧ B (hint + o) = false))) ?_ ?_ ⟨rfl, 0, 1, rfl, by omega, by omega, by omega, hb⟩) ?_)
    · rintro x c st' _ hx ⟨rfl, l, o, rfl, a1, a2, a3, a4⟩
      dsimp only
      by_cases hge : o ≥ n - hint
      · rw [if_pos hge]
        exact wpS_pure ⟨rfl, l, o, rfl, a2, a3, a4, .inl hge⟩
      · rw [if_neg hge]
        refine wpS_bind (a.ask _ (by omega) _ ?_)
        dsimp only
        cases hb2 : B (hint + o) with
        | false =>
          rw [if_pos (show (!false) = true from rfl)]
          exact wpS_pure ⟨rfl, l, o, rfl, a2, a3, a4, .inr ⟨by omega, hb2⟩⟩
        | true =>
          rw [if_neg (by simp)]
          exact wpS_pure ⟨rfl, o, 2 * o + 1, rfl, by omega, by omega, by omega, hb2⟩
    · rintro c st' ⟨rfl, l, o, rfl, a1, a2, a3, a4⟩
      exact ⟨rfl, l, o, rfl, a2, a3, a4, .inl (by omega)⟩
    rintro c st' ⟨rfl, l, o, rfl, a2, a3, a4, a5⟩
    dsimp only
    have h1 : hint + l + 1 ≤ hint + min o (n - hint) := by omega
    have h2 : hint + min o (n - hint) ≤ n := by omega
    have h3 : ∀ i, i < hint + l + 1 → B i = true := fun i hi => a.mono i (hint + l) (by omega) a3 a4
    have h4 : ∀ i, hint + min o (n - hint) ≤ i → i < n → B i = false := fun i hi hn => by
      rcases a5 with a5 | ⟨a5, a6⟩
      · omega
      · exact a.no (show hint + o ≤ i by omega) hn a6
    clear a2 a3 a4 a5
    generalize hint + l + 1 = lo at h1 h3 ⊢
    generalize hint + min o (n - hint) = hi at h1 h2 h4 ⊢
  case' false =>
    rw [if_neg Bool.false_ne_true]
    refine wpS_bind (wpS_mono (wpS_forRange (I := fun x c st' => st = st' ∧ ∃ l o : Nat, c = (none, l, o) ∧ x + 1 ≤ o ∧ l < o ∧ l ≤ hint ∧ B (hint - l) = false)
      (Q := fun c st' => st = st' ∧ ∃ l o : Nat, c = (none, l, o) ∧ l < o ∧ l ≤ hint ∧ B (hint - l) = false ∧ (o ≥ hint + 1 ∨ B (hint - o) = true)) ?_ ?_ ⟨rfl, 0, 1, rfl, by omega, by omega, by omega, hb⟩) ?_)
    · rintro x c st' _ hx ⟨rfl, l, o, rfl, a1, a2, a3, a4⟩
      dsimp only
      by_cases hge : o ≥ hint + 1
      · rw [if_pos hge]
        exact wpS_pure ⟨rfl, l, o, rfl, a2, a3, a4, .inl hge⟩
      · rw [if_neg hge]
        refine wpS_bind (a.ask _ (by omega) _ ?_)
        dsimp only
        cases hb2 : B (hint - o) with
        | true =>
          rw [if_pos rfl]
          exact wpS_pure ⟨rfl, l, o, rfl, a2, a3, a4, .inr hb2⟩
        | false =>
          rw [if_neg Bool.false_ne_true]
          exact wpS_pure ⟨rfl, o, 2 * o + 1, rfl, by omega, by omega, by omega, hb2⟩
    · rintro c st' ⟨rfl, l, o, rfl, a1, a2, a3, a4⟩
      exact ⟨rfl, l, o, rfl, a2, a3, a4, .inl (by omega)⟩
    rintro c st' ⟨rfl, l, o, rfl, a2, a3, a4, a5⟩
    dsimp only
    have h1 : hint + 1 - min o (hint + 1) ≤ hint - l := by omega
    have h2 : hint - l ≤ n := by omega
    have h3 : ∀ i, i < hint + 1 - min o (hint + 1) → B i = true := fun i hi => by
      rcases a5 with a5 | a5
      · omega
      · exact a.mono i (hint - o) (by omega) (by omega) a5
    have h4 : ∀ i, hint - l ≤ i → i < n → B i = false := fun i hi hn => a.no hi hn a4
    clear a2 a3 a4 a5
    generalize hint + 1 - min o (hint + 1) = lo at h1 h3 ⊢
    generalize hint - l = hi at h1 h2 h4 ⊢
  all_goals
    refine wpS_bind (wpS_mono (wpS_forRange (I := fun x c st' => st = st' ∧ ∃ l r : Nat, c = (none, l, r) ∧ l ≤ r ∧ r ≤ n ∧ r - l ≤ n - x ∧ (∀ i, i < l → B i = true) ∧ ∀ i, r ≤ i → i < n → B i = false)
      (Q := fun c st' => st = st' ∧ ∃ r : Nat, c = (none, r, r) ∧ r ≤ n ∧ (∀ i, i < r → B i = true) ∧ ∀ i, r ≤ i → i < n → B i = false) ?_ ?_ ⟨rfl, lo, hi, rfl, h1, h2, by omega, h3, h4⟩) ?_)
    · rintro x c st' _ hx ⟨rfl, l, r, rfl, a1, a2, a3, a4, a5⟩
      dsimp only
      by_cases hge : l ≥ r
      · rw [if_pos hge]
        obtain rfl : l = r := by omega
        exact wpS_pure ⟨rfl, l, rfl, a2, a4, a5⟩
      · rw [if_neg hge]
        refine wpS_bind (a.ask _ (by omega) _ ?_)
        dsimp only
        cases hb : B (l + (r - l) / 2) with
        | true =>
          rw [if_pos rfl]
          exact wpS_pure ⟨rfl, _, r, rfl, by omega, a2, by omega, fun i hi => a.mono i _ (by omega) (by omega) hb, a5⟩
        | false =>
          rw [if_neg Bool.false_ne_true]
          exact wpS_pure ⟨rfl, l, _, rfl, by omega, by omega, by omega, a4, fun i hi hn => a.no hi hn hb⟩
    · rintro c st' ⟨rfl, l, r, rfl, a1, a2, a3, a4, a5⟩
      obtain rfl : l = r := by omega
      exact ⟨rfl, l, rfl, a2, a4, a5⟩
    · rintro c st' ⟨rfl, r, rfl, a2, a4, a5⟩
      exact wpS_pure (q r a2 a4 a5)
end
end L2.Tim

set_option Elab.async false
set_option linter.all false
set_option maxRecDepth 100000
set_option maxHeartbeats 2000000
namespace L2.Tim
open PySem PyProof.Rows
/-! two rows that are merged -/
structure St {α : Type} (R : α → α → Prop) (tot out ra rb : List α) : Prop where
  pm : (out ++ (ra ++ rb)).Perm tot
  so : out.Pairwise R
  sa : ra.Pairwise R
  sb : rb.Pairwise R
  oa : ∀ x ∈ out, ∀ y ∈ ra, R x y
  ob : ∀ x ∈ out, ∀ y ∈ rb, R x y
section
variable {α : Type} {R : α → α → Prop} {tot out X ra rb : List α}
theorem St.symm (h : St R tot out ra rb) : St R tot out rb ra := ⟨(List.Perm.append_left out List.perm_append_comm).trans h.pm, h.so, h.sb, h.sa, h.ob, h.oa⟩
theorem St.mvA (h : St R tot out (X ++ ra) rb) (hx : ∀ x ∈ X, ∀ y ∈ rb, R x y) : St R tot (out ++ X) ra rb := by
  obtain ⟨s1, s2, s3⟩ := List.pairwise_append.mp h.sa
  refine ⟨by have := h.pm; simp only [List.append_assoc] at this ⊢; exact this, List.pairwise_append.mpr ⟨h.so, s1, fun x hx' y hy => h.oa x hx' y (List.mem_append_left _ hy)⟩, s2, h.sb, fun x hx' y hy => ?_, fun x hx' y hy => ?_⟩
  · rcases List.mem_append.mp hx' with h1 | h1
    · exact h.oa x h1 y (List.mem_append_right _ hy)
    · exact s3 x h1 y hy
  · rcases List.mem_append.mp hx' with h1 | h1
    · exact h.ob x h1 y hy
    · exact hx x h1 y hy
theorem St.mvB (h : St R tot out ra (X ++ rb)) (hx : ∀ x ∈ X, ∀ y ∈ ra, R x y) : St R tot (out ++ X) ra rb := (h.symm.mvA hx).symm
theorem St.end_ (h : St R tot out ra []) : (out ++ ra).Perm tot ∧ (out ++ ra).Pairwise R := by
  have := h.pm
  rw [List.append_nil] at this
  exact ⟨this, List.pairwise_append.mpr ⟨h.so, h.sa, h.oa⟩⟩
theorem St.last {z : α} (h : St R tot out [z] rb) (hz : ∀ y ∈ rb, R y z) : (out ++ rb ++ [z]).Perm tot ∧ (out ++ rb ++ [z]).Pairwise R := by
  have e : St R tot out [z] (rb ++ []) := by rw [List.append_nil]; exact h
  exact (e.mvB fun x hx y hy => by rw [List.mem_singleton.mp hy]; exact hz x hx).end_
end
def g (a : Array Keyed) (i : Nat) : Keyed := a.getD i (Value.none, Value.none)
theorem g_eq {a : Array Keyed} {i : Nat} (h : i < a.size) : g a i = a.toList[i]'(by rw [Array.length_toList]; exact h) := by unfold g; simp [h]
theorem g_mem {a : Array Keyed} {i : Nat} (h : i < a.size) : g a i ∈ a.toList := by rw [g_eq h]; exact List.getElem_mem _
theorem drop_g {a : Array Keyed} {i : Nat} (h : i < a.size) : a.toList.drop i = [g a i] ++ a.toList.drop (i + 1) := by
  rw [g_eq h, List.drop_eq_getElem_cons (by rw [Array.length_toList]; exact h)]
  rfl
theorem ext_drop (a : Array Keyed) (i : Nat) : (a.extract i a.size).toList = a.toList.drop i := by
  rw [Array.toList_extract]
  simp only [List.extract]
  rw [List.take_of_length_le (by rw [List.length_drop, Array.length_toList]; exact Nat.le_refl _)]
theorem ext_take (a : Array Keyed) (i k : Nat) : (a.extract i (i + k)).toList = (a.toList.drop i).take k := by
  rw [Array.toList_extract]
  simp [List.extract]
theorem drop_take (l : List Keyed) (i k : Nat) : l.drop i = (l.drop i).take k ++ l.drop (i + k) := by
  rw [← List.drop_drop]
  exact (List.take_append_drop k _).symm
theorem in_drop {a : Array Keyed} {i : Nat} {x : Keyed} (h : x ∈ a.toList.drop i) : ∃ j, i ≤ j ∧ j < a.size ∧ x = g a j := by
  obtain ⟨m, hm⟩ := List.getElem?_of_mem h
  rw [List.getElem?_drop] at hm
  obtain ⟨h1, h2⟩ := List.getElem?_eq_some_iff.mp hm
  rw [Array.length_toList] at h1
  exact ⟨i + m, by omega, h1, by rw [g_eq h1]; exact h2.symm⟩
theorem in_take {a : Array Keyed} {i k : Nat} {x : Keyed} (h : x ∈ (a.toList.drop i).take k) : ∃ j, i ≤ j ∧ j < i + k ∧ j < a.size ∧ x = g a j := by
  obtain ⟨m, hm⟩ := List.getElem?_of_mem h
  rw [List.getElem?_take] at hm
  by_cases hk : m < k
  · rw [if_pos hk, List.getElem?_drop] at hm
    obtain ⟨h1, h2⟩ := List.getElem?_eq_some_iff.mp hm
    rw [Array.length_toList] at h1
    exact ⟨i + m, by omega, by omega, h1, by rw [g_eq h1]; exact h2.symm⟩
  · rw [if_neg hk] at hm; cases hm
/-- sorted from i to j -/
def Seg (L : Keyed → Keyed → Bool) (a : Array Keyed) (i j : Nat) : Prop := ∀ m n, i ≤ m → m ≤ n → n < j → L (g a n) (g a m) = false
theorem Seg.pw {L : Keyed → Keyed → Bool} {a : Array Keyed} (h : Seg L a 0 a.size) : a.toList.Pairwise fun x y => L y x = false := by
  rw [List.pairwise_iff_getElem]
  intro i j hi hj hij
  rw [Array.length_toList] at hi hj
  have := h i j (Nat.zero_le _) (Nat.le_of_lt hij) hj
  rwa [g_eq hi, g_eq hj] at this
theorem Seg.of {L : Keyed → Keyed → Bool} {a : Array Keyed} (rf : ∀ x, L x x = false) (h : a.toList.Pairwise fun x y => L y x = false) : Seg L a 0 a.size := by
  intro m n _ hmn hn
  by_cases e : m = n
  · subst e; exact rf _
  · have := List.pairwise_iff_getElem.mp h m n (by rw [Array.length_toList]; omega) (by rw [Array.length_toList]; omega) (by omega)
    rw [g_eq hn, g_eq (show m < a.size by omega)]
    exact this
/-! the questions of a sort: pure answers -/
structure Cmp (prog : Program) (w : World) (A : Around) (E : Value → Shared → Prop) (s : Shared) (κ : SortKind) (L : Keyed → Keyed → Bool) (P : Keyed → Prop) : Prop where
  lt : ∀ (st : SortSt) (x y : Keyed) (Q : Option Bool → SortSt → Prop), P x → P y → kindOf st = κ → Q (some (L x y)) st → wpS (model prog w) A E s (lt' x y) Q st
  tr : ∀ x y z, L y x = false → L z y = false → L z x = false
  as : ∀ x y, L x y = true → L y x = false
section
variable {prog : Program} {w : World} {A : Around} {E : Value → Shared → Prop} {s : Shared} {κ : SortKind} {L : Keyed → Keyed → Bool} {P : Keyed → Prop} {st : SortSt}
theorem Cmp.rf (C : Cmp prog w A E s κ L P) (x : Keyed) : L x x = false := by
  cases h : L x x with
  | false => rfl
  | true => have := C.as x x h; rw [h] at this; cases this
/-- x < y ≤ z, x ≤ y < z -/
theorem Cmp.tr1 (C : Cmp prog w A E s κ L P) {x y z : Keyed} (h1 : L x y = true) (h2 : L z y = false) : L x z = true := by
  cases h : L x z with
  | true => rfl
  | false => have := C.tr y z x h2 h; rw [h1] at this; cases this
theorem Cmp.tr2 (C : Cmp prog w A E s κ L P) {x y z : Keyed} (h1 : L y x = false) (h2 : L y z = true) : L x z = true := by
  cases h : L x z with
  | true => rfl
  | false => have := C.tr z x y h h1; rw [h2] at this; cases this
theorem wpS_elem {a : Array Keyed} {i : Nat} {Q : Keyed → SortSt → Prop} (h : i < a.size) (q : Q (g a i) st) : wpS (model prog w) A E s (elem' a i) Q st := by
  rw [elem'_eq]
  have e : a[i]? = some (g a i) := by unfold g; simp [h]
  rw [e]
  exact wpS_pure q
theorem wpS_rule {n : String} {Q : Unit → SortSt → Prop} (q : Q () st) : wpS (model prog w) A E s (liftM (rule n)) Q st := wpS_lift (wpAny_rule ⟨rfl, q⟩)
theorem gallopL_ok (C : Cmp prog w A E s κ L P) {key : Keyed} {a : Array Keyed} {i n hint : Nat} {Q : Option Nat → SortSt → Prop} (hk : kindOf st = κ) (pk : P key) (pa : ∀ j, j < a.size → P (g a j)) (hn : i + n ≤ a.size) (hh : hint < n) (hs : Seg L a i (i + n))
    (q : ∀ k, k ≤ n → (∀ j, i ≤ j → j < i + k → L (g a j) key = true) → (∀ j, i + k ≤ j → j < i + n → L (g a j) key = false) → Q (some k) st) : wpS (model prog w) A E s (gallop' true key a i n hint) Q st := by
  refine gallopB_ok (B := fun j => L (g a (i + j)) key) ⟨fun j hj Q' q' => ?_, fun j m hjm hm e => C.tr2 (hs _ _ (by omega) (by omega) (by omega)) e⟩ hh (fun k h1 h2 h3 => q k h1 (fun j h4 h5 => ?_) (fun j h4 h5 => ?_))
  · refine wpS_bind (wpS_elem (by omega) ?_)
    rw [if_pos rfl]
    exact C.lt _ _ _ _ (pa _ (by omega)) pk hk q'
  · have := h2 (j - i) (by omega)
    rwa [show i + (j - i) = j by omega] at this
  · have := h3 (j - i) (by omega) (by omega)
    rwa [show i + (j - i) = j by omega] at this
theorem gallopR_ok (C : Cmp prog w A E s κ L P) {key : Keyed} {a : Array Keyed} {i n hint : Nat} {Q : Option Nat → SortSt → Prop} (hk : kindOf st = κ) (pk : P key) (pa : ∀ j, j < a.size → P (g a j)) (hn : i + n ≤ a.size) (hh : hint < n) (hs : Seg L a i (i + n))
    (q : ∀ k, k ≤ n → (∀ j, i ≤ j → j < i + k → L key (g a j) = false) → (∀ j, i + k ≤ j → j < i + n → L key (g a j) = true) → Q (some k) st) : wpS (model prog w) A E s (gallop' false key a i n hint) Q st := by
  refine gallopB_ok (B := fun j => !L key (g a (i + j))) ⟨fun j hj Q' q' => ?_, fun j m hjm hm e => ?_⟩ hh (fun k h1 h2 h3 => q k h1 (fun j h4 h5 => ?_) (fun j h4 h5 => ?_))
  · refine wpS_bind (wpS_elem (by omega) ?_)
    rw [if_neg Bool.false_ne_true]
    exact wpS_bind (C.lt _ _ _ _ pk (pa _ (by omega)) hk (wpS_pure q'))
  · have e' : L key (g a (i + m)) = false := by simpa using e
    have : L key (g a (i + j)) = false := C.tr _ _ _ (hs (i + j) (i + m) (by omega) (by omega) (by omega)) e'
    simp [this]
  · have := h2 (j - i) (by omega)
    rw [show i + (j - i) = j by omega] at this
    simpa using this
  · have := h3 (j - i) (by omega) (by omega)
    rw [show i + (j - i) = j by omega] at this
    simpa using this
end
end L2.Tim

set_option Elab.async false
set_option linter.all false
set_option maxRecDepth 100000
set_option maxHeartbeats 8000000
namespace L2.Tim
open PySem PyProof.Rows
def setG (g : Nat) : StateT SortSt Sem Unit := modify fun s => SortSt.mk' (kindOf s) (arrOf s) (pendingOf s) g (failedOf s)
def mergeLo' : Array Keyed → Array Keyed → StateT SortSt Sem (Array Keyed) := sortPriv% PySem.Builtin.mergeLo
/-- but for minGallop alike -/
def Sg (st st' : SortSt) : Prop := kindOf st' = kindOf st ∧ arrOf st' = arrOf st ∧ pendingOf st' = pendingOf st ∧ failedOf st' = failedOf st
theorem Sg.refl (st : SortSt) : Sg st st := ⟨rfl, rfl, rfl, rfl⟩
theorem Sg.set {st st' : SortSt} (h : Sg st st') (n : Nat) : Sg st (SortSt.mk' (kindOf st') (arrOf st') (pendingOf st') n (failedOf st')) := h
def Good (L : Keyed → Keyed → Bool) (a b r : Array Keyed) : Prop := r.toList.Perm (a.toList ++ b.toList) ∧ r.toList.Pairwise fun x y => L y x = false
section
variable {L : Keyed → Keyed → Bool} {a b out : Array Keyed} {ia ib k : Nat}
abbrev Lo (L : Keyed → Keyed → Bool) (a b out : Array Keyed) (ia ib : Nat) : Prop := St (fun x y => L y x = false) (a.toList ++ b.toList) out.toList (a.toList.drop ia) (b.toList.drop ib)
theorem lo_done (M : Lo L a b out ia ib) (e : ib = b.size ∨ ia = a.size) : Good L a b (out ++ a.extract ia a.size ++ b.extract ib b.size) := by
  unfold Good
  rw [Array.toList_append, Array.toList_append, ext_drop, ext_drop]
  rcases e with rfl | rfl
  · have e2 : b.toList.drop b.size = [] := List.drop_eq_nil_of_le (by rw [Array.length_toList]; exact Nat.le_refl _)
    have M' := M
    unfold Lo at M'
    rw [e2] at M' ⊢
    rw [List.append_nil]
    exact M'.end_
  · have e2 : a.toList.drop a.size = [] := List.drop_eq_nil_of_le (by rw [Array.length_toList]; exact Nat.le_refl _)
    have M' := M
    unfold Lo at M'
    rw [e2] at M' ⊢
    rw [List.append_nil]
    exact M'.symm.end_
theorem lo_last (M : Lo L a b out ia ib) (hla : ∀ j, j < b.size → L (g a (a.size - 1)) (g b j) = false) (e : ia + 1 = a.size) : Good L a b (out ++ b.extract ib b.size ++ a.extract ia a.size) := by
  unfold Good
  rw [Array.toList_append, Array.toList_append, ext_drop, ext_drop]
  have M' := M
  unfold Lo at M'
  have e2 : a.toList.drop ia = [g a ia] := by
    rw [drop_g (by omega), List.drop_eq_nil_of_le (by rw [Array.length_toList]; omega)]
    rfl
  rw [e2] at M' ⊢
  refine M'.last fun y hy => ?_
  obtain ⟨j, _, hj, rfl⟩ := in_drop hy
  have := hla j hj
  rwa [show a.size - 1 = ia by omega] at this
variable (sa : Seg L a 0 a.size) (sb : Seg L b 0 b.size) (tr : ∀ x y z, L y x = false → L z y = false → L z x = false)
include sa tr in
theorem lo_pushB (M : Lo L a b out ia ib) (ha : ia < a.size) (hb : ib < b.size) (h : L (g a ia) (g b ib) = false) : Lo L a b (out.push (g b ib)) ia (ib + 1) := by
  have M' := M
  unfold Lo at M' ⊢
  rw [drop_g hb] at M'
  rw [Array.toList_push]
  refine M'.mvB fun x hx y hy => ?_
  rw [List.mem_singleton.mp hx]
  obtain ⟨j, h1, h2, rfl⟩ := in_drop hy
  exact tr _ _ _ h (sa ia j (Nat.zero_le _) h1 h2)
include sb tr in
theorem lo_pushA (M : Lo L a b out ia ib) (ha : ia < a.size) (hb : ib < b.size) (h : L (g b ib) (g a ia) = false) : Lo L a b (out.push (g a ia)) (ia + 1) ib := by
  have M' := M
  unfold Lo at M' ⊢
  rw [drop_g ha] at M'
  rw [Array.toList_push]
  refine M'.mvA fun x hx y hy => ?_
  rw [List.mem_singleton.mp hx]
  obtain ⟨j, h1, h2, rfl⟩ := in_drop hy
  exact tr _ _ _ h (sb ib j (Nat.zero_le _) h1 h2)
include sb tr in
theorem lo_extA (M : Lo L a b out ia ib) (hb : ib < b.size) (h : ∀ j, ia ≤ j → j < ia + k → L (g b ib) (g a j) = false) : Lo L a b (out ++ a.extract ia (ia + k)) (ia + k) ib := by
  have M' := M
  unfold Lo at M' ⊢
  rw [drop_take a.toList ia k] at M'
  rw [Array.toList_append, ext_take]
  refine M'.mvA fun x hx y hy => ?_
  obtain ⟨i, i1, i2, i3, rfl⟩ := in_take hx
  obtain ⟨j, h1, h2, rfl⟩ := in_drop hy
  exact tr _ _ _ (h i i1 i2) (sb ib j (Nat.zero_le _) h1 h2)
include sa tr in
theorem lo_extB (M : Lo L a b out ia ib) (ha : ia < a.size) (h : ∀ j, ib ≤ j → j < ib + k → L (g a ia) (g b j) = false) : Lo L a b (out ++ b.extract ib (ib + k)) ia (ib + k) := by
  have M' := M
  unfold Lo at M' ⊢
  rw [drop_take b.toList ib k] at M'
  rw [Array.toList_append, ext_take]
  refine M'.mvB fun x hx y hy => ?_
  obtain ⟨i, i1, i2, i3, rfl⟩ := in_take hx
  obtain ⟨j, h1, h2, rfl⟩ := in_drop hy
  exact tr _ _ _ (h i i1 i2) (sa ia j (Nat.zero_le _) h1 h2)
end
section
variable {prog : Program} {w : World} {A : Around} {E : Value → Shared → Prop} {s : Shared} {κ : SortKind} {L : Keyed → Keyed → Bool} {P : Keyed → Prop} {st : SortSt} {a b : Array Keyed}
theorem wpS_setG {n : Nat} {Q : Unit → SortSt → Prop} (q : Q () (SortSt.mk' (kindOf st) (arrOf st) (pendingOf st) n (failedOf st))) : wpS (model prog w) A E s (setG n) Q st := wpS_modify q
theorem beqT {m n : Nat} (h : (m == n) = true) : m = n := by simpa using h
theorem beqF {m n : Nat} (h : ¬ (m == n) = true) : m ≠ n := by simpa using h
theorem mergeLo_ok (C : Cmp prog w A E s κ L P) (hk : kindOf st = κ) (pa : ∀ j, j < a.size → P (g a j)) (pb : ∀ j, j < b.size → P (g b j)) (sa : Seg L a 0 a.size) (sb : Seg L b 0 b.size) (ha : 0 < a.size) (hb : 0 < b.size)
    (h0 : L (g a 0) (g b 0) = false) (hla : ∀ j, j < b.size → L (g a (a.size - 1)) (g b j) = false) {Q : Array Keyed → SortSt → Prop} (q : ∀ r st', Sg st st' → Good L a b r → Q r st') : wpS (model prog w) A E s (mergeLo' a b) Q st := by
  refine wpS_bind (wpS_rule ?_)
  dsimp only
  refine wpS_bind (wpS_elem hb ?_)
  have M0 : Lo L a b #[g b 0] 0 1 := by
    unfold Lo
    rw [List.drop_zero]
    refine ⟨?_, List.pairwise_singleton _ _, sa.pw, sb.pw.sublist (List.drop_sublist _ _), fun x hx y hy => ?_, fun x hx y hy => ?_⟩
    · have e : b.toList = [g b 0] ++ b.toList.drop 1 := by rw [← drop_g hb, List.drop_zero]
      conv => rhs; rw [e]
      show ([g b 0] ++ (a.toList ++ b.toList.drop 1)).Perm (a.toList ++ ([g b 0] ++ b.toList.drop 1))
      rw [← List.append_assoc, ← List.append_assoc]
      exact List.Perm.append_right _ List.perm_append_comm
    · obtain rfl : x = g b 0 := by simpa using hx
      have hy' : y ∈ a.toList.drop 0 := by rw [List.drop_zero]; exact hy
      obtain ⟨j, _, hj, rfl⟩ := in_drop hy'
      exact C.tr _ _ _ h0 (sa 0 j (Nat.le_refl _) (Nat.zero_le _) hj)
    · obtain rfl : x = g b 0 := by simpa using hx
      obtain ⟨j, h1, hj, rfl⟩ := in_drop hy
      exact sb 0 j (Nat.le_refl _) (Nat.zero_le _) hj
  by_cases e1 : (1 == b.size) = true
  · rw [if_pos e1]
    exact wpS_pure (q _ _ (Sg.refl _) (lo_done M0 (.inl (beqT e1))))
  rw [if_neg e1]
  have e1' := beqF e1
  by_cases e2 : (0 + 1 == a.size) = true
  · rw [if_pos e2]
    exact wpS_pure (q _ _ (Sg.refl _) (lo_last M0 hla (beqT e2)))
  rw [if_neg e2]
  have e2' := beqF e2
  refine wpS_bind (wpS_get ?_)
  refine wpS_bind (wpS_mono (wpS_forRange (I := fun x c st' => Sg st st' ∧ ∃ out ia ib mg, c = (none, out, ia, ib, mg) ∧ Lo L a b out ia ib ∧ ia + 1 < a.size ∧ ib < b.size ∧ x ≤ ia + ib)
    (Q := fun c st' => Sg st st' ∧ ∃ r, c.1 = some r ∧ Good L a b r) ?_ ?_ ⟨Sg.refl _, _, 0, 1, _, rfl, M0, by omega, by omega, by omega⟩) ?_)
  rotate_left
  · rintro c st' ⟨sg, out, ia, ib, mg, rfl, M, h1, h2, h3⟩
    exfalso
    omega
  · rintro ⟨c1, c2⟩ st' ⟨sg, r, e, gd⟩
    cases e
    exact wpS_pure (q r st' sg gd)
  rintro x c st' _ hx ⟨sg, out, ia, ib, mg, rfl, M, h1, h2, h3⟩
  dsimp only
  refine wpS_bind (wpS_mono (wpS_forRange (I := fun y c st' => Sg st st' ∧ ∃ out ia ib ac bc, c = (none, out, ia, ib, ac, bc) ∧ Lo L a b out ia ib ∧ ia + 1 < a.size ∧ ib < b.size ∧ x + y ≤ ia + ib)
    (Q := fun c st' => Sg st st' ∧ ((∃ r, c.1 = some r ∧ Good L a b r) ∨ ∃ out ia ib ac bc, c = (none, out, ia, ib, ac, bc) ∧ Lo L a b out ia ib ∧ ia + 1 < a.size ∧ ib < b.size ∧ x + 1 ≤ ia + ib)) ?_ ?_ ⟨sg, _, _, _, _, _, rfl, M, h1, h2, h3⟩) ?_)
  · clear M h1 h2 h3 sg
    rintro y c st' _ hy ⟨sg, out, ia, ib, ac, bc, rfl, M, h1, h2, h3⟩
    have hk' : kindOf st' = κ := sg.1.trans hk
    dsimp only
    refine wpS_bind (wpS_elem h2 ?_)
    refine wpS_bind (wpS_elem (by omega) ?_)
    refine wpS_bind (C.lt _ _ _ _ (pb _ h2) (pa _ (by omega)) hk' ?_)
    dsimp only
    cases hL : L (g b ib) (g a ia) with
    | true =>
      rw [if_pos rfl]
      refine wpS_bind (wpS_elem h2 ?_)
      have M1 := lo_pushB sa C.tr M (by omega) h2 (C.as _ _ hL)
      by_cases e : (ib + 1 == b.size) = true
      · rw [if_pos e]
        exact wpS_pure ⟨sg, .inl ⟨_, rfl, lo_done M1 (.inl (beqT e))⟩⟩
      · rw [if_neg e]
        have e' := beqF e
        split
        · exact wpS_pure ⟨sg, .inr ⟨_, _, _, _, _, rfl, M1, by omega, by omega, by omega⟩⟩
        · exact wpS_pure ⟨sg, _, _, _, _, _, rfl, M1, by omega, by omega, by omega⟩
    | false =>
      rw [if_neg Bool.false_ne_true]
      refine wpS_bind (wpS_elem (by omega) ?_)
      have M1 := lo_pushA sb C.tr M (by omega) h2 hL
      by_cases e : (ia + 1 + 1 == a.size) = true
      · rw [if_pos e]
        exact wpS_pure ⟨sg, .inl ⟨_, rfl, lo_last M1 hla (beqT e)⟩⟩
      · rw [if_neg e]
        have e' := beqF e
        split
        · exact wpS_pure ⟨sg, .inr ⟨_, _, _, _, _, rfl, M1, by omega, by omega, by omega⟩⟩
        · exact wpS_pure ⟨sg, _, _, _, _, _, rfl, M1, by omega, by omega, by omega⟩
  · rintro c st' ⟨sg, out, ia, ib, ac, bc, rfl, M, h1, h2, h3⟩
    exact ⟨sg, .inr ⟨out, ia, ib, ac, bc, rfl, M, h1, h2, by omega⟩⟩
  clear M h1 h2 h3 sg
  rintro c st' ⟨sg, ⟨r, e, gd⟩ | ⟨out, ia, ib, ac, bc, rfl, M, h1, h2, h3⟩⟩
  · obtain ⟨c1, c2⟩ := c
    cases e
    exact wpS_pure ⟨sg, r, rfl, gd⟩
  dsimp only
  refine wpS_bind (wpS_rule ?_)
  refine wpS_bind (wpS_mono (wpS_forRange (I := fun y c st' => Sg st st' ∧ ∃ out ia ib mg ac bc, c = (none, out, ia, ib, mg, ac, bc) ∧ Lo L a b out ia ib ∧ ia + 1 < a.size ∧ ib < b.size ∧ x + 1 ≤ ia + ib)
    (Q := fun c st' => Sg st st' ∧ ((∃ r, c.1 = some r ∧ Good L a b r) ∨ ∃ out ia ib mg ac bc, c = (none, out, ia, ib, mg, ac, bc) ∧ Lo L a b out ia ib ∧ ia + 1 < a.size ∧ ib < b.size ∧ x + 1 ≤ ia + ib)) ?_ ?_ ⟨sg, _, _, _, _, _, _, rfl, M, h1, h2, h3⟩) ?_)
  · clear M h1 h2 h3 sg
    rintro y c st' _ hy ⟨sg, out, ia, ib, mg, ac, bc, rfl, M, h1, hb, h3⟩
    dsimp only
    by_cases hm : mg > 1
    case' pos => rw [if_pos hm]
    case' neg => rw [if_neg hm]
    all_goals
      refine wpS_bind (wpS_setG ?_)
      have sg' := sg
      have hk' : kindOf st' = κ := sg.1.trans hk
      refine wpS_bind (wpS_elem hb ?_)
      refine wpS_bind (gallopR_ok C hk' (pb _ hb) pa (by omega) (by omega) (fun m n h1 h2 h3 => sa m n (Nat.zero_le _) h2 (by omega)) (fun k k1 k2 k3 => ?_))
      dsimp only
      by_cases k0 : k > 0
      · rw [if_pos k0]
        have M1 := lo_extA (k := k) sb C.tr M hb k2
        by_cases e1 : (ia + k + 1 == a.size) = true
        · rw [if_pos e1]
          exact wpS_pure ⟨sg', .inl ⟨_, rfl, lo_last M1 hla (beqT e1)⟩⟩
        · rw [if_neg e1]
          have e1' := beqF e1
          by_cases e2 : (ia + k == a.size) = true
          · rw [if_pos e2]
            exact wpS_pure ⟨sg', .inl ⟨_, rfl, lo_done M1 (.inr (beqT e2))⟩⟩
          · rw [if_neg e2]
            have e2' := beqF e2
            generalize ek : ia + k = ia' at *
            refine wpS_bind (wpS_elem hb ?_)
            have M2 := lo_pushB sa C.tr M1 (by omega) hb (C.as _ _ (k3 ia' (by omega) (by omega)))
            by_cases e3 : (ib + 1 == b.size) = true
            · rw [if_pos e3]
              exact wpS_pure ⟨sg', .inl ⟨_, rfl, lo_done M2 (.inl (beqT e3))⟩⟩
            · rw [if_neg e3]
              have e3' := beqF e3
              refine wpS_bind (wpS_elem (by omega) ?_)
              refine wpS_bind (gallopL_ok C hk' (pa _ (by omega)) pb (by omega) (by omega) (fun m n h1 h2 h3 => sb m n (Nat.zero_le _) h2 (by omega)) (fun k' l1 l2 l3 => ?_))
              dsimp only
              by_cases k0' : k' > 0
              · rw [if_pos k0']
                have M3 := lo_extB (k := k') sa C.tr M2 (by omega) (fun j h1 h2 => C.as _ _ (l2 j h1 h2))
                by_cases e4 : (ib + 1 + k' == b.size) = true
                · rw [if_pos e4]
                  exact wpS_pure ⟨sg', .inl ⟨_, rfl, lo_done M3 (.inl (beqT e4))⟩⟩
                · rw [if_neg e4]
                  have e4' := beqF e4
                  refine wpS_bind (wpS_elem (by omega) ?_)
                  have M4 := lo_pushA sb C.tr M3 (by omega) (by omega) (l3 (ib + 1 + k') (by omega) (by omega))
                  by_cases e5 : (ia' + 1 + 1 == a.size) = true
                  · rw [if_pos e5]
                    exact wpS_pure ⟨sg', .inl ⟨_, rfl, lo_last M4 hla (beqT e5)⟩⟩
                  · rw [if_neg e5]
                    have e5' := beqF e5
                    split
                    · exact wpS_pure ⟨sg', .inr ⟨_, _, _, _, _, _, rfl, M4, by omega, by omega, by omega⟩⟩
                    · exact wpS_pure ⟨sg', _, _, _, _, _, _, rfl, M4, by omega, by omega, by omega⟩
              · rw [if_neg k0']
                refine wpS_bind (wpS_elem (by omega) ?_)
                have M4 := lo_pushA sb C.tr M2 (by omega) (by omega) (l3 (ib + 1) (by omega) (by omega))
                by_cases e5 : (ia' + 1 + 1 == a.size) = true
                · rw [if_pos e5]
                  exact wpS_pure ⟨sg', .inl ⟨_, rfl, lo_last M4 hla (beqT e5)⟩⟩
                · rw [if_neg e5]
                  have e5' := beqF e5
                  split
                  · exact wpS_pure ⟨sg', .inr ⟨_, _, _, _, _, _, rfl, M4, by omega, by omega, by omega⟩⟩
                  · exact wpS_pure ⟨sg', _, _, _, _, _, _, rfl, M4, by omega, by omega, by omega⟩
      · rw [if_neg k0]
        have ek : k = 0 := by omega
        have M1 := M
        have h1' : ia + 1 < a.size := h1
        generalize ei : ia = ia' at *
        refine wpS_bind (wpS_elem hb ?_)
        have M2 := lo_pushB sa C.tr M1 (by omega) hb (C.as _ _ (k3 ia' (by omega) (by omega)))
        by_cases e3 : (ib + 1 == b.size) = true
        · rw [if_pos e3]
          exact wpS_pure ⟨sg', .inl ⟨_, rfl, lo_done M2 (.inl (beqT e3))⟩⟩
        · rw [if_neg e3]
          have e3' := beqF e3
          refine wpS_bind (wpS_elem (by omega) ?_)
          refine wpS_bind (gallopL_ok C hk' (pa _ (by omega)) pb (by omega) (by omega) (fun m n h1 h2 h3 => sb m n (Nat.zero_le _) h2 (by omega)) (fun k' l1 l2 l3 => ?_))
          dsimp only
          by_cases k0' : k' > 0
          · rw [if_pos k0']
            have M3 := lo_extB (k := k') sa C.tr M2 (by omega) (fun j h1 h2 => C.as _ _ (l2 j h1 h2))
            by_cases e4 : (ib + 1 + k' == b.size) = true
            · rw [if_pos e4]
              exact wpS_pure ⟨sg', .inl ⟨_, rfl, lo_done M3 (.inl (beqT e4))⟩⟩
            · rw [if_neg e4]
              have e4' := beqF e4
              refine wpS_bind (wpS_elem (by omega) ?_)
              have M4 := lo_pushA sb C.tr M3 (by omega) (by omega) (l3 (ib + 1 + k') (by omega) (by omega))
              by_cases e5 : (ia' + 1 + 1 == a.size) = true
              · rw [if_pos e5]
                exact wpS_pure ⟨sg', .inl ⟨_, rfl, lo_last M4 hla (beqT e5)⟩⟩
              · rw [if_neg e5]
                have e5' := beqF e5
                split
                · exact wpS_pure ⟨sg', .inr ⟨_, _, _, _, _, _, rfl, M4, by omega, by omega, by omega⟩⟩
                · exact wpS_pure ⟨sg', _, _, _, _, _, _, rfl, M4, by omega, by omega, by omega⟩
          · rw [if_neg k0']
            refine wpS_bind (wpS_elem (by omega) ?_)
            have M4 := lo_pushA sb C.tr M2 (by omega) (by omega) (l3 (ib + 1) (by omega) (by omega))
            by_cases e5 : (ia' + 1 + 1 == a.size) = true
            · rw [if_pos e5]
              exact wpS_pure ⟨sg', .inl ⟨_, rfl, lo_last M4 hla (beqT e5)⟩⟩
            · rw [if_neg e5]
              have e5' := beqF e5
              split
              · exact wpS_pure ⟨sg', .inr ⟨_, _, _, _, _, _, rfl, M4, by omega, by omega, by omega⟩⟩
              · exact wpS_pure ⟨sg', _, _, _, _, _, _, rfl, M4, by omega, by omega, by omega⟩
  · rintro c st' ⟨sg, out, ia, ib, mg, ac, bc, rfl, M, h1, h2, h3⟩
    exact ⟨sg, .inr ⟨out, ia, ib, mg, ac, bc, rfl, M, h1, h2, h3⟩⟩
  clear M h1 h2 h3 sg
  rintro c st' ⟨sg, ⟨r, e, gd⟩ | ⟨out, ia, ib, mg, ac, bc, rfl, M, h1, h2, h3⟩⟩
  · obtain ⟨c1, c2⟩ := c
    cases e
    exact wpS_pure ⟨sg, r, rfl, gd⟩
  dsimp only
  exact wpS_bind (wpS_setG (wpS_pure ⟨sg.set _, _, _, _, _, rfl, M, h1, h2, h3⟩))
end
end L2.Tim

set_option Elab.async false
set_option linter.all false
set_option maxRecDepth 100000
set_option maxHeartbeats 8000000
namespace L2.Tim
open PySem PyProof.Rows
def mergeHi' : Array Keyed → Array Keyed → StateT SortSt Sem (Array Keyed) := sortPriv% PySem.Builtin.mergeHi
theorem take_g {a : Array Keyed} {n : Nat} (h : 0 < n) (hn : n ≤ a.size) : (a.toList.take n).reverse = [g a (n - 1)] ++ (a.toList.take (n - 1)).reverse := by
  obtain ⟨m, rfl⟩ : ∃ m, n = m + 1 := ⟨n - 1, by omega⟩
  rw [List.take_succ_eq_append_getElem (by rw [Array.length_toList]; omega), List.reverse_append, Nat.add_sub_cancel, g_eq (by omega)]
  rfl
theorem ext_rev (a : Array Keyed) (i j : Nat) (h : i ≤ j) : (a.toList.take j).reverse = ((a.extract i j).reverse).toList ++ (a.toList.take i).reverse := by
  rw [Array.toList_reverse, Array.toList_extract, ← List.reverse_append]
  congr 1
  show _ = a.toList.take i ++ (a.toList.drop i).take (j - i)
  rw [← List.take_add, show i + (j - i) = j by omega]
theorem ext_0 (a : Array Keyed) (n : Nat) : (a.extract 0 n).toList = a.toList.take n := by
  rw [Array.toList_extract]
  simp [List.extract]
theorem in_rev {a : Array Keyed} {n : Nat} {x : Keyed} (h : x ∈ (a.toList.take n).reverse) : ∃ j, j < n ∧ j < a.size ∧ x = g a j := by
  have h' : x ∈ (a.toList.drop 0).take n := by rw [List.drop_zero]; exact List.mem_reverse.mp h
  obtain ⟨j, _, h2, h3, e⟩ := in_take h'
  exact ⟨j, by omega, h3, e⟩
theorem in_exr {a : Array Keyed} {i n : Nat} {x : Keyed} (h : x ∈ ((a.extract i n).reverse).toList) : ∃ j, i ≤ j ∧ j < n ∧ j < a.size ∧ x = g a j := by
  rw [Array.toList_reverse, Array.toList_extract] at h
  have h' : x ∈ (a.toList.drop i).take (n - i) := List.mem_reverse.mp h
  obtain ⟨j, h1, h2, h3, e⟩ := in_take h'
  exact ⟨j, h1, by omega, h3, e⟩
section
variable {L : Keyed → Keyed → Bool} {a b out : Array Keyed} {na nb k : Nat}
abbrev Hi (L : Keyed → Keyed → Bool) (a b out : Array Keyed) (na nb : Nat) : Prop := St (fun x y => L x y = false) (a.toList ++ b.toList) out.toList (a.toList.take na).reverse (b.toList.take nb).reverse
theorem back {l tot : List Keyed} (h : l.Perm tot ∧ l.Pairwise fun x y => L x y = false) : l.reverse.Perm tot ∧ l.reverse.Pairwise fun x y => L y x = false := ⟨(List.reverse_perm l).trans h.1, List.pairwise_reverse.mpr h.2⟩
theorem hi_done (M : Hi L a b out na nb) (e : nb = 0 ∨ na = 0) : Good L a b (a.extract 0 na ++ b.extract 0 nb ++ out.reverse) := by
  unfold Good
  rw [Array.toList_append, Array.toList_append, ext_0, ext_0, Array.toList_reverse]
  have M' := M
  unfold Hi at M'
  rcases e with rfl | rfl
  · have := back (M'.end_)
    rw [List.reverse_append, List.reverse_reverse] at this
    simpa using this
  · have := back (M'.symm.end_)
    rw [List.reverse_append, List.reverse_reverse] at this
    simpa using this
theorem hi_first (sa : Seg L a 0 a.size) (tr : ∀ x y z, L y x = false → L z y = false → L z x = false) (h0 : L (g a 0) (g b 0) = false) (hb : 0 < b.size) (M : Hi L a b out na nb) (e : nb = 1) : Good L a b (b.extract 0 nb ++ a.extract 0 na ++ out.reverse) := by
  unfold Good
  rw [Array.toList_append, Array.toList_append, ext_0, ext_0, Array.toList_reverse]
  have M' := M
  unfold Hi at M'
  subst e
  have e2 : (b.toList.take 1).reverse = [g b 0] := by rw [take_g (by omega) (by omega)]; rfl
  have e3 : b.toList.take 1 = [g b 0] := by rw [← List.reverse_reverse (b.toList.take 1), e2]; rfl
  rw [e2] at M'
  have := back (M'.symm.last fun y hy => ?_)
  · rw [List.reverse_append, List.reverse_append, List.reverse_reverse] at this
    rw [e3]
    simpa using this
  · obtain ⟨j, h1, h2, rfl⟩ := in_rev hy
    exact tr _ _ _ h0 (sa 0 j (Nat.le_refl _) (Nat.zero_le _) h2)
variable (sa : Seg L a 0 a.size) (sb : Seg L b 0 b.size) (tr : ∀ x y z, L y x = false → L z y = false → L z x = false)
include sb tr in
theorem hi_pushA (M : Hi L a b out na nb) (h1 : 0 < na) (h2 : na ≤ a.size) (h3 : 0 < nb) (h4 : nb ≤ b.size) (h : L (g a (na - 1)) (g b (nb - 1)) = false) : Hi L a b (out.push (g a (na - 1))) (na - 1) nb := by
  have M' := M
  unfold Hi at M' ⊢
  rw [take_g h1 h2] at M'
  rw [Array.toList_push]
  refine M'.mvA fun x hx y hy => ?_
  rw [List.mem_singleton.mp hx]
  obtain ⟨j, j1, j2, rfl⟩ := in_rev hy
  exact tr _ _ _ (sb j (nb - 1) (Nat.zero_le _) (by omega) (by omega)) h
include sa tr in
theorem hi_pushB (M : Hi L a b out na nb) (h1 : 0 < na) (h2 : na ≤ a.size) (h3 : 0 < nb) (h4 : nb ≤ b.size) (h : L (g b (nb - 1)) (g a (na - 1)) = false) : Hi L a b (out.push (g b (nb - 1))) na (nb - 1) := by
  have M' := M
  unfold Hi at M' ⊢
  rw [take_g h3 h4] at M'
  rw [Array.toList_push]
  refine M'.mvB fun x hx y hy => ?_
  rw [List.mem_singleton.mp hx]
  obtain ⟨j, j1, j2, rfl⟩ := in_rev hy
  exact tr _ _ _ (sa j (na - 1) (Nat.zero_le _) (by omega) (by omega)) h
include sb tr in
theorem hi_extA (M : Hi L a b out na nb) (hk : k ≤ na) (h3 : 0 < nb) (h4 : nb ≤ b.size) (h : ∀ j, k ≤ j → j < na → L (g a j) (g b (nb - 1)) = false) : Hi L a b (out ++ (a.extract k na).reverse) k nb := by
  have M' := M
  unfold Hi at M' ⊢
  rw [ext_rev a k na hk] at M'
  rw [Array.toList_append]
  refine M'.mvA fun x hx y hy => ?_
  obtain ⟨i, i1, i2, i3, rfl⟩ := in_exr hx
  obtain ⟨j, j1, j2, rfl⟩ := in_rev hy
  exact tr _ _ _ (sb j (nb - 1) (Nat.zero_le _) (by omega) (by omega)) (h i i1 i2)
include sa tr in
theorem hi_extB (M : Hi L a b out na nb) (hk : k ≤ nb) (h3 : 0 < na) (h4 : na ≤ a.size) (h : ∀ j, k ≤ j → j < nb → L (g b j) (g a (na - 1)) = false) : Hi L a b (out ++ (b.extract k nb).reverse) na k := by
  have M' := M
  unfold Hi at M' ⊢
  rw [ext_rev b k nb hk] at M'
  rw [Array.toList_append]
  refine M'.mvB fun x hx y hy => ?_
  obtain ⟨i, i1, i2, i3, rfl⟩ := in_exr hx
  obtain ⟨j, j1, j2, rfl⟩ := in_rev hy
  exact tr _ _ _ (sa j (na - 1) (Nat.zero_le _) (by omega) (by omega)) (h i i1 i2)
end
section
variable {prog : Program} {w : World} {A : Around} {E : Value → Shared → Prop} {s : Shared} {κ : SortKind} {L : Keyed → Keyed → Bool} {P : Keyed → Prop} {st : SortSt} {a b : Array Keyed}
theorem mergeHi_ok (C : Cmp prog w A E s κ L P) (hk : kindOf st = κ) (pa : ∀ j, j < a.size → P (g a j)) (pb : ∀ j, j < b.size → P (g b j)) (sa : Seg L a 0 a.size) (sb : Seg L b 0 b.size) (ha0 : 0 < a.size) (hb0 : 0 < b.size)
    (h0 : L (g a 0) (g b 0) = false) (hla : ∀ j, j < b.size → L (g a (a.size - 1)) (g b j) = false) {Q : Array Keyed → SortSt → Prop} (q : ∀ r st', Sg st st' → Good L a b r → Q r st') : wpS (model prog w) A E s (mergeHi' a b) Q st := by
  refine wpS_bind (wpS_rule ?_)
  dsimp only
  refine wpS_bind (wpS_elem (by omega) ?_)
  have M0 : Hi L a b #[g a (a.size - 1)] (a.size - 1) b.size := by
    unfold Hi
    have eb : b.toList.take b.size = b.toList := List.take_of_length_le (by rw [Array.length_toList]; exact Nat.le_refl _)
    have ea : a.toList.take a.size = a.toList := List.take_of_length_le (by rw [Array.length_toList]; exact Nat.le_refl _)
    refine ⟨?_, List.pairwise_singleton _ _, List.pairwise_reverse.mpr (sa.pw.sublist (List.take_sublist _ _)), List.pairwise_reverse.mpr (by rw [eb]; exact sb.pw), fun x hx y hy => ?_, fun x hx y hy => ?_⟩
    · have e : a.toList.reverse = [g a (a.size - 1)] ++ (a.toList.take (a.size - 1)).reverse := by rw [← take_g (by omega) (Nat.le_refl _), ea]
      show ([g a (a.size - 1)] ++ ((a.toList.take (a.size - 1)).reverse ++ (b.toList.take b.size).reverse)).Perm _
      rw [← List.append_assoc, ← e, eb]
      exact List.Perm.append (List.reverse_perm _) (List.reverse_perm _)
    · obtain rfl : x = g a (a.size - 1) := by simpa using hx
      obtain ⟨j, h1, h2, rfl⟩ := in_rev hy
      exact sa j (a.size - 1) (Nat.zero_le _) (by omega) (by omega)
    · obtain rfl : x = g a (a.size - 1) := by simpa using hx
      obtain ⟨j, h1, h2, rfl⟩ := in_rev hy
      exact hla j h2
  by_cases e1 : (a.size - 1 == 0) = true
  · rw [if_pos e1]
    exact wpS_pure (q _ _ (Sg.refl _) (hi_done M0 (.inr (beqT e1))))
  rw [if_neg e1]
  have e1' := beqF e1
  by_cases e2 : (b.size == 1) = true
  · rw [if_pos e2]
    exact wpS_pure (q _ _ (Sg.refl _) (hi_first sa C.tr h0 hb0 M0 (beqT e2)))
  rw [if_neg e2]
  have e2' := beqF e2
  refine wpS_bind (wpS_get ?_)
  refine wpS_bind (wpS_mono (wpS_forRange (I := fun x c st' => Sg st st' ∧ ∃ na nb out mg, c = (none, na, nb, out, mg) ∧ Hi L a b out na nb ∧ 0 < na ∧ na ≤ a.size ∧ 1 < nb ∧ nb ≤ b.size ∧ x + (na + nb) ≤ a.size + b.size)
    (Q := fun c st' => Sg st st' ∧ ∃ r, c.1 = some r ∧ Good L a b r) ?_ ?_ ⟨Sg.refl _, _, _, _, _, rfl, M0, by omega, by omega, by omega, by omega, by omega⟩) ?_)
  rotate_left
  · rintro c st' ⟨sg, na, nb, out, mg, rfl, M, h1, h2, h3, h4, h5⟩
    exfalso
    omega
  · rintro ⟨c1, c2⟩ st' ⟨sg, r, e, gd⟩
    cases e
    exact wpS_pure (q r st' sg gd)
  rintro x c st' _ hx ⟨sg, na, nb, out, mg, rfl, M, h1, h2, h3, h4, h5⟩
  dsimp only
  refine wpS_bind (wpS_mono (wpS_forRange (I := fun y c st' => Sg st st' ∧ ∃ na nb out ac bc, c = (none, na, nb, out, ac, bc) ∧ Hi L a b out na nb ∧ 0 < na ∧ na ≤ a.size ∧ 1 < nb ∧ nb ≤ b.size ∧ x + y + (na + nb) ≤ a.size + b.size)
    (Q := fun c st' => Sg st st' ∧ ((∃ r, c.1 = some r ∧ Good L a b r) ∨ ∃ na nb out ac bc, c = (none, na, nb, out, ac, bc) ∧ Hi L a b out na nb ∧ 0 < na ∧ na ≤ a.size ∧ 1 < nb ∧ nb ≤ b.size ∧ x + 1 + (na + nb) ≤ a.size + b.size)) ?_ ?_ ⟨sg, _, _, _, _, _, rfl, M, h1, h2, h3, h4, h5⟩) ?_)
  · clear M h1 h2 h3 h4 h5 sg
    rintro y c st' _ hy ⟨sg, na, nb, out, ac, bc, rfl, M, h1, h2, h3, h4, h5⟩
    have hk' : kindOf st' = κ := sg.1.trans hk
    dsimp only
    refine wpS_bind (wpS_elem (by omega) ?_)
    refine wpS_bind (wpS_elem (by omega) ?_)
    refine wpS_bind (C.lt _ _ _ _ (pb _ (by omega)) (pa _ (by omega)) hk' ?_)
    dsimp only
    cases hL : L (g b (nb - 1)) (g a (na - 1)) with
    | true =>
      rw [if_pos rfl]
      refine wpS_bind (wpS_elem (by omega) ?_)
      have M1 := hi_pushA sb C.tr M (by omega) (by omega) (by omega) (by omega) (C.as _ _ hL)
      by_cases e : (na - 1 == 0) = true
      · rw [if_pos e]
        exact wpS_pure ⟨sg, .inl ⟨_, rfl, hi_done M1 (.inr (beqT e))⟩⟩
      · rw [if_neg e]
        have e' := beqF e
        split
        · exact wpS_pure ⟨sg, .inr ⟨_, _, _, _, _, rfl, M1, by omega, by omega, by omega, by omega, by omega⟩⟩
        · exact wpS_pure ⟨sg, _, _, _, _, _, rfl, M1, by omega, by omega, by omega, by omega, by omega⟩
    | false =>
      rw [if_neg Bool.false_ne_true]
      refine wpS_bind (wpS_elem (by omega) ?_)
      have M1 := hi_pushB sa C.tr M (by omega) (by omega) (by omega) (by omega) hL
      by_cases e : (nb - 1 == 1) = true
      · rw [if_pos e]
        exact wpS_pure ⟨sg, .inl ⟨_, rfl, hi_first sa C.tr h0 hb0 M1 (beqT e)⟩⟩
      · rw [if_neg e]
        have e' := beqF e
        split
        · exact wpS_pure ⟨sg, .inr ⟨_, _, _, _, _, rfl, M1, by omega, by omega, by omega, by omega, by omega⟩⟩
        · exact wpS_pure ⟨sg, _, _, _, _, _, rfl, M1, by omega, by omega, by omega, by omega, by omega⟩
  · rintro c st' ⟨sg, na, nb, out, ac, bc, rfl, M, h1, h2, h3, h4, h5⟩
    exact ⟨sg, .inr ⟨na, nb, out, ac, bc, rfl, M, h1, h2, h3, h4, by omega⟩⟩
  clear M h1 h2 h3 h4 h5 sg
  rintro c st' ⟨sg, ⟨r, e, gd⟩ | ⟨na, nb, out, ac, bc, rfl, M, h1, h2, h3, h4, h5⟩⟩
  · obtain ⟨c1, c2⟩ := c
    cases e
    exact wpS_pure ⟨sg, r, rfl, gd⟩
  dsimp only
  refine wpS_bind (wpS_rule ?_)
  refine wpS_bind (wpS_mono (wpS_forRange (I := fun y c st' => Sg st st' ∧ ∃ na nb out mg ac bc, c = (none, na, nb, out, mg, ac, bc) ∧ Hi L a b out na nb ∧ 0 < na ∧ na ≤ a.size ∧ 1 < nb ∧ nb ≤ b.size ∧ x + 1 + (na + nb) ≤ a.size + b.size)
    (Q := fun c st' => Sg st st' ∧ ((∃ r, c.1 = some r ∧ Good L a b r) ∨ ∃ na nb out mg ac bc, c = (none, na, nb, out, mg, ac, bc) ∧ Hi L a b out na nb ∧ 0 < na ∧ na ≤ a.size ∧ 1 < nb ∧ nb ≤ b.size ∧ x + 1 + (na + nb) ≤ a.size + b.size)) ?_ ?_ ⟨sg, _, _, _, _, _, _, rfl, M, h1, h2, h3, h4, h5⟩) ?_)
  · clear M h1 h2 h3 h4 h5 sg
    rintro y c st' _ hy ⟨sg, na, nb, out, mg, ac, bc, rfl, M, h1, h2, h3, h4, h5⟩
    dsimp only
    by_cases hm : mg > 1
    case' pos => rw [if_pos hm]
    case' neg => rw [if_neg hm]
    all_goals
      refine wpS_bind (wpS_setG ?_)
      have sg' := sg
      have hk' : kindOf st' = κ := sg.1.trans hk
      refine wpS_bind (wpS_elem (by omega) ?_)
      refine wpS_bind (gallopR_ok C hk' (pb _ (by omega)) pa (by omega) (by omega) (fun m n h1 h2 h3 => sa m n (Nat.zero_le _) h2 (by omega)) (fun k k1 k2 k3 => ?_))
      dsimp only
      by_cases k0 : na - k > 0
      · rw [if_pos k0]
        have M1 := hi_extA (k := k) sb C.tr M k1 (by omega) (by omega) (fun j h1 h2 => C.as _ _ (k3 j (by omega) (by omega)))
        by_cases e1 : (k == 0) = true
        · rw [if_pos e1]
          exact wpS_pure ⟨sg', .inl ⟨_, rfl, hi_done M1 (.inr (beqT e1))⟩⟩
        · rw [if_neg e1]
          have e1' := beqF e1
          generalize ek : k = na' at *
          refine wpS_bind (wpS_elem (by omega) ?_)
          have M2 := hi_pushB sa C.tr M1 (by omega) (by omega) (by omega) (by omega) (k2 (na' - 1) (Nat.zero_le _) (by omega))
          by_cases e3 : (nb - 1 == 1) = true
          · rw [if_pos e3]
            exact wpS_pure ⟨sg', .inl ⟨_, rfl, hi_first sa C.tr h0 hb0 M2 (beqT e3)⟩⟩
          · rw [if_neg e3]
            have e3' := beqF e3
            refine wpS_bind (wpS_elem (by omega) ?_)
            refine wpS_bind (gallopL_ok C hk' (pa _ (by omega)) pb (by omega) (by omega) (fun m n h1 h2 h3 => sb m n (Nat.zero_le _) h2 (by omega)) (fun k' l1 l2 l3 => ?_))
            dsimp only
            by_cases k0' : nb - 1 - k' > 0
            · rw [if_pos k0']
              have M3 := hi_extB (k := k') sa C.tr M2 l1 (by omega) (by omega) (fun j h1 h2 => l3 j (by omega) (by omega))
              by_cases e4 : (k' == 1) = true
              · rw [if_pos e4]
                exact wpS_pure ⟨sg', .inl ⟨_, rfl, hi_first sa C.tr h0 hb0 M3 (beqT e4)⟩⟩
              · rw [if_neg e4]
                have e4' := beqF e4
                by_cases e6 : (k' == 0) = true
                · rw [if_pos e6]
                  exact wpS_pure ⟨sg', .inl ⟨_, rfl, hi_done M3 (.inl (beqT e6))⟩⟩
                · rw [if_neg e6]
                  have e6' := beqF e6
                  refine wpS_bind (wpS_elem (by omega) ?_)
                  have M4 := hi_pushA sb C.tr M3 (by omega) (by omega) (by omega) (by omega) (C.as _ _ (l2 (k' - 1) (Nat.zero_le _) (by omega)))
                  by_cases e5 : (na' - 1 == 0) = true
                  · rw [if_pos e5]
                    exact wpS_pure ⟨sg', .inl ⟨_, rfl, hi_done M4 (.inr (beqT e5))⟩⟩
                  · rw [if_neg e5]
                    have e5' := beqF e5
                    split
                    · exact wpS_pure ⟨sg', .inr ⟨_, _, _, _, _, _, rfl, M4, by omega, by omega, by omega, by omega, by omega⟩⟩
                    · exact wpS_pure ⟨sg', _, _, _, _, _, _, rfl, M4, by omega, by omega, by omega, by omega, by omega⟩
            · rw [if_neg k0']
              refine wpS_bind (wpS_elem (by omega) ?_)
              have M4 := hi_pushA sb C.tr M2 (by omega) (by omega) (by omega) (by omega) (C.as _ _ (l2 (nb - 1 - 1) (Nat.zero_le _) (by omega)))
              by_cases e5 : (na' - 1 == 0) = true
              · rw [if_pos e5]
                exact wpS_pure ⟨sg', .inl ⟨_, rfl, hi_done M4 (.inr (beqT e5))⟩⟩
              · rw [if_neg e5]
                have e5' := beqF e5
                split
                · exact wpS_pure ⟨sg', .inr ⟨_, _, _, _, _, _, rfl, M4, by omega, by omega, by omega, by omega, by omega⟩⟩
                · exact wpS_pure ⟨sg', _, _, _, _, _, _, rfl, M4, by omega, by omega, by omega, by omega, by omega⟩
      · rw [if_neg k0]
        have ek : k = na := by omega
        subst ek
        have M1 := M
        refine wpS_bind (wpS_elem (by omega) ?_)
        have M2 := hi_pushB sa C.tr M1 (by omega) (by omega) (by omega) (by omega) (k2 (k - 1) (Nat.zero_le _) (by omega))
        by_cases e3 : (nb - 1 == 1) = true
        · rw [if_pos e3]
          exact wpS_pure ⟨sg', .inl ⟨_, rfl, hi_first sa C.tr h0 hb0 M2 (beqT e3)⟩⟩
        · rw [if_neg e3]
          have e3' := beqF e3
          refine wpS_bind (wpS_elem (by omega) ?_)
          refine wpS_bind (gallopL_ok C hk' (pa _ (by omega)) pb (by omega) (by omega) (fun m n h1 h2 h3 => sb m n (Nat.zero_le _) h2 (by omega)) (fun k' l1 l2 l3 => ?_))
          dsimp only
          by_cases k0' : nb - 1 - k' > 0
          · rw [if_pos k0']
            have M3 := hi_extB (k := k') sa C.tr M2 l1 (by omega) (by omega) (fun j h1 h2 => l3 j (by omega) (by omega))
            by_cases e4 : (k' == 1) = true
            · rw [if_pos e4]
              exact wpS_pure ⟨sg', .inl ⟨_, rfl, hi_first sa C.tr h0 hb0 M3 (beqT e4)⟩⟩
            · rw [if_neg e4]
              have e4' := beqF e4
              by_cases e6 : (k' == 0) = true
              · rw [if_pos e6]
                exact wpS_pure ⟨sg', .inl ⟨_, rfl, hi_done M3 (.inl (beqT e6))⟩⟩
              · rw [if_neg e6]
                have e6' := beqF e6
                refine wpS_bind (wpS_elem (by omega) ?_)
                have M4 := hi_pushA sb C.tr M3 (by omega) (by omega) (by omega) (by omega) (C.as _ _ (l2 (k' - 1) (Nat.zero_le _) (by omega)))
                by_cases e5 : (k - 1 == 0) = true
                · rw [if_pos e5]
                  exact wpS_pure ⟨sg', .inl ⟨_, rfl, hi_done M4 (.inr (beqT e5))⟩⟩
                · rw [if_neg e5]
                  have e5' := beqF e5
                  split
                  · exact wpS_pure ⟨sg', .inr ⟨_, _, _, _, _, _, rfl, M4, by omega, by omega, by omega, by omega, by omega⟩⟩
                  · exact wpS_pure ⟨sg', _, _, _, _, _, _, rfl, M4, by omega, by omega, by omega, by omega, by omega⟩
          · rw [if_neg k0']
            refine wpS_bind (wpS_elem (by omega) ?_)
            have M4 := hi_pushA sb C.tr M2 (by omega) (by omega) (by omega) (by omega) (C.as _ _ (l2 (nb - 1 - 1) (Nat.zero_le _) (by omega)))
            by_cases e5 : (k - 1 == 0) = true
            · rw [if_pos e5]
              exact wpS_pure ⟨sg', .inl ⟨_, rfl, hi_done M4 (.inr (beqT e5))⟩⟩
            · rw [if_neg e5]
              have e5' := beqF e5
              split
              · exact wpS_pure ⟨sg', .inr ⟨_, _, _, _, _, _, rfl, M4, by omega, by omega, by omega, by omega, by omega⟩⟩
              · exact wpS_pure ⟨sg', _, _, _, _, _, _, rfl, M4, by omega, by omega, by omega, by omega, by omega⟩
  · rintro c st' ⟨sg, na, nb, out, mg, ac, bc, rfl, M, h1, h2, h3, h4, h5⟩
    exact ⟨sg, .inr ⟨na, nb, out, mg, ac, bc, rfl, M, h1, h2, h3, h4, h5⟩⟩
  clear M h1 h2 h3 h4 h5 sg
  rintro c st' ⟨sg, ⟨r, e, gd⟩ | ⟨na, nb, out, mg, ac, bc, rfl, M, h1, h2, h3, h4, h5⟩⟩
  · obtain ⟨c1, c2⟩ := c
    cases e
    exact wpS_pure ⟨sg, r, rfl, gd⟩
  dsimp only
  exact wpS_bind (wpS_setG (wpS_pure ⟨sg.set _, _, _, _, _, rfl, M, h1, h2, h3, h4, h5⟩))
end
end L2.Tim

set_option Elab.async false
set_option linter.all false
set_option maxRecDepth 100000
set_option maxHeartbeats 8000000
namespace L2.Tim
open PySem PyProof.Rows
def writes (a : Array Keyed) (i : Nat) (m : Array Keyed) : Array Keyed := m.toList.zipIdx.foldl (fun a (p, j) => a.setIfInBounds (i + j) p) a
theorem writes_from : ∀ (l : List Keyed) (k : Nat) (a : Array Keyed) (i : Nat), i + k + l.length ≤ a.size → ((l.zipIdx k).foldl (fun a (p, j) => a.setIfInBounds (i + j) p) a).toList = a.toList.take (i + k) ++ (l ++ a.toList.drop (i + k + l.length))
  | [], k, a, i, h => by
    show a.toList = a.toList.take (i + k) ++ ([] ++ a.toList.drop (i + k + 0))
    rw [List.nil_append, Nat.add_zero, List.take_append_drop]
  | x :: l, k, a, i, h => by
    rw [List.length_cons] at h
    rw [List.zipIdx_cons, List.foldl_cons, writes_from l (k + 1) _ i (by rw [Array.size_setIfInBounds]; omega)]
    dsimp only
    rw [Array.toList_setIfInBounds, List.length_cons]
    have hl : i + k < a.toList.length := by rw [Array.length_toList]; omega
    rw [show i + (k + 1) = i + k + 1 by omega, List.take_add_one, List.take_set_of_le (Nat.le_refl _), List.getElem?_set_self hl, List.drop_set_of_lt (by omega)]
    rw [show i + k + 1 + l.length = i + k + (l.length + 1) by omega]
    simp
theorem writes_list {a m : Array Keyed} {i : Nat} (h : i + m.size ≤ a.size) : (writes a i m).toList = a.toList.take i ++ (m.toList ++ a.toList.drop (i + m.size)) := by
  have := writes_from m.toList 0 a i (by rw [Array.length_toList]; omega)
  rw [Array.length_toList, Nat.add_zero] at this
  exact this
theorem g_list (a : Array Keyed) (j : Nat) : g a j = (a.toList[j]?).getD (Value.none, Value.none) := by unfold g; simp
theorem g_writes {a m : Array Keyed} {i j : Nat} (h : i + m.size ≤ a.size) : g (writes a i m) j = if i ≤ j ∧ j < i + m.size then g m (j - i) else g a j := by
  rw [g_list, writes_list h, g_list, g_list]
  have hl : (a.toList.take i).length = i := by rw [List.length_take, Array.length_toList]; omega
  by_cases h1 : j < i
  · rw [if_neg (by omega), List.getElem?_append_left (by omega), List.getElem?_take, if_pos h1]
  · rw [List.getElem?_append_right (by omega), hl]
    by_cases h2 : j < i + m.size
    · rw [if_pos ⟨by omega, h2⟩, List.getElem?_append_left (by rw [Array.length_toList]; omega)]
    · rw [if_neg (by omega), List.getElem?_append_right (by rw [Array.length_toList]; omega), List.getElem?_drop, Array.length_toList, show i + m.size + (j - i - m.size) = j by omega]
theorem ext_size {a : Array Keyed} {i j : Nat} (h : j ≤ a.size) : (a.extract i j).size = j - i := by rw [Array.size_extract]; omega
theorem g_ext {a : Array Keyed} {i j k : Nat} (h : j ≤ a.size) (hk : k < j - i) : g (a.extract i j) k = g a (i + k) := by
  have e : (a.extract i j).toList = (a.toList.drop i).take (j - i) := by rw [Array.toList_extract]
  rw [g_list, g_list, e, List.getElem?_take, if_pos hk, List.getElem?_drop]
theorem writes_perm {a m : Array Keyed} {i j k : Nat} (h1 : i ≤ j) (h2 : j ≤ k) (h3 : k ≤ a.size) (hm : m.toList.Perm ((a.extract i j).toList ++ (a.extract j k).toList)) : (writes a i m).toList.Perm a.toList := by
  have hs : m.size = k - i := by
    have := hm.length_eq
    rw [List.length_append, Array.length_toList, Array.length_toList, Array.length_toList, ext_size (by omega), ext_size h3] at this
    omega
  have ea : a.toList = a.toList.take i ++ (((a.extract i j).toList ++ (a.extract j k).toList) ++ a.toList.drop k) := by
    have e1 : (a.extract i j).toList = (a.toList.drop i).take (j - i) := by rw [Array.toList_extract]
    have e2 : (a.extract j k).toList = (a.toList.drop j).take (k - j) := by rw [Array.toList_extract]
    rw [e1, e2, List.append_assoc]
    have d1 : (a.toList.drop j).take (k - j) ++ a.toList.drop k = a.toList.drop j := by
      have := (drop_take a.toList j (k - j)).symm
      rwa [show j + (k - j) = k by omega] at this
    have d2 : (a.toList.drop i).take (j - i) ++ a.toList.drop j = a.toList.drop i := by
      have := (drop_take a.toList i (j - i)).symm
      rwa [show i + (j - i) = j by omega] at this
    rw [d1, d2, List.take_append_drop]
  rw [writes_list (by omega), show i + m.size = k by omega]
  conv => rhs; rw [ea]
  exact List.Perm.append_left _ (List.Perm.append_right _ hm)
/-- but for what stands from i to j alike, and the same things -/
structure Lc (st st' : SortSt) (i j : Nat) : Prop where
  kd : kindOf st' = kindOf st
  pd : pendingOf st' = pendingOf st
  fl : failedOf st' = failedOf st
  pm : (arrOf st').toList.Perm (arrOf st).toList
  out : ∀ m, m < i ∨ j ≤ m → g (arrOf st') m = g (arrOf st) m
theorem Lc.refl (st : SortSt) (i j : Nat) : Lc st st i j := ⟨rfl, rfl, rfl, List.Perm.refl _, fun _ _ => rfl⟩
theorem Lc.trans {a b c : SortSt} {i j : Nat} (h : Lc a b i j) (k : Lc b c i j) : Lc a c i j := ⟨k.kd.trans h.kd, k.pd.trans h.pd, k.fl.trans h.fl, k.pm.trans h.pm, fun m hm => (k.out m hm).trans (h.out m hm)⟩
theorem Lc.size {a b : SortSt} {i j : Nat} (h : Lc a b i j) : (arrOf b).size = (arrOf a).size := by
  have := h.pm.length_eq
  rwa [Array.length_toList, Array.length_toList] at this
theorem Lc.all {a b : SortSt} {i j : Nat} {P : Keyed → Prop} (h : Lc a b i j) (p : ∀ m, m < (arrOf a).size → P (g (arrOf a) m)) : ∀ m, m < (arrOf b).size → P (g (arrOf b) m) := fun m hm => by
  have hin : g (arrOf b) m ∈ (arrOf a).toList := h.pm.mem_iff.mp (g_mem hm)
  obtain ⟨k, hk⟩ := List.getElem?_of_mem hin
  obtain ⟨h1, h2⟩ := List.getElem?_eq_some_iff.mp hk
  rw [Array.length_toList] at h1
  rw [← h2, ← g_eq h1]
  exact p k h1
section
variable {prog : Program} {w : World} {A : Around} {E : Value → Shared → Prop} {s : Shared} {κ : SortKind} {L : Keyed → Keyed → Bool} {P : Keyed → Prop} {st : SortSt}
theorem wpS_set {x : SortSt} {Q : PUnit → SortSt → Prop} (q : Q ⟨⟩ x) : wpS (model prog w) A E s (set x : StateT SortSt Sem PUnit) Q st := by
  unfold wpS; rw [StateT.run_set]; exact wpAny_pure ⟨rfl, q⟩
theorem Seg.join {a : Array Keyed} {i j k : Nat} (h1 : Seg L a i j) (h2 : Seg L a j k) (h : ∀ m n, i ≤ m → m < j → j ≤ n → n < k → L (g a n) (g a m) = false) : Seg L a i k := fun m n a1 a2 a3 => by
  by_cases hm : m < j
  · by_cases hn : n < j
    · exact h1 m n a1 a2 hn
    · exact h m n a1 hm (by omega) a3
  · exact h2 m n (by omega) a2 a3
theorem mergeAt_ok (C : Cmp prog w A E s κ L P) {i sa na sb nb pw pw2 : Nat} (hk : kindOf st = κ) (hf : failedOf st = none) (hp : ∀ m, m < (arrOf st).size → P (g (arrOf st) m)) (e1 : (pendingOf st)[i]? = some (sa, na, pw)) (e2 : (pendingOf st)[i + 1]? = some (sb, nb, pw2))
    (hsb : sb = sa + na) (hna : 0 < na) (hnb : 0 < nb) (hz : sb + nb ≤ (arrOf st).size) (s1 : Seg L (arrOf st) sa sb) (s2 : Seg L (arrOf st) sb (sb + nb)) {Q : Bool → SortSt → Prop}
    (q : ∀ st', Lc (setPending st (((pendingOf st).setIfInBounds i (sa, na + nb, pw)).eraseIdxIfInBounds (i + 1))) st' sa (sb + nb) → Seg L (arrOf st') sa (sb + nb) → Q true st') : wpS (model prog w) A E s (mergeAt' i) Q st := by
  refine wpS_bind (wpS_get ?_)
  dsimp only
  rw [e1, e2]
  dsimp only
  refine wpS_bind (wpS_set ?_)
  have hk0 : kindOf (setPending st (((pendingOf st).setIfInBounds i (sa, na + nb, pw)).eraseIdxIfInBounds (i + 1))) = κ := hk
  refine wpS_bind (wpS_elem (a := arrOf st) (by omega) ?_)
  refine wpS_bind (gallopR_ok (a := arrOf st) C hk0 (hp _ (by omega)) hp (by omega) hna (by rw [← hsb]; exact s1) (fun k k1 k2 k3 => ?_))
  dsimp only
  by_cases z1 : (na - k == 0) = true
  · rw [if_pos z1]
    have z1' := beqT z1
    refine wpS_pure (q _ (Lc.refl _ _ _) (s1.join s2 fun m n a1 a2 a3 a4 => C.tr _ _ _ (k2 m a1 (by omega)) (s2 sb n (Nat.le_refl _) a3 a4)))
  rw [if_neg z1]
  have z1' := beqF z1
  refine wpS_bind (wpS_elem (a := arrOf st) (by omega) ?_)
  refine wpS_bind (gallopL_ok (a := arrOf st) C hk0 (hp _ (by omega)) hp hz (by omega) s2 (fun nb' l1 l2 l3 => ?_))
  dsimp only
  have hsk : sa + k + (na - k) - 1 = sb - 1 := by omega
  rw [hsk] at l2 l3
  by_cases z2 : (nb' == 0) = true
  · rw [if_pos z2]
    have z2' := beqT z2
    refine wpS_pure (q _ (Lc.refl _ _ _) (s1.join s2 fun m n a1 a2 a3 a4 => C.tr _ _ _ (s1 m (sb - 1) a1 (by omega) (by omega)) (l3 n (by omega) a4)))
  rw [if_neg z2]
  have z2' := beqF z2
  have xs : ((arrOf st).extract (sa + k) sb).size = sb - (sa + k) := ext_size (by omega)
  have ys : ((arrOf st).extract sb (sb + nb')).size = nb' := by rw [ext_size (by omega)]; omega
  have gx : ∀ j, j < sb - (sa + k) → g ((arrOf st).extract (sa + k) sb) j = g (arrOf st) (sa + k + j) := fun j hj => g_ext (by omega) hj
  have gy : ∀ j, j < nb' → g ((arrOf st).extract sb (sb + nb')) j = g (arrOf st) (sb + j) := fun j hj => g_ext (by omega) (by omega)
  have px : ∀ j, j < ((arrOf st).extract (sa + k) sb).size → P (g ((arrOf st).extract (sa + k) sb) j) := fun j hj => by rw [xs] at hj; rw [gx j hj]; exact hp _ (by omega)
  have py : ∀ j, j < ((arrOf st).extract sb (sb + nb')).size → P (g ((arrOf st).extract sb (sb + nb')) j) := fun j hj => by rw [ys] at hj; rw [gy j hj]; exact hp _ (by omega)
  have sx : Seg L ((arrOf st).extract (sa + k) sb) 0 ((arrOf st).extract (sa + k) sb).size := fun m n a1 a2 a3 => by rw [xs] at a3; rw [gx m (by omega), gx n a3]; exact s1 _ _ (by omega) (by omega) (by omega)
  have sy : Seg L ((arrOf st).extract sb (sb + nb')) 0 ((arrOf st).extract sb (sb + nb')).size := fun m n a1 a2 a3 => by rw [ys] at a3; rw [gy m (by omega), gy n a3]; exact s2 _ _ (by omega) (by omega) (by omega)
  have hx0 : 0 < ((arrOf st).extract (sa + k) sb).size := by rw [xs]; omega
  have hy0 : 0 < ((arrOf st).extract sb (sb + nb')).size := by rw [ys]; omega
  have h0 : L (g ((arrOf st).extract (sa + k) sb) 0) (g ((arrOf st).extract sb (sb + nb')) 0) = false := by
    rw [gx 0 (by omega), gy 0 (by omega)]
    exact C.as _ _ (k3 (sa + k) (by omega) (by omega))
  have hl : ∀ j, j < ((arrOf st).extract sb (sb + nb')).size → L (g ((arrOf st).extract (sa + k) sb) (((arrOf st).extract (sa + k) sb).size - 1)) (g ((arrOf st).extract sb (sb + nb')) j) = false := fun j hj => by
    rw [ys] at hj
    rw [xs, gx _ (by omega), gy j hj, show sa + k + (sb - (sa + k) - 1) = sb - 1 by omega]
    exact C.as _ _ (l2 _ (by omega) (by omega))
  have fin : ∀ r st', Sg (setPending st (((pendingOf st).setIfInBounds i (sa, na + nb, pw)).eraseIdxIfInBounds (i + 1))) st' → Good L ((arrOf st).extract (sa + k) sb) ((arrOf st).extract sb (sb + nb')) r → wpS (model prog w) A E s (do
      modify fun s => setArr s (writes (arrOf s) (sa + k) r)
      let s ← get
      pure (failedOf s).isNone) Q st' := by
    rintro r st' ⟨b1, b2, b3, b4⟩ ⟨pm, pw'⟩
    refine wpS_bind (wpS_modify (wpS_bind (wpS_get (wpS_pure ?_))))
    rw [show (failedOf (setArr st' (writes (arrOf st') (sa + k) r))).isNone = true from by show (failedOf st').isNone = true; rw [b4]; exact congrArg Option.isNone hf]
    have rs : r.size = sb + nb' - (sa + k) := by
      have := pm.length_eq
      rw [List.length_append, Array.length_toList, Array.length_toList, Array.length_toList, xs, ys] at this
      omega
    have hw : sa + k + r.size ≤ (arrOf st).size := by omega
    have rin : ∀ j, j < r.size → (∃ m, sa + k ≤ m ∧ m < sb ∧ g r j = g (arrOf st) m) ∨ ∃ m, sb ≤ m ∧ m < sb + nb' ∧ g r j = g (arrOf st) m := fun j hj => by
      have hin := pm.mem_iff.mp (g_mem hj)
      have inx : ∀ {x : Array Keyed} {v : Keyed}, v ∈ x.toList → ∃ j, j < x.size ∧ v = g x j := fun {x v} hv => by
        obtain ⟨j, _, h1, h2⟩ := in_drop (a := x) (i := 0) (by rw [List.drop_zero]; exact hv)
        exact ⟨j, h1, h2⟩
      rcases List.mem_append.mp hin with h | h
      · obtain ⟨m, h1, h2⟩ := inx h
        rw [xs] at h1
        exact .inl ⟨sa + k + m, by omega, by omega, by rw [h2, gx m h1]⟩
      · obtain ⟨m, h1, h2⟩ := inx h
        rw [ys] at h1
        exact .inr ⟨sb + m, by omega, by omega, by rw [h2, gy m h1]⟩
    have gw : ∀ j, g (writes (arrOf st') (sa + k) r) j = if sa + k ≤ j ∧ j < sb + nb' then g r (j - (sa + k)) else g (arrOf st) j := fun j => by
      rw [show arrOf st' = arrOf st from b2, g_writes hw, show sa + k + r.size = sb + nb' by omega]
    have rg : Seg L r 0 r.size := Seg.of C.rf pw'
    refine q _ ⟨b1, b3, b4, ?_, fun m hm => ?_⟩ (fun m n a1 a2 a3 => ?_)
    · show (writes (arrOf st') (sa + k) r).toList.Perm (arrOf st).toList
      rw [show arrOf st' = arrOf st from b2]
      exact writes_perm (j := sb) (k := sb + nb') (by omega) (by omega) (by omega) pm
    · show g (writes (arrOf st') (sa + k) r) m = _
      rw [gw, if_neg (by omega)]
    · show L (g (writes (arrOf st') (sa + k) r) n) (g (writes (arrOf st') (sa + k) r) m) = false
      rw [gw, gw]
      by_cases c1 : sa + k ≤ m ∧ m < sb + nb'
      · rw [if_pos c1]
        by_cases c2 : sa + k ≤ n ∧ n < sb + nb'
        · rw [if_pos c2]
          exact rg _ _ (Nat.zero_le _) (by omega) (by omega)
        · rw [if_neg c2]
          rcases rin (m - (sa + k)) (by omega) with ⟨j, j1, j2, ej⟩ | ⟨j, j1, j2, ej⟩
          · rw [ej]
            exact C.tr _ _ _ (s1 j (sb - 1) (by omega) (by omega) (by omega)) (l3 n (by omega) a3)
          · rw [ej]
            exact s2 j n j1 (by omega) a3
      · rw [if_neg c1]
        by_cases c2 : sa + k ≤ n ∧ n < sb + nb'
        · rw [if_pos c2]
          rcases rin (n - (sa + k)) (by omega) with ⟨j, j1, j2, ej⟩ | ⟨j, j1, j2, ej⟩
          · rw [ej]
            exact s1 m j a1 (by omega) j2
          · rw [ej]
            exact C.tr _ _ _ (k2 m a1 (by omega)) (s2 sb j (Nat.le_refl _) j1 (by omega))
        · rw [if_neg c2]
          by_cases c3 : m < sb
          · by_cases c4 : n < sb
            · exact s1 m n a1 a2 c4
            · exact C.tr _ _ _ (s1 m (sb - 1) a1 (by omega) (by omega)) (l3 n (by omega) a3)
          · exact s2 m n (by omega) a2 a3
  by_cases z3 : na - k ≤ nb'
  · rw [if_pos z3]
    exact wpS_bind (mergeLo_ok C hk0 px py sx sy hx0 hy0 h0 hl fin)
  · rw [if_neg z3]
    exact wpS_bind (mergeHi_ok C hk0 px py sx sy hx0 hy0 h0 hl fin)
end
end L2.Tim

set_option Elab.async false
set_option linter.all false
set_option maxRecDepth 100000
set_option maxHeartbeats 8000000
namespace L2.Tim
open PySem PyProof.Rows
section
variable {prog : Program} {w : World} {A : Around} {E : Value → Shared → Prop} {s : Shared} {κ : SortKind} {L : Keyed → Keyed → Bool} {P : Keyed → Prop} {st : SortSt}
theorem ltAt_ok (C : Cmp prog w A E s κ L P) {i j : Nat} (hk : kindOf st = κ) (hp : ∀ m, m < (arrOf st).size → P (g (arrOf st) m)) (hi : i < (arrOf st).size) (hj : j < (arrOf st).size) {Q : Option Bool → SortSt → Prop} (q : Q (some (L (g (arrOf st) i) (g (arrOf st) j))) st) : wpS (model prog w) A E s (ltAt' i j) Q st := by
  rw [ltAt'_eq]
  exact wpS_bind (wpS_get (wpS_bind (wpS_elem hi (wpS_bind (wpS_elem hj (C.lt _ _ _ _ (hp _ hi) (hp _ hj) hk q))))))
theorem g_of {a : Array Keyed} {i : Nat} : g a i = (a[i]?).getD (Value.none, Value.none) := by unfold g; simp
theorem rev_ok {lo hi i j : Nat} {Q : Unit → SortSt → Prop} (hj : j ≤ (arrOf st).size) (h1 : lo ≤ i) (h2 : j ≤ hi) (q : ∀ st', Lc st st' lo hi → (∀ m, g (arrOf st') m = if i ≤ m ∧ m < j then g (arrOf st) (i + j - 1 - m) else g (arrOf st) m) → Q () st') : wpS (model prog w) A E s (reverseSlice' i j) Q st := by
  rw [reverseSlice'_eq]
  have e : ∀ m, g (mirror (arrOf st) i j ((j - i) / 2)) m = if i ≤ m ∧ m < j then g (arrOf st) (i + j - 1 - m) else g (arrOf st) m := fun m => by
    rw [g_of, getElem?_mirror_all hj]
    by_cases c : i ≤ m ∧ m < j
    · rw [if_pos c, if_pos c, ← g_of]
    · rw [if_neg c, if_neg c, ← g_of]
  refine wpS_modify (q _ ⟨rfl, rfl, rfl, Array.perm_iff_toList_perm.mp (mirror_perm _ _ _ _), fun m hm => ?_⟩ e)
  show g (mirror (arrOf st) i j ((j - i) / 2)) m = _
  rw [e, if_neg (by omega)]
theorem move_ok {src dst : Nat} {Q : Unit → SortSt → Prop} (q : Q () (setArr st (bubble (arrOf st) src (src - dst)))) : wpS (model prog w) A E s (moveDown' src dst) Q st := by
  rw [moveDown'_eq]
  exact wpS_modify q
/-- falling from i to j -/
def Dsc (L : Keyed → Keyed → Bool) (a : Array Keyed) (i j : Nat) : Prop := ∀ m n, i ≤ m → m ≤ n → n < j → L (g a m) (g a n) = false
theorem Seg.more {a : Array Keyed} {i j : Nat} (rf : ∀ x, L x x = false) (tr : ∀ x y z, L y x = false → L z y = false → L z x = false) (hij : i < j) (h : Seg L a i j) (e : L (g a j) (g a (j - 1)) = false) : Seg L a i (j + 1) := fun m n a1 a2 a3 => by
  by_cases hn : n < j
  · exact h m n a1 a2 hn
  · obtain rfl : n = j := by omega
    by_cases hm : m = n
    · rw [hm]; exact rf _
    · exact tr _ _ _ (h m (n - 1) a1 (by omega) (by omega)) e
theorem Dsc.more {a : Array Keyed} {i j : Nat} (rf : ∀ x, L x x = false) (tr : ∀ x y z, L y x = false → L z y = false → L z x = false) (hij : i < j) (h : Dsc L a i j) (e : L (g a (j - 1)) (g a j) = false) : Dsc L a i (j + 1) := fun m n a1 a2 a3 => by
  by_cases hn : n < j
  · exact h m n a1 a2 hn
  · obtain rfl : n = j := by omega
    by_cases hm : m = n
    · rw [hm]; exact rf _
    · exact tr _ _ _ e (h m (n - 1) a1 (by omega) (by omega))
/-- alike from i to j -/
def Alk (L : Keyed → Keyed → Bool) (a : Array Keyed) (i j : Nat) : Prop := ∀ m n, i ≤ m → m < j → i ≤ n → n < j → L (g a m) (g a n) = false
theorem count_ok (C : Cmp prog w A E s κ L P) {lo nrem : Nat} (hk : kindOf st = κ) (hp : ∀ m, m < (arrOf st).size → P (g (arrOf st) m)) (h1 : 1 ≤ nrem) (hz : lo + nrem ≤ (arrOf st).size) {Q : Option Nat → SortSt → Prop}
    (q : ∀ n st', 1 ≤ n → n ≤ nrem → Lc st st' lo (lo + nrem) → Seg L (arrOf st') lo (lo + n) → Q (some n) st') : wpS (model prog w) A E s (countRun' lo nrem) Q st := by
  refine wpS_bind (wpS_mono (wpS_forRange (I := fun x c st' => st = st' ∧ c = (none, x) ∧ Seg L (arrOf st) lo (lo + x) ∧ 1 ≤ x)
    (Q := fun c st' => st = st' ∧ ∃ n, c = (none, n) ∧ 1 ≤ n ∧ n ≤ nrem ∧ Seg L (arrOf st) lo (lo + n) ∧ (n = nrem ∨ L (g (arrOf st) (lo + n)) (g (arrOf st) (lo + n - 1)) = true)) ?_ ?_ ⟨rfl, rfl, fun m n a1 a2 a3 => ?_, Nat.le_refl _⟩) ?_)
  · rintro x c st' hx1 hx ⟨rfl, rfl, sg, h⟩
    dsimp only
    refine wpS_bind (ltAt_ok C hk hp (by omega) (by omega) ?_)
    dsimp only
    cases e : L (g (arrOf st) (lo + x)) (g (arrOf st) (lo + x - 1)) with
    | true => rw [if_pos rfl]; exact wpS_pure ⟨rfl, x, rfl, h, by omega, sg, .inr e⟩
    | false => rw [if_neg Bool.false_ne_true]; exact wpS_pure ⟨rfl, rfl, Seg.more (j := lo + x) C.rf C.tr (by omega) sg e, by omega⟩
  · rintro c st' ⟨rfl, rfl, sg, h⟩
    exact ⟨rfl, _, rfl, h, by omega, sg, .inl (by omega)⟩
  · obtain rfl : m = lo := by omega
    obtain rfl : n = m := by omega
    exact C.rf _
  rintro c st' ⟨rfl, n, rfl, n1, n2, sg, hn⟩
  dsimp only
  by_cases c1 : (n == nrem) = true
  · rw [if_pos c1]
    exact wpS_pure (q n st n1 n2 (Lc.refl _ _ _) sg)
  rw [if_neg c1]
  have c1' := beqF c1
  have hsm : L (g (arrOf st) (lo + n)) (g (arrOf st) (lo + n - 1)) = true := by
    rcases hn with h | h
    · omega
    · exact h
  by_cases c2 : n > 1
  case' pos =>
    rw [if_pos c2]
    refine wpS_bind (ltAt_ok C hk hp (by omega) (by omega) ?_)
    dsimp only
    cases e : L (g (arrOf st) lo) (g (arrOf st) (lo + n - 1))
    case' true =>
      rw [if_pos rfl]
      exact wpS_pure (q n st n1 n2 (Lc.refl _ _ _) sg)
    rw [if_neg Bool.false_ne_true]
    refine wpS_bind (rev_ok (lo := lo) (hi := lo + nrem) (by omega) (Nat.le_refl _) (by omega) (fun st1 lc1 gm => ?_))
    have d1 : Dsc L (arrOf st1) lo (lo + (n + 1)) := by
      refine Dsc.more (j := lo + n) C.rf C.tr (by omega) (fun m k a1 a2 a3 => ?_) ?_
      · rw [gm, gm, if_pos ⟨a1, by omega⟩, if_pos ⟨by omega, a3⟩]
        exact sg _ _ (by omega) (by omega) (by omega)
      · rw [gm, gm, if_pos ⟨by omega, by omega⟩, if_neg (by omega), show lo + (lo + n) - 1 - (lo + n - 1) = lo by omega]
        exact C.as _ _ (C.tr1 hsm e)
  case' neg =>
    rw [if_neg c2]
    have lc1 : Lc st st lo (lo + nrem) := Lc.refl _ _ _
    have d1 : Dsc L (arrOf st) lo (lo + (n + 1)) := by
      refine Dsc.more (j := lo + n) C.rf C.tr (by omega) (fun m k a1 a2 a3 => ?_) (C.as _ _ hsm)
      obtain rfl : m = lo := by omega
      obtain rfl : k = m := by omega
      exact C.rf _
    generalize hst : st = st1 at lc1 d1 ⊢
    rw [← hst] at lc1
    replace lc1 : Lc st st1 lo (lo + nrem) := hst ▸ lc1
    clear hst
  all_goals
    clear hn hsm sg
    have hk1 : kindOf st1 = κ := lc1.kd.trans hk
    have hp1 := lc1.all hp
    have hz1 : lo + nrem ≤ (arrOf st1).size := by rw [lc1.size]; exact hz
    refine wpS_bind (wpS_rule ?_)
    refine wpS_bind (wpS_mono (wpS_forRange (I := fun x c st' => Lc st st' lo (lo + nrem) ∧ ∃ e, c = (none, x, e) ∧ n + 1 ≤ x ∧ e + 1 ≤ x ∧ Dsc L (arrOf st') lo (lo + x) ∧ Alk L (arrOf st') (lo + x - (e + 1)) (lo + x))
      (Q := fun c st' => Lc st st' lo (lo + nrem) ∧ ∃ x e, c = (none, x, e) ∧ n + 1 ≤ x ∧ x ≤ nrem ∧ e + 1 ≤ x ∧ Dsc L (arrOf st') lo (lo + x) ∧ Alk L (arrOf st') (lo + x - (e + 1)) (lo + x)) ?_ ?_ ⟨lc1, 0, rfl, Nat.le_refl _, by omega, d1, ?_⟩) ?_)
    · clear lc1 d1 hk1 hp1 hz1
      rintro x c st' hx1 hx ⟨lc, e, rfl, x1, x2, d, al⟩
      have hk1 : kindOf st' = κ := lc.kd.trans hk
      have hp1 := lc.all hp
      have hz1 : lo + nrem ≤ (arrOf st').size := by rw [lc.size]; exact hz
      dsimp only
      refine wpS_bind (ltAt_ok C hk1 hp1 (by omega) (by omega) ?_)
      dsimp only
      cases hs : L (g (arrOf st') (lo + x)) (g (arrOf st') (lo + x - 1)) with
      | true =>
        rw [if_pos rfl]
        have one : ∀ a : Array Keyed, Alk L a (lo + (x + 1) - (0 + 1)) (lo + (x + 1)) := fun a m k a1 a2 a3 a4 => by
          obtain rfl : m = k := by omega
          exact C.rf _
        by_cases c3 : e > 0
        · rw [if_pos c3]
          refine wpS_bind (rev_ok (lo := lo) (hi := lo + nrem) (by omega) (by omega) (by omega) (fun st2 lc2 gm => wpS_pure ⟨lc.trans lc2, 0, rfl, by omega, by omega, ?_, one _⟩))
          refine Dsc.more (j := lo + x) C.rf C.tr (by omega) (fun m k a1 a2 a3 => ?_) ?_
          · rw [gm, gm]
            by_cases b1 : lo + x - (e + 1) ≤ m
            · rw [if_pos ⟨b1, by omega⟩, if_pos ⟨by omega, a3⟩]
              exact al _ _ (by omega) (by omega) (by omega) (by omega)
            · rw [if_neg (by omega)]
              by_cases b2 : lo + x - (e + 1) ≤ k
              · rw [if_pos ⟨b2, a3⟩]
                exact d _ _ a1 (by omega) (by omega)
              · rw [if_neg (by omega)]
                exact d _ _ a1 a2 a3
          · rw [gm, gm, if_pos ⟨by omega, by omega⟩, if_neg (by omega)]
            exact C.as _ _ (C.tr1 hs (al _ _ (by omega) (by omega) (by omega) (by omega)))
        · rw [if_neg c3]
          exact wpS_pure ⟨lc, 0, rfl, by omega, by omega, Dsc.more (j := lo + x) C.rf C.tr (by omega) d (C.as _ _ hs), one _⟩
      | false =>
        rw [if_neg Bool.false_ne_true]
        refine wpS_bind (ltAt_ok C hk1 hp1 (by omega) (by omega) ?_)
        dsimp only
        cases hl : L (g (arrOf st') (lo + x - 1)) (g (arrOf st') (lo + x)) with
        | true => rw [if_pos rfl]; exact wpS_pure ⟨lc, x, e, rfl, x1, by omega, x2, d, al⟩
        | false =>
          rw [if_neg Bool.false_ne_true]
          refine wpS_pure ⟨lc, e + 1, rfl, by omega, by omega, Dsc.more (j := lo + x) C.rf C.tr (by omega) d hl, fun m k a1 a2 a3 a4 => ?_⟩
          by_cases b1 : m = lo + x
          · by_cases b2 : k = lo + x
            · rw [b1, b2]; exact C.rf _
            · rw [b1]
              exact C.tr _ _ _ (al k (lo + x - 1) (by omega) (by omega) (by omega) (by omega) |> fun _ => al (lo + x - 1) k (by omega) (by omega) (by omega) (by omega)) hs
          · by_cases b2 : k = lo + x
            · rw [b2]
              exact C.tr _ _ _ hl (al m (lo + x - 1) (by omega) (by omega) (by omega) (by omega))
            · exact al m k (by omega) (by omega) (by omega) (by omega)
    · rintro c st' ⟨lc, e, rfl, x1, x2, d, al⟩
      exact ⟨lc, _, e, rfl, x1, by omega, x2, d, al⟩
    · intro m k a1 a2 a3 a4
      obtain rfl : m = k := by omega
      exact C.rf _
    clear lc1 d1 hk1 hp1 hz1
    rintro c st' ⟨lc, x, e, rfl, x1, x2, x3, d, al⟩
    have hz1 : lo + nrem ≤ (arrOf st').size := by rw [lc.size]; exact hz
    dsimp only
    by_cases c3 : e > 0
    case' pos =>
      rw [if_pos c3]
      refine wpS_bind (rev_ok (lo := lo) (hi := lo + nrem) (by omega) (by omega) (by omega) (fun st2 lc2 gm => ?_))
      have d2 : Dsc L (arrOf st2) lo (lo + x) := fun m k a1 a2 a3 => by
        rw [gm, gm]
        by_cases b1 : lo + x - (e + 1) ≤ m
        · rw [if_pos ⟨b1, by omega⟩, if_pos ⟨by omega, a3⟩]
          exact al _ _ (by omega) (by omega) (by omega) (by omega)
        · rw [if_neg (by omega)]
          by_cases b2 : lo + x - (e + 1) ≤ k
          · rw [if_pos ⟨b2, a3⟩]
            exact d _ _ a1 (by omega) (by omega)
          · rw [if_neg (by omega)]
            exact d _ _ a1 a2 a3
      replace lc2 := lc.trans lc2
    case' neg =>
      rw [if_neg c3]
      have d2 := d
      have lc2 := lc
      generalize st' = st2 at lc2 d2 ⊢
    all_goals
      have hz2 : lo + nrem ≤ (arrOf st2).size := by rw [lc2.size]; exact hz
      refine wpS_bind (rev_ok (lo := lo) (hi := lo + nrem) (by omega) (Nat.le_refl _) (by omega) (fun st3 lc3 gm3 => ?_))
      have sg3 : Seg L (arrOf st3) lo (lo + x) := fun m k a1 a2 a3 => by
        rw [gm3, gm3, if_pos ⟨by omega, a3⟩, if_pos ⟨a1, by omega⟩]
        exact d2 _ _ (by omega) (by omega) (by omega)
      replace lc3 := lc2.trans lc3
      have hk3 : kindOf st3 = κ := lc3.kd.trans hk
      have hp3 := lc3.all hp
      have hz3 : lo + nrem ≤ (arrOf st3).size := by rw [lc3.size]; exact hz
      refine wpS_bind (wpS_mono (wpS_forRange (I := fun y c st' => st3 = st' ∧ c = (none, y) ∧ x ≤ y ∧ Seg L (arrOf st3) lo (lo + y))
        (Q := fun c st' => st3 = st' ∧ ∃ y, c = (none, y) ∧ x ≤ y ∧ y ≤ nrem ∧ Seg L (arrOf st3) lo (lo + y)) ?_ ?_ ⟨rfl, rfl, Nat.le_refl _, sg3⟩) ?_)
      · rintro y c st' y1 hy ⟨rfl, rfl, y2, sy⟩
        dsimp only
        refine wpS_bind (ltAt_ok C hk3 hp3 (by omega) (by omega) ?_)
        dsimp only
        cases ee : L (g (arrOf st3) (lo + y)) (g (arrOf st3) (lo + y - 1)) with
        | true => rw [if_pos rfl]; exact wpS_pure ⟨rfl, y, rfl, y2, by omega, sy⟩
        | false => rw [if_neg Bool.false_ne_true]; exact wpS_pure ⟨rfl, rfl, by omega, Seg.more (j := lo + y) C.rf C.tr (by omega) sy ee⟩
      · rintro c st' ⟨rfl, rfl, y2, sy⟩
        exact ⟨rfl, _, rfl, y2, by omega, sy⟩
      · rintro c st' ⟨rfl, y, rfl, y1, y2, sy⟩
        dsimp only
        exact wpS_pure (q y _ (by omega) y2 lc3 sy)
theorem bins_ok (C : Cmp prog w A E s κ L P) {lo n ok : Nat} (hk : kindOf st = κ) (hp : ∀ m, m < (arrOf st).size → P (g (arrOf st) m)) (h1 : 1 ≤ ok) (h2 : ok ≤ n) (hz : lo + n ≤ (arrOf st).size) (hs : Seg L (arrOf st) lo (lo + ok)) {Q : Bool → SortSt → Prop}
    (q : ∀ st', Lc st st' lo (lo + n) → Seg L (arrOf st') lo (lo + n) → Q true st') : wpS (model prog w) A E s (binarySort' lo n ok) Q st := by
  have hmx : max ok 1 = ok := by omega
  refine wpS_bind (wpS_mono (wpS_forRange (I := fun k c st' => c = (none, ()) ∧ Lc st st' lo (lo + n) ∧ Seg L (arrOf st') lo (lo + k)) (Q := fun c st' => c = (none, ()) ∧ Lc st st' lo (lo + n) ∧ Seg L (arrOf st') lo (lo + n)) ?_ ?_ ⟨rfl, Lc.refl _ _ _, by rw [hmx]; exact hs⟩) ?_)
  · rintro k c st' k1 k2 ⟨rfl, lc, sg⟩
    have hk1 : kindOf st' = κ := lc.kd.trans hk
    have hp1 := lc.all hp
    have hz1 : lo + n ≤ (arrOf st').size := by rw [lc.size]; exact hz
    refine wpS_bind (wpS_mono (wpS_forRange (I := fun x c st2 => st' = st2 ∧ ∃ l r : Nat, c = (none, l, r) ∧ l ≤ r ∧ r ≤ k ∧ r - l ≤ k - x ∧ (∀ j, j < l → L (g (arrOf st') (lo + k)) (g (arrOf st') (lo + j)) = false) ∧ ∀ j, r ≤ j → j < k → L (g (arrOf st') (lo + k)) (g (arrOf st') (lo + j)) = true)
      (Q := fun c st2 => st' = st2 ∧ ∃ l : Nat, c = (none, l, l) ∧ l ≤ k ∧ (∀ j, j < l → L (g (arrOf st') (lo + k)) (g (arrOf st') (lo + j)) = false) ∧ ∀ j, l ≤ j → j < k → L (g (arrOf st') (lo + k)) (g (arrOf st') (lo + j)) = true) ?_ ?_
      ⟨rfl, 0, k, rfl, Nat.zero_le _, Nat.le_refl _, by omega, fun j hj => absurd hj (Nat.not_lt_zero _), fun j a1 a2 => by omega⟩) ?_)
    · rintro x c st2 _ hx ⟨rfl, l, r, rfl, a1, a2, a3, a4, a5⟩
      dsimp only
      by_cases hge : l ≥ r
      · rw [if_pos hge]
        obtain rfl : l = r := by omega
        exact wpS_pure ⟨rfl, l, rfl, a2, a4, a5⟩
      · rw [if_neg hge]
        refine wpS_bind (ltAt_ok C hk1 hp1 (by omega) (by omega) ?_)
        dsimp only
        cases e : L (g (arrOf st') (lo + k)) (g (arrOf st') (lo + (l + r) / 2)) with
        | true =>
          rw [if_pos rfl]
          exact wpS_pure ⟨rfl, l, _, rfl, by omega, by omega, by omega, a4, fun j b1 b2 => C.tr1 e (sg _ _ (by omega) (by omega) (by omega))⟩
        | false =>
          rw [if_neg Bool.false_ne_true]
          exact wpS_pure ⟨rfl, _, r, rfl, by omega, a2, by omega, fun j b1 => C.tr _ _ _ (sg (lo + j) (lo + (l + r) / 2) (by omega) (by omega) (by omega)) e, a5⟩
    · rintro c st2 ⟨rfl, l, r, rfl, a1, a2, a3, a4, a5⟩
      obtain rfl : l = r := by omega
      exact ⟨rfl, l, rfl, a2, a4, a5⟩
    · rintro c st2 ⟨rfl, l, rfl, a2, a4, a5⟩
      dsimp only
      have gb : ∀ m, g (bubble (arrOf st') (lo + k) (lo + k - (lo + l))) m = if m = lo + l then g (arrOf st') (lo + k) else if lo + l < m ∧ m ≤ lo + k then g (arrOf st') (m - 1) else g (arrOf st') m := fun m => by
        rw [g_of, getElem?_bubble (by omega) _ (by omega), show lo + k - (lo + k - (lo + l)) = lo + l by omega]
        by_cases b1 : m = lo + l
        · rw [if_pos b1, if_pos b1, ← g_of]
        · rw [if_neg b1, if_neg b1]
          by_cases b2 : lo + l < m ∧ m ≤ lo + k
          · rw [if_pos b2, if_pos b2, ← g_of]
          · rw [if_neg b2, if_neg b2, ← g_of]
      refine wpS_bind (move_ok (wpS_pure ⟨rfl, lc.trans ⟨rfl, rfl, rfl, Array.perm_iff_toList_perm.mp (bubble_perm _ _ _), fun m hm => ?_⟩, fun m m2 b1 b2 b3 => ?_⟩))
      · show g (bubble (arrOf st') (lo + k) (lo + k - (lo + l))) m = _
        rw [gb, if_neg (by omega), if_neg (by omega)]
      · show L (g (bubble (arrOf st') (lo + k) (lo + k - (lo + l))) m2) (g (bubble (arrOf st') (lo + k) (lo + k - (lo + l))) m) = false
        rw [gb, gb]
        by_cases c1 : m = lo + l
        · rw [if_pos c1]
          by_cases c2 : m2 = lo + l
          · rw [if_pos c2]; exact C.rf _
          · rw [if_neg c2, if_pos ⟨by omega, by omega⟩]
            have := a5 (m2 - 1 - lo) (by omega) (by omega)
            rw [show lo + (m2 - 1 - lo) = m2 - 1 by omega] at this
            exact C.as _ _ this
        · rw [if_neg c1]
          by_cases c2 : m2 = lo + l
          · rw [if_pos c2, if_neg (by omega)]
            have := a4 (m - lo) (by omega)
            rwa [show lo + (m - lo) = m by omega] at this
          · rw [if_neg c2]
            by_cases c3 : lo + l < m
            · rw [if_pos ⟨by omega, by omega⟩, if_pos ⟨c3, by omega⟩]
              exact sg _ _ (by omega) (by omega) (by omega)
            · rw [if_neg (show ¬ (lo + l < m ∧ m ≤ lo + k) by omega)]
              by_cases c4 : lo + l < m2
              · rw [if_pos ⟨c4, by omega⟩]
                exact sg _ _ b1 (by omega) (by omega)
              · rw [if_neg (by omega)]
                exact sg _ _ b1 b2 (by omega)
  · rintro c st' ⟨rfl, lc, sg⟩
    rw [show max (max ok 1) n = n by omega] at sg
    exact ⟨rfl, lc, sg⟩
  · rintro c st' ⟨rfl, lc, sg⟩
    exact wpS_pure (q st' lc sg)
end
end L2.Tim

set_option Elab.async false
set_option linter.all false
set_option maxRecDepth 100000
set_option maxHeartbeats 8000000
namespace L2.Tim
open PySem PyProof.Rows
/-- runs that follow one another, from i to j -/
def Pend (L : Keyed → Keyed → Bool) (a : Array Keyed) : List (Nat × Nat × Nat) → Nat → Nat → Prop
  | [], i, j => i = j
  | p :: r, i, j => p.1 = i ∧ 0 < p.2.1 ∧ Seg L a i (i + p.2.1) ∧ Pend L a r (i + p.2.1) j
section
variable {L : Keyed → Keyed → Bool} {a b : Array Keyed}
theorem Pend.le : ∀ {l : List (Nat × Nat × Nat)} {i j : Nat}, Pend L a l i j → i + l.length ≤ j
  | [], i, j, h => by cases h; exact Nat.le_refl _
  | p :: r, i, j, ⟨h1, h2, h3, h4⟩ => by have := h4.le; rw [List.length_cons]; omega
theorem Pend.cong : ∀ {l : List (Nat × Nat × Nat)} {i j : Nat}, Pend L a l i j → (∀ m, i ≤ m → m < j → g b m = g a m) → Pend L b l i j
  | [], i, j, h, _ => h
  | p :: r, i, j, ⟨h1, h2, h3, h4⟩, h => by
    have := h4.le
    exact ⟨h1, h2, fun m n a1 a2 a3 => by rw [h m a1 (by omega), h n (by omega) (by omega)]; exact h3 m n a1 a2 a3, h4.cong fun m a1 a2 => h m (by omega) a2⟩
theorem Pend.app : ∀ {l r : List (Nat × Nat × Nat)} {i j : Nat}, Pend L a (l ++ r) i j ↔ ∃ k, Pend L a l i k ∧ Pend L a r k j
  | [], r, i, j => ⟨fun h => ⟨i, rfl, h⟩, fun ⟨k, h1, h2⟩ => by cases h1; exact h2⟩
  | p :: l, r, i, j => ⟨fun ⟨h1, h2, h3, h4⟩ => by
      obtain ⟨k, k1, k2⟩ := Pend.app.mp h4
      exact ⟨k, ⟨h1, h2, h3, k1⟩, k2⟩, fun ⟨k, ⟨h1, h2, h3, k1⟩, k2⟩ => ⟨h1, h2, h3, Pend.app.mpr ⟨k, k1, k2⟩⟩⟩
theorem Pend.pw : ∀ {l : List (Nat × Nat × Nat)} {i j n : Nat} {pw : Nat}, Pend L a l i j → Pend L a (l.modify n fun x => (x.1, x.2.1, pw)) i j
  | [], i, j, n, pw, h => by rw [List.modify_nil]; exact h
  | p :: r, i, j, 0, pw, ⟨h1, h2, h3, h4⟩ => by rw [List.modify_zero_cons]; exact ⟨h1, h2, h3, h4⟩
  | p :: r, i, j, n + 1, pw, ⟨h1, h2, h3, h4⟩ => by rw [List.modify_succ_cons]; exact ⟨h1, h2, h3, h4.pw⟩
/-- an array of runs, split at a place with one behind -/
theorem split2 {p : Array (Nat × Nat × Nat)} {i : Nat} (h : i + 1 < p.size) : ∃ pre post x y, p.toList = pre ++ x :: y :: post ∧ pre.length = i ∧ p[i]? = some x ∧ p[i + 1]? = some y := by
  have hl : p.toList.length = p.size := Array.length_toList
  refine ⟨p.toList.take i, p.toList.drop (i + 2), p.toList[i]'(by omega), p.toList[i + 1]'(by omega), ?_, by rw [List.length_take]; omega, by simp, by simp⟩
  rw [← List.drop_eq_getElem_cons (by omega), ← List.drop_eq_getElem_cons (by omega), List.take_append_drop]
theorem merge_list {p : Array (Nat × Nat × Nat)} {i : Nat} {pre post : List (Nat × Nat × Nat)} {x y z : Nat × Nat × Nat} (e : p.toList = pre ++ x :: y :: post) (hl : pre.length = i) : ((p.setIfInBounds i z).eraseIdxIfInBounds (i + 1)).toList = pre ++ z :: post := by
  have hz : i + 1 < p.size := by
    have := congrArg List.length e
    rw [Array.length_toList, List.length_append, List.length_cons, List.length_cons] at this
    omega
  rw [Array.eraseIdxIfInBounds, dif_pos (by rw [Array.size_setIfInBounds]; exact hz), Array.toList_eraseIdx, Array.toList_setIfInBounds, e]
  subst hl
  rw [List.set_append_right _ _ (Nat.le_refl _), Nat.sub_self, List.eraseIdx_append_of_length_le (by omega), show pre.length + 1 - pre.length = 1 by omega]
  rfl
end
section
variable {prog : Program} {w : World} {A : Around} {E : Value → Shared → Prop} {s : Shared} {κ : SortKind} {L : Keyed → Keyed → Bool} {P : Keyed → Prop} {st : SortSt}
/-- where a sort stands: what it began with, and runs up to lo -/
structure At (κ : SortKind) (L : Keyed → Keyed → Bool) (a : Array Keyed) (st : SortSt) (lo : Nat) : Prop where
  kd : kindOf st = κ
  fl : failedOf st = none
  pm : (arrOf st).toList.Perm a.toList
  pd : Pend L (arrOf st) (pendingOf st).toList 0 lo
  le : lo ≤ a.size
theorem At.size {a : Array Keyed} {lo : Nat} (h : At κ L a st lo) : (arrOf st).size = a.size := by
  have := h.pm.length_eq
  rwa [Array.length_toList, Array.length_toList] at this
theorem perm_all {a b : Array Keyed} (pm : b.toList.Perm a.toList) (p : ∀ m, m < a.size → P (g a m)) : ∀ m, m < b.size → P (g b m) := fun m hm => by
  have hin : g b m ∈ a.toList := pm.mem_iff.mp (g_mem hm)
  obtain ⟨k, _, h1, h2⟩ := in_drop (a := a) (i := 0) (by rw [List.drop_zero]; exact hin)
  rw [h2]
  exact p k h1
theorem At.merge (C : Cmp prog w A E s κ L P) {a : Array Keyed} {lo i : Nat} (h : At κ L a st lo) (hp : ∀ m, m < a.size → P (g a m)) (hi : i + 1 < (pendingOf st).size) {Q : Bool → SortSt → Prop}
    (q : ∀ st', At κ L a st' lo → (pendingOf st').size + 1 = (pendingOf st).size → (∀ m, lo ≤ m → g (arrOf st') m = g (arrOf st) m) → Q true st') : wpS (model prog w) A E s (mergeAt' i) Q st := by
  obtain ⟨pre, post, ⟨sa, na, pw⟩, ⟨sb, nb, pw2⟩, e, hl, e1, e2⟩ := split2 hi
  have pd := h.pd
  rw [e] at pd
  obtain ⟨k, p1, q1, q2, q3, q4, q5, q6, q7⟩ := Pend.app.mp pd
  dsimp only at q1 q2 q3 q4 q5 q6 q7
  subst q1
  have hle := q7.le
  have hz := h.size
  have hlo := h.le
  refine mergeAt_ok C h.kd h.fl (perm_all h.pm hp) e1 e2 q4 q2 q5 (by omega) (by rw [q4]; exact q3) (by rw [q4]; exact q6) (fun st' lc sg => q st' ⟨lc.kd.trans h.kd, lc.fl.trans h.fl, lc.pm.trans h.pm, ?_, h.le⟩ ?_ fun m hm => lc.out m (.inr (by omega)))
  · rw [lc.pd]
    show Pend L (arrOf st') (((pendingOf st).setIfInBounds i (sa, na + nb, pw)).eraseIdxIfInBounds (i + 1)).toList 0 lo
    rw [merge_list e hl]
    have hle1 := p1.le
    refine Pend.app.mpr ⟨sa, p1.cong fun m _ a2 => lc.out m (.inl a2), rfl, by show 0 < na + nb; omega, ?_, ?_⟩
    · show Seg L (arrOf st') sa (sa + (na + nb))
      rw [show sa + (na + nb) = sb + nb by omega]
      exact sg
    · show Pend L (arrOf st') post (sa + (na + nb)) lo
      rw [show sa + (na + nb) = sa + na + nb by omega]
      exact q7.cong fun m a1 a2 => lc.out m (.inr (by omega))
  · rw [lc.pd]
    have l1 := congrArg List.length (merge_list (z := (sa, na + nb, pw)) e hl)
    have l2 := congrArg List.length e
    rw [Array.length_toList] at l1 l2
    show (((pendingOf st).setIfInBounds i (sa, na + nb, pw)).eraseIdxIfInBounds (i + 1)).size + 1 = _
    rw [l1, l2]
    simp
    omega
theorem ite_lt {c : Prop} [Decidable c] {m n k : Nat} (h1 : m + 1 < k) (h2 : n + 1 < k) : (if c then m else n) + 1 < k := by split <;> assumption
theorem min_pos : ∀ (f n r : Nat), 0 < n → 0 < minRun' f n r
  | 0, n, r, h => by show 0 < n + r; omega
  | f + 1, n, r, h => by
    rw [minRun'_succ]
    split
    · omega
    · exact min_pos f _ _ (by omega)
theorem sort_ok (C : Cmp prog w A E s κ L P) {a : Array Keyed} (h : At κ L a st 0) (hp0 : pendingOf st = #[]) (hp : ∀ m, m < a.size → P (g a m)) (h1 : 1 ≤ a.size) {Q : Unit → SortSt → Prop}
    (q : ∀ st', (arrOf st').toList.Perm a.toList → failedOf st' = none → Seg L (arrOf st') 0 (arrOf st').size → Q () st') : wpS (model prog w) A E s sortRuns' Q st := by
  rw [sortRuns'_eq]
  refine wpS_bind (wpS_get ?_)
  dsimp only
  rw [h.size]
  have hmr := min_pos a.size a.size 0 (by omega)
  generalize minRun' a.size a.size 0 = mr at hmr
  refine wpS_bind (wpS_mono (wpS_forRange (I := fun x c st' => ∃ lo, c = (none, lo) ∧ At κ L a st' lo ∧ (x ≤ lo ∨ a.size ≤ lo)) (Q := fun c st' => c = (none, a.size) ∧ At κ L a st' a.size) ?_ ?_ ⟨0, rfl, h, .inl (Nat.le_refl _)⟩) ?_)
  · rintro x c st1 _ hx ⟨lo, rfl, at1, hlo⟩
    have hz1 := at1.size
    have hle1 := at1.le
    dsimp only
    by_cases c1 : lo ≥ a.size
    · rw [if_pos c1]
      obtain rfl : lo = a.size := by omega
      exact wpS_pure ⟨rfl, at1⟩
    rw [if_neg c1]
    refine wpS_bind (count_ok C at1.kd (perm_all at1.pm hp) (by omega) (by omega) (fun n st2 n1 n2 lc sg => ?_))
    have at2 : At κ L a st2 lo := ⟨lc.kd.trans at1.kd, lc.fl.trans at1.fl, lc.pm.trans at1.pm, by rw [lc.pd]; exact at1.pd.cong fun m _ a2 => lc.out m (.inl a2), hle1⟩
    have hz2 := at2.size
    dsimp only
    have go : ∀ (n : Nat) (st2 : SortSt), 1 ≤ n → lo + n ≤ a.size → At κ L a st2 lo → Seg L (arrOf st2) lo (lo + n) → ∀ pw : Nat, At κ L a (setPending st2 ((pendingOf st2).push (lo, n, 0))) (lo + n) := fun n st2 n1 n2 at2 sg pw => by
      refine ⟨at2.kd, at2.fl, at2.pm, ?_, n2⟩
      show Pend L (arrOf st2) ((pendingOf st2).push (lo, n, 0)).toList 0 (lo + n)
      rw [Array.toList_push]
      exact Pend.app.mpr ⟨lo, at2.pd, rfl, by show 0 < n; omega, sg, rfl⟩
    by_cases c2 : n < mr
    case' pos =>
      rw [if_pos c2]
      refine wpS_bind (wpS_rule ?_)
      refine wpS_bind (bins_ok C at2.kd (perm_all at2.pm hp) n1 (by omega) (by omega) sg (fun st3 lc3 sg3 => ?_))
      simp only [Bool.not_true, Bool.false_eq_true, if_false]
      have at3 : At κ L a st3 lo := ⟨lc3.kd.trans at2.kd, lc3.fl.trans at2.fl, lc3.pm.trans at2.pm, by rw [lc3.pd]; exact at2.pd.cong fun m _ a2 => lc3.out m (.inl a2), hle1⟩
      have hn3 : 1 ≤ min (a.size - lo) mr := by omega
      have hn4 : lo + min (a.size - lo) mr ≤ a.size := by omega
      generalize min (a.size - lo) mr = n3 at sg3 hn3 hn4 ⊢
    case' neg =>
      rw [if_neg c2]
      have at3 := at2
      have sg3 := sg
      have hn3 := n1
      have hn4 : lo + n ≤ a.size := by omega
      generalize st2 = st3 at at3 sg3 ⊢
      generalize n = n3 at sg3 hn3 hn4 ⊢
    all_goals
      refine wpS_bind (wpS_get ?_)
      cases hb : (pendingOf st3).back? with
      | none =>
        dsimp only
        exact wpS_bind (wpS_modify (wpS_pure ⟨_, rfl, go _ st3 hn3 hn4 at3 sg3 0, .inl (by omega)⟩))
      | some t =>
        obtain ⟨s1, n1', p1'⟩ := t
        dsimp only
        generalize power' a.size (2 * s1 + n1') (2 * s1 + n1' + n1' + n3) a.size = pw
        refine wpS_bind (wpS_mono (wpS_forRange (I := fun y c st' => c = (none, ()) ∧ At κ L a st' lo ∧ Seg L (arrOf st') lo (lo + n3) ∧ 0 < (pendingOf st').size) (Q := fun c st' => c = (none, ()) ∧ At κ L a st' lo ∧ Seg L (arrOf st') lo (lo + n3) ∧ 0 < (pendingOf st').size) ?_ (fun _ _ hh => hh) ⟨rfl, at3, sg3, ?_⟩) ?_)
        · rintro y c st4 _ hy ⟨rfl, at4, sg4, hp4⟩
          refine wpS_bind (wpS_get ?_)
          cases ho : (if (pendingOf st4).size > 1 then (pendingOf st4)[(pendingOf st4).size - 2]? else none) with
          | none => exact wpS_pure ⟨rfl, at4, sg4, hp4⟩
          | some o =>
            obtain ⟨o1, o2, older⟩ := o
            dsimp only
            have hs2 : (pendingOf st4).size > 1 := by
              by_cases h : (pendingOf st4).size > 1
              · exact h
              · rw [if_neg h] at ho; cases ho
            by_cases c5 : older ≤ pw
            · rw [if_pos c5]
              exact wpS_pure ⟨rfl, at4, sg4, hp4⟩
            · rw [if_neg c5]
              refine wpS_bind (at4.merge C hp (by omega) (fun st5 at5 sz5 out5 => ?_))
              simp only [Bool.not_true, Bool.false_eq_true, if_false]
              exact wpS_pure ⟨rfl, at5, fun m k a1 a2 a3 => by rw [out5 m a1, out5 k (by omega)]; exact sg4 m k a1 a2 a3, by omega⟩
        · rw [Array.back?_eq_getElem?] at hb
          have := (Array.getElem?_eq_some_iff.mp hb).1
          omega
        · rintro c st4 ⟨rfl, at4, sg4, hp4⟩
          dsimp only
          refine wpS_bind (wpS_modify (wpS_bind (wpS_modify (wpS_pure ⟨_, rfl, go _ _ hn3 hn4 ⟨at4.kd, at4.fl, at4.pm, ?_, at4.le⟩ sg4 0, .inl (by omega)⟩))))
          show Pend L (arrOf st4) ((pendingOf st4).modify ((pendingOf st4).size - 1) fun x => (x.1, x.2.1, pw)).toList 0 lo
          rw [Array.toList_modify]
          exact Pend.pw at4.pd
  · rintro c st1 ⟨lo, rfl, at1, hlo⟩
    have := at1.le
    obtain rfl : lo = a.size := by omega
    exact ⟨rfl, at1⟩
  · rintro c st1 ⟨rfl, at1⟩
    dsimp only
    have hle := at1.pd.le
    rw [Array.length_toList] at hle
    refine wpS_bind (wpS_mono (wpS_forRange (I := fun x c st' => c = (none, ()) ∧ At κ L a st' a.size ∧ (pendingOf st').size + x ≤ a.size + 1) (Q := fun c st' => c = (none, ()) ∧ At κ L a st' a.size ∧ (pendingOf st').size ≤ 1) ?_ ?_ ⟨rfl, at1, by omega⟩) ?_)
    · rintro x c st2 _ hx ⟨rfl, at2, hs⟩
      refine wpS_bind (wpS_get ?_)
      by_cases c1 : (pendingOf st2).size ≤ 1
      · rw [if_pos c1]
        exact wpS_pure ⟨rfl, at2, c1⟩
      rw [if_neg c1]
      refine wpS_bind (at2.merge C hp (ite_lt (by omega) (by omega)) (fun st5 at5 sz5 out5 => ?_))
      simp only [Bool.not_true, Bool.false_eq_true, if_false]
      exact wpS_pure ⟨rfl, at5, by omega⟩
    · rintro c st2 ⟨rfl, at2, hs⟩
      exact ⟨rfl, at2, by omega⟩
    · rintro c st2 ⟨rfl, at2, hs⟩
      refine wpS_pure (q st2 at2.pm at2.fl ?_)
      rw [at2.size]
      have pd := at2.pd
      have hl : (pendingOf st2).toList.length ≤ 1 := by rw [Array.length_toList]; exact hs
      match hm : (pendingOf st2).toList, hl with
      | [], _ =>
        rw [hm] at pd
        have pd' : 0 = a.size := pd
        omega
      | [p], _ =>
        rw [hm] at pd
        obtain ⟨p1, p2, p3, p4⟩ := pd
        have p4' : 0 + p.2.1 = a.size := p4
        rw [p4'] at p3
        exact p3
      | _ :: _ :: _, hl => exact absurd hl (by simp)
end
end L2.Tim

set_option Elab.async false
set_option linter.all false
set_option maxRecDepth 100000
set_option maxHeartbeats 2000000
namespace L2
open PySem PySem.Spec PyProof.Rows
def keyOf (kf : Addr → K3) (x : Keyed) : K3 := match x.1 with
  | .ref a => kf a
  | _ => (0, 0, 0)
theorem lt3_wk {a b c : K3} (h1 : lt3 b a = false) (h2 : lt3 c b = false) : lt3 c a = false := by
  cases h : lt3 c a with
  | false => rfl
  | true =>
    rw [← Bool.not_eq_true, lt3_iff] at h1 h2
    rw [lt3_iff] at h
    omega
section
variable {X : Cx} {pins : List (Addr × Obj)} {σ : St} {H : Hp} {s : Shared} {ts : List Addr} {kf : Addr → K3}
theorem cmp_k3 (I : Inv X pins σ H s) {A : Around} {E : Value → Shared → Prop} (hk : ∀ t ∈ ts, H t = some (.tup (k3 (kf t)))) :
    Tim.Cmp X.prog X.w A E s (tuples' true) (fun x y => lt3 (keyOf kf x) (keyOf kf y)) (fun x => ∃ t ∈ ts, x = (.ref t, .ref t)) := by
  refine ⟨fun st x y Q hx hy hkd q => ?_, fun x y z a b => lt3_wk a b, fun x y h => lt3_asym h⟩
  obtain ⟨t, ht, rfl⟩ := hx
  obtain ⟨u, hu, rfl⟩ := hy
  rw [lt'_eq]
  refine wpS_bind (wpS_get ?_)
  rw [hkd]
  exact wpS_bind (wpS_lift (wpAny_attempt (lt_k3 I (hk t ht) (hk u hu) ⟨rfl, wpS_pure q⟩)))
theorem tups_of (I : Inv X pins σ H s) : ∀ (l : List Addr), (∀ t ∈ l, H t = some (.tup (k3 (kf t)))) → ∃ fs, PySem.W.KatTups s.heap (l.map Value.ref) fs ∧ fs.length = l.length ∧ ∀ v ∈ fs, ∃ n t, v = Value.int n t
  | [], _ => ⟨[], PySem.W.KatTups.nil, rfl, fun v hv => by cases hv⟩
  | x :: r, h => by
    obtain ⟨fs, a, b, c⟩ := tups_of I r fun t ht => h t (List.mem_cons_of_mem _ ht)
    obtain ⟨its, rr, ⟨o, eo, co, no, dO⟩, _⟩ := I.tuple (SqT.of (h x List.mem_cons_self))
    obtain ⟨t1, t2, t3, rfl⟩ := vals3 rr
    refine ⟨Value.int (kf x).1 t1 :: fs, PySem.W.KatTups.cons eo co dO rfl a, by simp [b], fun v hv => ?_⟩
    rcases List.mem_cons.mp hv with rfl | hv
    · exact ⟨_, _, rfl⟩
    · exact c v hv
theorem refs_vals : ∀ l : List Addr, Vals (l.map V.ref) (l.map Value.ref)
  | [] => .nil
  | x :: r => .cons rfl (refs_vals r)
theorem vals_refs : ∀ {l : List Addr} {us : List Value}, Vals (l.map V.ref) us → us = l.map Value.ref
  | [], _, .nil => rfl
  | x :: r, _, .cons h t => by cases h; rw [List.map_cons, ← vals_refs t]
def adr (x : Keyed) : Addr := match x.1 with
  | .ref a => a
  | _ => 0
theorem zip_self : ∀ ts : List Addr, (ts.map Value.ref).zip (ts.map Value.ref) = ts.map fun t => (Value.ref t, Value.ref t)
  | [] => rfl
  | x :: r => congrArg _ (zip_self r)
/-- list.sort over tuples of three ints -/
theorem lsort_ok {a : Addr} {n : Nat} {P : PySem.Fin → Shared → Prop} {A : Around} {E : Value → Shared → Prop} {s1 : Shared} (old : ∀ b o, s.heap.get? b = some o → s1.heap.get? b = some o ∧ b ≠ a) (eq1 : s1 = { s with heap := s1.heap }) (I : Inv X pins σ H s) (ho : s1.heap.get? a = some (seqObj "list" (ts.map Value.ref).toArray n))
    (hk : ∀ t ∈ ts, H t = some (.tup (k3 (kf t)))) (hz : ts.length ≤ sizeLine)
    (h : ∀ (out : List Addr) (h' : Heap) (c : Nat), out.Perm ts → out.Pairwise (fun a b => lt3 (kf b) (kf a) = false) → (∀ b o, s.heap.get? b = some o → h'.get? b = some o) → h'.get? a = some (seqObj "list" (out.map Value.ref).toArray c) → P (.done (.ret .none)) { s with heap := h' }) :
    wpAny (model X.prog X.w) A (Builtin.«list.sort» ⟨[.ref a], []⟩) P E s1 := by
  have u1 := Heap.SameBut.update s1.heap a (Obj.mapSeq fun _ => (#[] : Array Value))
  obtain ⟨e1, ho1⟩ : ∃ e1, (s1.heap.update a (Obj.mapSeq fun _ => (#[] : Array Value))).get? a = some (seqObj "list" #[] e1) := ⟨_, get?_update_seq ho fun _ => #[]⟩
  have hsz : ((ts.map Value.ref).toArray).size = ts.length := by rw [List.size_toArray, List.length_map]
  rw [list_sort_plain]
  refine wpAny_bind (listItems_at ho rfl ?_)
  refine wpAny_bind (listUpdate_at ho rfl ?_ (by rw [hsz]; exact hz) (Nat.zero_le _))
  refine wpAny_bind (seqEpoch_at ho1 rfl ?_)
  refine wpAny_bind (wpAny_newTuple ?_ (by show (ts.map Value.ref).length ≤ _; rw [List.length_map]; exact hz))
  refine wpAny_bind (wpAny_newList ?_ (Nat.zero_le _))
  refine wpAny_holding ?_
  have keep : ∀ b o, s.heap.get? b = some o → (((s1.heap.update a (Obj.mapSeq fun _ => (#[] : Array Value))).push (seqObj "tuple" (ts.map Value.ref).toArray 0)).push (seqObj "list" #[] 0)).get? b = some o := fun b o e => Heap.get?_push_of_some _ (Heap.get?_push_of_some _ ((u1.2 b (old b o e).2).trans (old b o e).1))
  have ha : (((s1.heap.update a (Obj.mapSeq fun _ => (#[] : Array Value))).push (seqObj "tuple" (ts.map Value.ref).toArray 0)).push (seqObj "list" #[] 0)).get? a = some (seqObj "list" #[] e1) := Heap.get?_push_of_some _ (Heap.get?_push_of_some _ ho1)
  have eqs : { s1 with heap := ((s1.heap.update a (Obj.mapSeq fun _ => (#[] : Array Value))).push (seqObj "tuple" (ts.map Value.ref).toArray 0)).push (seqObj "list" #[] 0) } = { s with heap := ((s1.heap.update a (Obj.mapSeq fun _ => (#[] : Array Value))).push (seqObj "tuple" (ts.map Value.ref).toArray 0)).push (seqObj "list" #[] 0) } := by rw [eq1]
  show wpAny (model X.prog X.w) A _ P E { s1 with heap := ((s1.heap.update a (Obj.mapSeq fun _ => (#[] : Array Value))).push (seqObj "tuple" (ts.map Value.ref).toArray 0)).push (seqObj "list" #[] 0) }
  rw [eqs]
  generalize ((s1.heap.update a (Obj.mapSeq fun _ => (#[] : Array Value))).push (seqObj "tuple" (ts.map Value.ref).toArray 0)).push (seqObj "list" #[] 0) = h3 at keep ha
  have I3 : Inv X pins σ H { s with heap := h3 } := I.kept (t' := s.toks) keep
  dsimp only
  by_cases h2 : ts.length < 2
  case' pos =>
    rw [if_pos (by rw [hsz]; exact h2), if_pos (by rw [hsz]; exact h2)]
    refine wpAny_bind (wpAny_pure ?_)
    rw [StateT.run_pure]
    refine wpAny_bind (wpAny_pure ?_)
    dsimp only
    have ho2 : (arrOf (SortSt.mk' general' ((ts.map Value.ref).toArray.zip (ts.map Value.ref).toArray) #[] 7 none)).map (·.2) = (ts.map Value.ref).toArray := by
      show ((ts.map Value.ref).toArray.zip (ts.map Value.ref).toArray).map (·.2) = _
      apply Array.toList_inj.mp
      rw [Array.toList_map, Array.toList_zip, List.map_snd_zip (Nat.le_refl _)]
    have hf : failedOf (SortSt.mk' general' ((ts.map Value.ref).toArray.zip (ts.map Value.ref).toArray) #[] 7 none) = none := rfl
    have pm1 : ts.Perm ts := List.Perm.refl _
    have pw : ts.Pairwise (fun a b => lt3 (kf b) (kf a) = false) := by
      match ts, h2 with
      | [], _ => exact List.Pairwise.nil
      | [t], _ => exact List.pairwise_singleton _ _
      | _ :: _ :: _, h2 => exact absurd h2 (by simp)
    obtain ⟨out, eo⟩ : ∃ out, out = ts := ⟨ts, rfl⟩
    have ho2 : (arrOf (SortSt.mk' general' ((ts.map Value.ref).toArray.zip (ts.map Value.ref).toArray) #[] 7 none)).map (·.2) = (out.map Value.ref).toArray := by rw [eo]; exact ho2
    have pm1 : out.Perm ts := eo ▸ pm1
    have pw : out.Pairwise (fun a b => lt3 (kf b) (kf a) = false) := eo ▸ pw
  case' neg =>
    rw [if_neg (by rw [hsz]; exact h2), if_neg (by rw [hsz]; exact h2)]
    obtain ⟨fs, kt, hfl, hfi⟩ := tups_of I3 ts hk
    refine wpAny_bind (PySem.W.kat_kind (T := .type "int") kt (by omega) (fun v hv => ?_) rfl ?_)
    · obtain ⟨n, t, rfl⟩ := hfi v hv
      exact .now
    have az : ∀ m, m < ((ts.map Value.ref).toArray.zip (ts.map Value.ref).toArray).size → ∃ t ∈ ts, Tim.g ((ts.map Value.ref).toArray.zip (ts.map Value.ref).toArray) m = (.ref t, .ref t) := fun m hm => by
      have hm' : m < ts.length := by simpa using hm
      refine ⟨ts[m], List.getElem_mem _, ?_⟩
      rw [Tim.g_eq hm]
      simp
    have C := cmp_k3 (A := A) (E := E) I3 hk
    have at0 : Tim.At (tuples' true) (fun x y => lt3 (keyOf kf x) (keyOf kf y)) ((ts.map Value.ref).toArray.zip (ts.map Value.ref).toArray) (SortSt.mk' (tuples' true) ((ts.map Value.ref).toArray.zip (ts.map Value.ref).toArray) #[] 7 none) 0 := ⟨rfl, rfl, List.Perm.refl _, rfl, Nat.zero_le _⟩
    refine wpAny_bind (wpAny_mono (Tim.sort_ok (Q := fun _ st' => (arrOf st').toList.Perm ((ts.map Value.ref).toArray.zip (ts.map Value.ref).toArray).toList ∧ failedOf st' = none ∧ Tim.Seg (fun x y => lt3 (keyOf kf x) (keyOf kf y)) (arrOf st') 0 (arrOf st').size) C at0 rfl az (by simp; omega) (fun st' a b c => ⟨a, b, c⟩)) (fun r s' hr => ?_) fun _ _ e => e)
    obtain ⟨⟨⟩, st'⟩ := r
    obtain ⟨rfl, pm, hf, sg⟩ := hr
    dsimp only at pm hf sg
    have ez : ((ts.map Value.ref).toArray.zip (ts.map Value.ref).toArray).toList = ts.map fun t => (Value.ref t, Value.ref t) := by
      rw [Array.toList_zip]
      exact zip_self ts
    rw [ez] at pm
    obtain ⟨out, pm1, pm2⟩ : ∃ out : List Addr, out.Perm ts ∧ (arrOf st').toList = out.map fun t => (Value.ref t, Value.ref t) := by
      refine ⟨(arrOf st').toList.map adr, ?_, ?_⟩
      · have := pm.map adr
        rw [List.map_map] at this
        have e : (adr ∘ fun t => (Value.ref t, Value.ref t)) = id := rfl
        rw [e, List.map_id] at this
        exact this
      · rw [List.map_map]
        conv => lhs; rw [← List.map_id (arrOf st').toList]
        refine List.map_congr_left fun x hx => ?_
        obtain ⟨t, _, rfl⟩ := List.mem_map.mp (pm.mem_iff.mp hx)
        rfl
    have ho2 : (arrOf st').map (·.2) = (out.map Value.ref).toArray := by
      apply Array.toList_inj.mp
      rw [Array.toList_map, pm2, List.map_map]
      rfl
    have pw : out.Pairwise (fun a b => lt3 (kf b) (kf a) = false) := by
      have pw := sg.pw
      rw [pm2, List.pairwise_map] at pw
      exact pw
    dsimp only
  all_goals
    rw [ho2]
    have s2 := Heap.SameBut.update h3 a (Obj.mapSeq fun _ => (out.map Value.ref).toArray)
    obtain ⟨c2, hc2⟩ : ∃ c2, (h3.update a (Obj.mapSeq fun _ => (out.map Value.ref).toArray)).get? a = some (seqObj "list" (out.map Value.ref).toArray c2) := ⟨_, get?_update_seq ha fun _ => (out.map Value.ref).toArray⟩
    refine wpAny_bind (seqEpoch_at ha rfl ?_)
    refine wpAny_bind (listUpdate_at ha rfl ?_ (Nat.zero_le _) (by rw [List.size_toArray, List.length_map, pm1.length_eq]; exact Nat.le_succ_of_le hz))
    try rw [hf]
    simp only [bne_self_eq_false, Bool.false_eq_true, if_false]
    exact wpAny_pure (h out _ c2 pm1 pw (fun b o e => (s2.2 b (old b o e).2).trans (keep b o e)) hc2)
/-- sorted(l), l a list of tuples of three ints -/
def rSortT (K : PySem.W.Frag) : List V → Hp → VK → Prop := fun xs H Q => ∃ (l : Addr) (ts : List Addr) (kf : Addr → K3), xs = [.ref l] ∧ SqL K H l (ts.map V.ref) ∧ (∀ t ∈ ts, H t = some (.tup (k3 (kf t)))) ∧
  ∀ (D : Addr) (out : List Addr), H D = none → out.Perm ts → out.Pairwise (fun a b => lt3 (kf b) (kf a) = false) → Q (.ref D) (upd H D (.lst (out.map V.ref)))
theorem call_sortedT : CallR X (.builtin "sorted") (rSortT X.K) := by
  intro pins s σ H xs us Q I r h
  obtain ⟨l, ts, kf, rfl, hq, hk, q⟩ := h
  obtain ⟨u, rfl, rx⟩ := vals1 r
  cases rx
  obtain ⟨its, r', pl, hz⟩ := I.list hq
  obtain rfl := vals_refs r'
  rw [List.length_map] at hz
  refine Calls.call_function_entry kind_sorted plain_sorted entry_sorted (args_sorted1 _) ?_
  unfold Builtin.«sorted»
  refine wpAny_bind (m := checkCount "sorted" 1 1 _) (wpAny_pure ?_)
  refine wpAny_bind (collect_list pl.isList ?_ (by rw [List.length_map]; exact hz))
  refine wpAny_bind (wpAny_newList ?_ (by rw [List.length_map]; exact hz))
  have hsz : ((s.heap.push (seqObj "list" #[] 0)).update s.heap.objs.size (Obj.mapSeq (· ++ (ts.map Value.ref).toArray))).objs.size = s.heap.objs.size + 1 := by
    rw [Heap.size_update, size_push']
  have hoL : (((s.heap.push (seqObj "list" #[] 0)).update s.heap.objs.size (Obj.mapSeq (· ++ (ts.map Value.ref).toArray))).push (seqObj "list" (ts.map Value.ref).toArray 0)).get? (s.heap.objs.size + 1) = some (seqObj "list" (ts.map Value.ref).toArray 0) := by
    rw [← hsz]; exact Heap.get?_push_size _ rfl
  have keep : ∀ b o, s.heap.get? b = some o → (((s.heap.push (seqObj "list" #[] 0)).update s.heap.objs.size (Obj.mapSeq (· ++ (ts.map Value.ref).toArray))).push (seqObj "list" (ts.map Value.ref).toArray 0)).get? b = some o ∧ b ≠ s.heap.objs.size + 1 := fun b o q => by
    have hlt : b < s.heap.objs.size := Heap.lt_size q
    refine ⟨?_, Nat.ne_of_lt (Nat.lt_succ_of_lt hlt)⟩
    rw [Heap.get?_push_ne _ _ _ (by rw [hsz]; exact Nat.ne_of_lt (Nat.lt_succ_of_lt hlt)), Heap.get?_update_ne _ _ _ _ (Nat.ne_of_lt hlt), Heap.get?_push_ne _ _ _ (Nat.ne_of_lt hlt)]
    exact q
  show wpAny _ _ _ _ _ { s with heap := ((s.heap.push (seqObj "list" #[] 0)).update s.heap.objs.size (Obj.mapSeq (· ++ (ts.map Value.ref).toArray))).push (seqObj "list" (ts.map Value.ref).toArray 0) }
  rw [hsz]
  refine wpAny_bind (wpAny_holding (wpAny_call_entry slot_list_sort ⟨_, hoL, rfl⟩ entry_list_sort ?body (args_list_sort _)))
  case body =>
    refine lsort_ok (s := s) (s1 := { s with heap := ((s.heap.push (seqObj "list" #[] 0)).update s.heap.objs.size (Obj.mapSeq (· ++ (ts.map Value.ref).toArray))).push (seqObj "list" (ts.map Value.ref).toArray 0) }) keep rfl I hoL hk hz (fun out h' c pm pw old hc => ?_)
    refine ⟨_, rfl, wpAny_pure ⟨_, rfl, ?_⟩⟩
    have hp : H (s.heap.objs.size + 1) = none := I.hok.fresh (Nat.le_succ _)
    refine ⟨.ref (s.heap.objs.size + 1), _, I.laid (o := .lst (out.map V.ref)) (t' := s.toks) old (Nat.le_succ _) ?_, rfl, q _ out hp pm pw⟩
    exact ⟨by rw [List.length_map, pm.length_eq]; exact hz, out.map Value.ref, c, refs_vals out, hc⟩
end
end L2

set_option Elab.async false
set_option linter.all false
set_option maxRecDepth 100000
set_option maxHeartbeats 2000000
namespace L2
open PySem PySem.Spec PyProof.Rows
/-- what stood at first stands -/
abbrev Kp (h₀ h : Heap) : Prop := ∀ b o, h₀.get? b = some o → h.get? b = some o
section
variable {prog : Program} {w : World} {A : Around} {R : Result → Shared → Prop} {I S : Addr} {n : Nat} {P : Nat → Value → Prop} {St : Nat → Heap → Prop} {h₀ : Heap} {fp : List Addr} {bt : Nat → Nat → Bool}
theorem min_go (W : Walks prog w A.in1 I fp [I] n P St) (hI : h₀.get? I = none) (hS0 : h₀.get? S = none) (hSf : S ∉ fp)
    (cmp : ∀ i j vi vj (s : Shared) (Q : Value → Shared → Prop) (E : Value → Shared → Prop), Kp h₀ s.heap → P i vi → P j vj → Q (.bool (bt i j)) s → wpAny (model prog w) A.in1 (richCompare .Lt vi vj) Q E s) :
    ∀ (k j : Nat) (s : Shared) (vb : Value) (c : Nat), n = j + 1 + k → St (j + 1) s.heap → P (argBest bt j) vb → Kp h₀ s.heap → s.heap.get? S = some { cls := .type "list", dict := none, data := .seq #[vb, vb] c, slots := #[] } →
    (∀ v h' tk, P (argBest bt (n - 1)) v → Kp h₀ h' → R (.ok (.ret v)) { s with heap := h', toks := tk }) → codeAny (model prog w) A (.builtin "min.loop" ⟨[.ref I, .none, .ref S], []⟩) R s := by
  have nm : (toString "min" ++ toString ".loop" : String) = "min.loop" := by decide
  have hSw : S ∉ [I] := fun h => hSf (W.sub _ h)
  have kI : ∀ {h h' : Heap}, Kp h₀ h → (∀ b o, b ∉ [I] → h.get? b = some o → h'.get? b = some o) → Kp h₀ h' := fun kp k b o e => k b o (fun z => by rw [List.mem_singleton.mp z, hI] at e; cases e) (kp b o e)
  have kS : ∀ {h : Heap} {f : Obj → Obj}, Kp h₀ h → Kp h₀ (h.update S f) := fun kp b o e => (Heap.get?_update_other _ _ (fun z => by rw [z, e] at hS0; cases hS0)).trans (kp b o e)
  intro k
  induction k with
  | zero =>
    intro j s vb c hn hst hP kp hS hR
    refine codeAny_builtin PySem.F.entry_min_loop ?_
    rw [Around.under_plainId PySem.F.plain_min_loop _]
    refine wpAny_bind (wpAny_seqItems hS rfl ?_)
    refine wpAny_bind (wpAny_tryCatch (W.done s _ _ (by rw [hn]; exact hst) fun h' tk k' => ?_))
    refine wpAny_bind (wpAny_updateSeq (k' S _ hSw hS) rfl (wpAny_bind (wpAny_letGo (wpAny_pure ?_))))
    exact hR vb _ tk (by rw [hn]; exact hP) (kS (kI kp k'))
  | succ k ih =>
    intro j s vb c hn hst hP kp hS hR
    refine codeAny_builtin PySem.F.entry_min_loop ?_
    rw [Around.under_plainId PySem.F.plain_min_loop _]
    refine wpAny_bind (wpAny_seqItems hS rfl ?_)
    refine wpAny_bind (wpAny_tryCatch (W.item (j + 1) s _ _ (by omega) hst fun v h' tk hv st' k' => ?_))
    have hS' := k' S _ hSw hS
    have kp' := kI kp k'
    show wpAny _ A.in1 (tryCatch (holding [v, v] (richCompare .Lt v vb >>= _)) _ >>= _) _ _ _
    refine wpAny_bind (wpAny_tryCatch (wpAny_holding (wpAny_bind (cmp (j + 1) (argBest bt j) v vb _ _ _ kp' hv hP ?_))))
    refine wpAny_bind (wpAny_holding (wpAny_truthy_bool (wpAny_bind (wpAny_letGo (wpAny_pure ?_)))))
    cases hb : bt (j + 1) (argBest bt j) with
    | true =>
      simp only [if_true]
      refine wpAny_bind (wpAny_updateSeq hS' rfl (wpAny_bind (wpAny_letGo ?_)))
      rw [nm]
      refine wpAny_pure ⟨plainId_quiet PySem.F.plain_min_loop _, ih (j + 1) _ v _ (by omega) (W.frame _ _ _ st' fun b hb' o e => ?_) (by rw [argBest, hb, if_pos rfl]; exact hv) (kS kp') (Heap.get?_update_self _ hS' rfl) fun v' h'' tk'' a b => hR v' h'' tk'' a b⟩
      exact (Heap.get?_update_other _ _ (fun h : S = b => hSf (by rw [h]; exact hb'))).trans e
    | false =>
      simp only [Bool.false_eq_true, if_false]
      refine wpAny_bind (wpAny_letGo ?_)
      rw [nm]
      exact wpAny_pure ⟨plainId_quiet PySem.F.plain_min_loop _, ih (j + 1) _ vb c (by omega) st' (by rw [argBest, hb, if_neg Bool.false_ne_true]; exact hP) kp' hS' fun v' h'' tk'' a b => hR v' h'' tk'' a b⟩
end
theorem best_ok {f : Nat → K3} : ∀ k, argBest (fun i j => lt3 (f i) (f j)) k ≤ k ∧ ∀ j, j ≤ k → lt3 (f j) (f (argBest (fun i j => lt3 (f i) (f j)) k)) = false
  | 0 => ⟨Nat.le_refl _, fun j hj => by
      obtain rfl : j = 0 := by omega
      cases h : lt3 (f 0) (f 0) with
      | false => exact h
      | true => have := lt3_asym h; rw [h] at this; cases this⟩
  | k + 1 => by
    obtain ⟨a, b⟩ := best_ok (f := f) k
    have rf : ∀ x, lt3 x x = false := fun x => by
      cases h : lt3 x x with
      | false => rfl
      | true => have := lt3_asym h; rw [h] at this; cases this
    rw [argBest]
    generalize argBest (fun i j => lt3 (f i) (f j)) k = m at a b
    cases h : lt3 (f (k + 1)) (f m) with
    | true =>
      rw [if_pos rfl]
      refine ⟨Nat.le_refl _, fun j hj => ?_⟩
      by_cases e : j = k + 1
      · rw [e]; exact rf _
      · exact lt3_wk (lt3_asym h) (b j (by omega))
    | false =>
      rw [if_neg Bool.false_ne_true]
      refine ⟨by omega, fun j hj => ?_⟩
      by_cases e : j = k + 1
      · rw [e]; exact h
      · exact b j (by omega)
section
variable {X : Cx}
/-- min(l), l a list of tuples of three ints -/
def rMinT (K : PySem.W.Frag) : List V → Hp → VK → Prop := fun xs H Q => ∃ (l : Addr) (ts : List Addr) (kf : Addr → K3), xs = [.ref l] ∧ SqL K H l (ts.map V.ref) ∧ (∀ t ∈ ts, H t = some (.tup (k3 (kf t)))) ∧ ts ≠ [] ∧ ∀ t ∈ ts, (∀ u ∈ ts, lt3 (kf u) (kf t) = false) → Q (.ref t) H
theorem lex_k3 (a b : K3) : HT.lexLt [a.1, a.2.1, a.2.2] [b.1, b.2.1, b.2.2] = lt3 a b := by
  unfold lt3
  simp only [HT.lexLt]
  by_cases h1 : a.1 = b.1
  · by_cases h2 : a.2.1 = b.2.1
    · by_cases h3 : a.2.2 = b.2.2 <;> simp [h1, h2, h3]
    · simp [h1, h2]
  · simp [h1]
theorem call_minT (hc : X.calm = true) (hu : X.A.units + 1 < cLine) : CallR X (.builtin "min") (rMinT X.K) := by
  intro pins s σ H xs us Q I r h
  obtain ⟨l, ts, kf, rfl, hq, hk, hne, q⟩ := h
  obtain ⟨u, rfl, rx⟩ := vals1 r
  cases rx
  obtain ⟨its, r', pl, hz⟩ := I.list hq
  obtain rfl := vals_refs r'
  have hl := pl.isList
  have hlt : l < s.heap.objs.size := by obtain ⟨_, e, _⟩ := hl; exact Heap.lt_size e
  have hpos : 0 < ts.length := List.length_pos_iff.mpr hne
  have nm : (toString "min" ++ toString ".loop" : String) = "min.loop" := by decide
  refine call_function_tree PySem.F.kind_min PySem.F.plain_min PySem.F.entry_min (PySem.F.args_min1 _) ?_
  refine wpAny_bind (wpAny_of_eq (show Builtin.Builtins.bindParams "min" ["key", "default"] 0 ⟨[], []⟩ = pure [none, none] from rfl) ?_)
  refine wpAny_bind (wpAny_pure ?_)
  refine wpAny_bind (wpAny_pyIter_list hl ?_)
  refine wpAny_bind (wpAny_newObj_type ?_)
  rw [nm]
  have hsz : (s.heap.push { cls := .type "list_iterator", data := .fields #[.ref l, .int 0 0] }).objs.size = s.heap.objs.size + 1 := Heap.size_push ..
  have hS0 : s.heap.get? (s.heap.push { cls := .type "list_iterator", data := .fields #[.ref l, .int 0 0] }).objs.size = none := Heap.get?_none_of_le (by rw [hsz]; exact Nat.le_succ _)
  have hI0 : s.heap.get? s.heap.objs.size = none := Heap.get?_none_of_le (Nat.le_refl _)
  have W := Walks.list (prog := X.prog) (w := X.w) (A := X.A.in1) (I.ok.hd hc) s.heap.objs.size l (Nat.ne_of_lt hlt) (ts.map Value.ref).toArray
  have hSf : (s.heap.push { cls := .type "list_iterator", data := .fields #[.ref l, .int 0 0] }).objs.size ∉ [s.heap.objs.size, l] := by
    rw [hsz]
    intro hm
    rcases List.mem_cons.mp hm with e | hm
    · exact absurd e (Nat.ne_of_gt (Nat.lt_succ_self _))
    · rw [← List.mem_singleton.mp hm] at hlt
      exact absurd hlt (Nat.not_lt.mpr (Nat.le_succ _))
  have st0 : ((s.heap.push { cls := .type "list_iterator", data := .fields #[.ref l, .int 0 0] }).push { cls := .type "list", data := .seq #[] }).IsListIter s.heap.objs.size l 0 ∧ ((s.heap.push { cls := .type "list_iterator", data := .fields #[.ref l, .int 0 0] }).push { cls := .type "list", data := .seq #[] }).IsList l (ts.map Value.ref).toArray := ⟨⟨_, Heap.get?_push_of_some _ (Heap.get?_push_size _ rfl), rfl, rfl⟩, (hl.push _).push _⟩
  have kp0 : Kp s.heap ((s.heap.push { cls := .type "list_iterator", data := .fields #[.ref l, .int 0 0] }).push { cls := .type "list", data := .seq #[] }) := fun b o e => Heap.get?_push_of_some _ (Heap.get?_push_of_some _ e)
  have hS1 : ((s.heap.push { cls := .type "list_iterator", data := .fields #[.ref l, .int 0 0] }).push { cls := .type "list", data := .seq #[] }).get? (s.heap.push { cls := .type "list_iterator", data := .fields #[.ref l, .int 0 0] }).objs.size = some { cls := .type "list", data := .seq #[] } := Heap.get?_push_size _ rfl
  generalize (s.heap.push { cls := .type "list_iterator", data := .fields #[.ref l, .int 0 0] }).objs.size = S at hS0 hSf hS1 ⊢
  generalize ((s.heap.push { cls := .type "list_iterator", data := .fields #[.ref l, .int 0 0] }).push { cls := .type "list", data := .seq #[] }) = h1 at st0 kp0 hS1 ⊢
  have hSw : S ∉ [s.heap.objs.size] := fun h => hSf (W.sub _ h)
  have kI : ∀ {h h' : Heap}, Kp s.heap h → (∀ b o, b ∉ [s.heap.objs.size] → h.get? b = some o → h'.get? b = some o) → Kp s.heap h' := fun kp k b o e => k b o (fun z => by rw [List.mem_singleton.mp z, hI0] at e; cases e) (kp b o e)
  refine wpAny_pure ⟨plainId_quiet PySem.F.plain_min_loop _, codeAny_builtin PySem.F.entry_min_loop ?_⟩
  rw [Around.under_plainId PySem.F.plain_min_loop _]
  refine wpAny_bind (wpAny_seqItems hS1 rfl ?_)
  refine wpAny_bind (wpAny_tryCatch (W.item 0 _ _ _ (by simpa using hpos) st0 fun v h' tk hv st' k' => ?_))
  have hS' := k' S _ hSw hS1
  have kp1 := kI kp0 k'
  show wpAny _ X.A.in1 (updateSeq S (fun _ => #[v, v]) >>= _) _ _ _
  refine wpAny_bind ?_
  refine wpAny_updateSeq hS' rfl ?_
  rw [nm]
  refine wpAny_pure ⟨plainId_quiet PySem.F.plain_min_loop _, min_go (bt := fun i j => lt3 (kf (ts.getD i 0)) (kf (ts.getD j 0))) W hI0 hS0 hSf ?_ (ts.length - 1) 0 _ v _ (by simp; omega) (W.frame _ _ _ st' fun b hb' o e => ?_) hv ?_ (Heap.get?_update_self _ hS' rfl) fun v' h'' tk'' hP' kp'' => ?_⟩
  · intro i j vi vj s2 Q2 E2 kp hi hj hq2
    have at_ : ∀ {i : Nat} {v : Value}, (ts.map Value.ref).toArray[i]? = some v → ∃ t, t ∈ ts ∧ ts.getD i 0 = t ∧ v = .ref t := fun {i v} h => by
      rw [List.getElem?_toArray, List.getElem?_map] at h
      obtain ⟨t, ht, rfl⟩ := Option.map_eq_some_iff.mp h
      exact ⟨t, List.mem_of_getElem? ht, by rw [List.getD_eq_getElem?_getD, ht]; rfl, rfl⟩
    obtain ⟨t, mt, et, rfl⟩ := at_ hi
    obtain ⟨u, mu, eu, rfl⟩ := at_ hj
    rw [et, eu] at hq2
    obtain ⟨tt, r1, ⟨o1, q1, c1, n1, d1⟩, _⟩ := I.tuple (SqT.of (hk t mt))
    obtain ⟨uu, r2, ⟨o2, q2, c2, n2, d2⟩, _⟩ := I.tuple (SqT.of (hk u mu))
    have i1 : IntsAre tt.toArray.toList [(kf t).1, (kf t).2.1, (kf t).2.2] := intsAre_of r1
    have i2 : IntsAre uu.toArray.toList [(kf u).1, (kf u).2.1, (kf u).2.2] := intsAre_of r2
    exact HT.lt_tupInts ⟨o1, kp _ _ q1, c1, n1, d1⟩ ⟨o2, kp _ _ q2, c2, n2, d2⟩ i1 i2 (by show X.A.units + 1 < cLine; exact hu) (by rw [lex_k3]; exact hq2)
  · exact (Heap.get?_update_other _ _ (fun h : S = b => hSf (by rw [h]; exact hb'))).trans e
  · exact fun b o e => (Heap.get?_update_other _ _ (fun z => by rw [z, e] at hS0; cases hS0)).trans (kp1 b o e)
  · obtain ⟨b1, b2⟩ := best_ok (f := fun i => kf (ts.getD i 0)) (ts.length - 1)
    have hsz2 : (ts.map Value.ref).toArray.size - 1 = ts.length - 1 := by simp
    rw [hsz2] at hP'
    generalize argBest (fun i j => lt3 (kf (ts.getD i 0)) (kf (ts.getD j 0))) (ts.length - 1) = m at b1 b2 hP'
    have hm : m < ts.length := by omega
    rw [List.getElem?_toArray, List.getElem?_map, List.getElem?_eq_getElem hm] at hP'
    cases hP'
    have em : ts.getD m 0 = ts[m] := by simp [hm]
    refine ⟨.ref ts[m], H, I.kept kp'', rfl, q _ (List.getElem_mem hm) fun u hu' => ?_⟩
    obtain ⟨j, hj, rfl⟩ := List.getElem_of_mem hu'
    have := b2 j (by omega)
    rw [em] at this
    have ej : ts.getD j 0 = ts[j] := by simp [hj]
    rwa [ej] at this
end
end L2

set_option Elab.async false
set_option linter.all false
set_option maxRecDepth 100000
namespace K08
open PySem L2
def top (i : Nat) : Stmt := PySem.Challenge.pw_buildhall_k08_alarms.main.body.getD i (.Pass ⟨0, 0, 0, 0⟩)
abbrev s_Alarms___init__ : Stmt := inClass (top 24) 0
abbrev n_Alarms___init__ : List Str := ["self"]
theorem sc_Alarms___init__ : FnScope n_Alarms___init__ ["self"] (defScope s_Alarms___init__) := ⟨rfl, rfl, rfl, by decide +kernel, rfl, by decide +kernel, by decide +kernel⟩
abbrev s_Alarms_put : Stmt := inClass (top 24) 1
abbrev n_Alarms_put : List Str := ["self", "turn", "sort", "number", "alarm"]
theorem sc_Alarms_put : FnScope n_Alarms_put ["self", "turn", "sort", "number"] (defScope s_Alarms_put) := ⟨rfl, rfl, rfl, by decide +kernel, rfl, by decide +kernel, by decide +kernel⟩
abbrev s_Alarms_drop : Stmt := inClass (top 24) 2
abbrev n_Alarms_drop : List Str := ["self", "turn", "sort", "number", "alarm", "spot"]
theorem sc_Alarms_drop : FnScope n_Alarms_drop ["self", "turn", "sort", "number"] (defScope s_Alarms_drop) := ⟨rfl, rfl, rfl, by decide +kernel, rfl, by decide +kernel, by decide +kernel⟩
abbrev s_Alarms_first : Stmt := inClass (top 24) 3
abbrev n_Alarms_first : List Str := ["self"]
theorem sc_Alarms_first : FnScope n_Alarms_first ["self"] (defScope s_Alarms_first) := ⟨rfl, rfl, rfl, by decide +kernel, rfl, by decide +kernel, by decide +kernel⟩
abbrev s_Alarms_take : Stmt := inClass (top 24) 4
abbrev n_Alarms_take : List Str := ["self"]
theorem sc_Alarms_take : FnScope n_Alarms_take ["self"] (defScope s_Alarms_take) := ⟨rfl, rfl, rfl, by decide +kernel, rfl, by decide +kernel, by decide +kernel⟩
abbrev s_Alarms_rows : Stmt := inClass (top 24) 5
abbrev n_Alarms_rows : List Str := ["self"]
theorem sc_Alarms_rows : FnScope n_Alarms_rows ["self"] (defScope s_Alarms_rows) := ⟨rfl, rfl, rfl, by decide +kernel, rfl, by decide +kernel, by decide +kernel⟩
abbrev s_Alarms_many : Stmt := inClass (top 24) 6
abbrev n_Alarms_many : List Str := ["self"]
theorem sc_Alarms_many : FnScope n_Alarms_many ["self"] (defScope s_Alarms_many) := ⟨rfl, rfl, rfl, by decide +kernel, rfl, by decide +kernel, by decide +kernel⟩
abbrev s_Alarms_spot : Stmt := inClass (top 24) 7
abbrev n_Alarms_spot : List Str := ["self", "alarm", "low", "high", "half"]
theorem sc_Alarms_spot : FnScope n_Alarms_spot ["self", "alarm"] (defScope s_Alarms_spot) := ⟨rfl, rfl, rfl, by decide +kernel, rfl, by decide +kernel, by decide +kernel⟩
abbrev s__law_cell_at : Stmt := top 26
abbrev n__law_cell_at : List Str := ["_law_script", "_law_k"]
theorem sc__law_cell_at : FnScope n__law_cell_at ["_law_script", "_law_k"] (defScope s__law_cell_at) := ⟨rfl, rfl, rfl, by decide +kernel, rfl, by decide +kernel, by decide +kernel⟩
abbrev s__law_mixed : Stmt := top 27
abbrev n__law_mixed : List Str := ["_law_cell", "_law_k"]
theorem sc__law_mixed : FnScope n__law_mixed ["_law_cell", "_law_k"] (defScope s__law_mixed) := ⟨rfl, rfl, rfl, by decide +kernel, rfl, by decide +kernel, by decide +kernel⟩
abbrev s__law_whole : Stmt := top 28
abbrev n__law_whole : List Str := ["_law_found"]
theorem sc__law_whole : FnScope n__law_whole ["_law_found"] (defScope s__law_whole) := ⟨rfl, rfl, rfl, by decide +kernel, rfl, by decide +kernel, by decide +kernel⟩
abbrev s__law_word : Stmt := top 29
abbrev n__law_word : List Str := ["_law_e", "_law_some", "_law_found"]
theorem sc__law_word : FnScope n__law_word ["_law_e"] (defScope s__law_word) := ⟨rfl, rfl, rfl, by decide +kernel, rfl, by decide +kernel, by decide +kernel⟩
abbrev s__law_alarm : Stmt := top 30
abbrev n__law_alarm : List Str := ["_law_cell", "_law_turn"]
theorem sc__law_alarm : FnScope n__law_alarm ["_law_cell"] (defScope s__law_alarm) := ⟨rfl, rfl, rfl, by decide +kernel, rfl, by decide +kernel, by decide +kernel⟩
abbrev s__law_refused : Stmt := top 31
abbrev n__law_refused : List Str := ["_law_box", "_law_alarm_here", "_law_e"]
theorem sc__law_refused : FnScope n__law_refused ["_law_box", "_law_alarm_here"] (defScope s__law_refused) := ⟨rfl, rfl, rfl, by decide +kernel, rfl, by decide +kernel, by decide +kernel⟩
abbrev s__law_dropped : Stmt := top 32
abbrev n__law_dropped : List Str := ["_law_box", "_law_kept", "_law_cell", "_law_alarm_here"]
theorem sc__law_dropped : FnScope n__law_dropped ["_law_box", "_law_kept", "_law_cell"] (defScope s__law_dropped) := ⟨rfl, rfl, rfl, by decide +kernel, rfl, by decide +kernel, by decide +kernel⟩
abbrev s__law_taken : Stmt := top 33
abbrev n__law_taken : List Str := ["_law_box", "_law_kept", "_law_found", "_law_due"]
theorem sc__law_taken : FnScope n__law_taken ["_law_box", "_law_kept"] (defScope s__law_taken) := ⟨rfl, rfl, rfl, by decide +kernel, rfl, by decide +kernel, by decide +kernel⟩
abbrev s__law_deed : Stmt := top 34
abbrev n__law_deed : List Str := ["_law_box", "_law_kept", "_law_cell", "_law_alarm_here"]
theorem sc__law_deed : FnScope n__law_deed ["_law_box", "_law_kept", "_law_cell"] (defScope s__law_deed) := ⟨rfl, rfl, rfl, by decide +kernel, rfl, by decide +kernel, by decide +kernel⟩
abbrev s__law_asked : Stmt := top 35
abbrev n__law_asked : List Str := ["_law_box", "_law_kept", "_law_way", "_law_held", "_law_found"]
theorem sc__law_asked : FnScope n__law_asked ["_law_box", "_law_kept", "_law_way", "_law_held"] (defScope s__law_asked) := ⟨rfl, rfl, rfl, by decide +kernel, rfl, by decide +kernel, by decide +kernel⟩
abbrev s__law_looked : Stmt := top 36
abbrev n__law_looked : List Str := ["_law_boxes", "_law_kept", "_law_cell", "_law_held", "_law_k", "_law_turn"]
theorem sc__law_looked : FnScope n__law_looked ["_law_boxes", "_law_kept", "_law_cell", "_law_held"] (defScope s__law_looked) := ⟨rfl, rfl, rfl, by decide +kernel, rfl, by decide +kernel, by decide +kernel⟩
abbrev s_law : Stmt := top 37
abbrev n_law : List Str := ["_law_script", "_law_boxes", "_law_kept", "_law_held", "_law_k", "_law_alarm_here", "_law_many", "_law_cell"]
theorem sc_law : FnScope n_law ["_law_script"] (defScope s_law) := ⟨rfl, rfl, rfl, by decide +kernel, rfl, by decide +kernel, by decide +kernel⟩
end K08

set_option Elab.async false
set_option linter.all false
set_option maxRecDepth 100000
set_option maxHeartbeats 4000000
set_option pp.maxSteps 600
set_option pp.deepTerms false
seal L2.PE L2.PT L2.PW L2.PA L2.PS L2.PSs L2.PI L2.PG L2.PGs L2.PSet L2.PTs L2.PC L2.PO L2.PK L2.OpR L2.UnR L2.CallR L2.IxR L2.SlR L2.PIp L2.PGet L2.InOp
namespace K08
open PySem L2 PyProof.Rows

theorem same_of {H : Hp} {p : Addr} {o : HO} (h : H p = none) : Same H (upd H p o) := fun b u e => by rw [upd_ne (ne_of_none e h)]; exact e
/-! ### triples in the order of tuples -/
abbrev T3 := Int × Int × Int
def row (t : T3) : List Int := [t.1, t.2.1, t.2.2]
def lt (t u : T3) : Bool := HT.lexLt (row t) (row u)
theorem lt_iff (t u : T3) : lt t u = true ↔ t.1 < u.1 ∨ (t.1 = u.1 ∧ (t.2.1 < u.2.1 ∨ (t.2.1 = u.2.1 ∧ t.2.2 < u.2.2))) := by
  obtain ⟨a, b, c⟩ := t
  obtain ⟨d, e, f⟩ := u
  simp only [lt, row, HT.lexLt]
  by_cases h1 : a = d
  · by_cases h2 : b = e
    · by_cases h3 : c = f <;> simp [h1, h2, h3] <;> omega
    · simp [h1, h2] <;> omega
  · simp [h1] <;> omega
theorem lt_false (t u : T3) : lt t u = false ↔ ¬ (t.1 < u.1 ∨ (t.1 = u.1 ∧ (t.2.1 < u.2.1 ∨ (t.2.1 = u.2.1 ∧ t.2.2 < u.2.2)))) := by
  rw [← lt_iff]; simp
theorem lt_irr (t : T3) : lt t t = false := by rw [lt_false]; omega
theorem lt_of_lt {a b c : T3} (h1 : lt a b = false) (h2 : lt a c = true) : lt b c = true := by
  rw [lt_iff] at *; rw [lt_false] at h1; omega
theorem nlt_of {a b c : T3} (h1 : lt b a = false) (h2 : lt a c = false) : lt b c = false := by
  rw [lt_false] at *; omega
theorem lt_asym {a b : T3} (h : lt a b = true) : lt b a = false := by
  rw [lt_iff] at h; rw [lt_false]; omega
abbrev Sorted (rs : List T3) : Prop := rs.Pairwise fun a b => lt b a = false
theorem sorted_get {rs : List T3} (s : Sorted rs) {i j : Nat} {a b : T3} (ha : rs[i]? = some a) (hb : rs[j]? = some b) (h : i < j) : lt b a = false := by
  obtain ⟨hi, rfl⟩ := List.getElem?_eq_some_iff.mp ha
  obtain ⟨hj, rfl⟩ := List.getElem?_eq_some_iff.mp hb
  exact List.pairwise_iff_getElem.mp s i j hi hj h
theorem take_get {rs : List T3} {n : Nat} {x : T3} (h : x ∈ rs.take n) : ∃ j, j < n ∧ rs[j]? = some x := by
  obtain ⟨j, hj⟩ := List.getElem?_of_mem h
  rw [List.getElem?_take] at hj
  by_cases hl : j < n
  · rw [if_pos hl] at hj; exact ⟨j, hl, hj⟩
  · rw [if_neg hl] at hj; cases hj
theorem drop_get {rs : List T3} {n : Nat} {x : T3} (h : x ∈ rs.drop n) : ∃ j, n ≤ j ∧ rs[j]? = some x := by
  obtain ⟨j, hj⟩ := List.getElem?_of_mem h
  rw [List.getElem?_drop] at hj
  exact ⟨n + j, Nat.le_add_right _ _, hj⟩
theorem step_lo {rs : List T3} (s : Sorted rs) {m : Nat} {th t : T3} (hm : rs[m]? = some th) (h : lt th t = true) : ∀ x ∈ rs.take (m + 1), lt x t = true := fun x hx => by
  obtain ⟨j, hj, e⟩ := take_get hx
  by_cases hjm : j = m
  · subst hjm; rw [hm] at e; cases e; exact h
  · exact lt_of_lt (sorted_get s e hm (by omega)) h
theorem step_hi {rs : List T3} (s : Sorted rs) {m : Nat} {th t : T3} (hm : rs[m]? = some th) (h : lt th t = false) : ∀ x ∈ rs.drop m, lt x t = false := fun x hx => by
  obtain ⟨j, hj, e⟩ := drop_get hx
  by_cases hjm : j = m
  · subst hjm; rw [hm] at e; cases e; exact h
  · exact nlt_of (sorted_get s hm e (by omega)) h
structure Cut (rs : List T3) (a : T3) (i : Nat) : Prop where
  le : i ≤ rs.length
  lo : ∀ x ∈ rs.take i, lt x a = true
  hi : ∀ x ∈ rs.drop i, lt x a = false
def ins (rs : List T3) (a : T3) (i : Nat) : List T3 := rs.take i ++ a :: rs.drop i
theorem ins_sorted {rs : List T3} {a : T3} {i : Nat} (s : Sorted rs) (c : Cut rs a i) : Sorted (ins rs a i) := by
  have hs : Sorted (rs.take i ++ rs.drop i) := by rw [List.take_append_drop]; exact s
  have hs := List.pairwise_append.mp hs
  refine List.pairwise_append.mpr ⟨hs.1, List.pairwise_cons.mpr ⟨fun x hx => c.hi x hx, hs.2.1⟩, fun x hx y hy => ?_⟩
  rcases List.mem_cons.mp hy with rfl | hy
  · exact lt_asym (c.lo x hx)
  · exact hs.2.2 x hx y hy
theorem ins_perm (rs : List T3) (a : T3) (i : Nat) : (ins rs a i).Perm (a :: rs) := by
  have h : (rs.take i ++ a :: rs.drop i).Perm (a :: (rs.take i ++ rs.drop i)) := List.perm_middle
  rw [List.take_append_drop] at h
  exact h

/-! ### rows of the heap -/
def trip (t : T3) : List V := [.int t.1, .int t.2.1, .int t.2.2]
def TupAt (H : Hp) (v : V) (t : T3) : Prop := ∃ q, v = .ref q ∧ H q = some (.tup (trip t))
inductive Rws (H : Hp) : List V → List T3 → Prop
  | nil : Rws H [] []
  | cons {v : V} {t : T3} {vs : List V} {ts : List T3} (h : TupAt H v t) (r : Rws H vs ts) : Rws H (v :: vs) (t :: ts)
theorem Rws.len {H : Hp} : ∀ {vs : List V} {ts : List T3}, Rws H vs ts → vs.length = ts.length
  | _, _, .nil => rfl
  | _, _, .cons _ r => by rw [List.length_cons, List.length_cons, r.len]
theorem Rws.get {H : Hp} : ∀ {vs : List V} {ts : List T3} {i : Nat} {v : V}, Rws H vs ts → vs[i]? = some v → ∃ t, ts[i]? = some t ∧ TupAt H v t
  | _, _, _, _, .nil, h => by simp at h
  | _, _, 0, _, .cons r _, h => by simp at h; subst h; exact ⟨_, rfl, r⟩
  | _, _, i + 1, _, .cons _ t, h => by
    obtain ⟨d, e, r⟩ := t.get (i := i) (by simpa using h)
    exact ⟨d, by simpa using e, r⟩
theorem Rws.append {H : Hp} : ∀ {vs us : List V} {ts ss : List T3}, Rws H vs ts → Rws H us ss → Rws H (vs ++ us) (ts ++ ss)
  | _, _, _, _, .nil, q => q
  | _, _, _, _, .cons h r, q => .cons h (r.append q)
theorem Rws.take {H : Hp} : ∀ {vs : List V} {ts : List T3} (i : Nat), Rws H vs ts → Rws H (vs.take i) (ts.take i)
  | _, _, 0, _ => .nil
  | _, _, _ + 1, .nil => .nil
  | _, _, i + 1, .cons h r => .cons h (r.take i)
theorem Rws.drop {H : Hp} : ∀ {vs : List V} {ts : List T3} (i : Nat), Rws H vs ts → Rws H (vs.drop i) (ts.drop i)
  | _, _, 0, h => h
  | _, _, _ + 1, .nil => .nil
  | _, _, i + 1, .cons _ r => r.drop i
theorem Rws.eraseIdx {H : Hp} : ∀ {vs : List V} {ts : List T3} (i : Nat), Rws H vs ts → Rws H (vs.eraseIdx i) (ts.eraseIdx i)
  | _, _, _, .nil => .nil
  | _, _, 0, .cons _ r => r
  | _, _, i + 1, .cons h r => .cons h (r.eraseIdx i)
theorem Rws.imp {H H' : Hp} (k : ∀ b xs, H b = some (.tup xs) → H' b = some (.tup xs)) : ∀ {vs : List V} {ts : List T3}, Rws H vs ts → Rws H' vs ts
  | _, _, .nil => .nil
  | _, _, .cons ⟨q, e, h⟩ r => .cons ⟨q, e, k _ _ h⟩ (r.imp k)
theorem Rws.reps {K : PySem.W.Frag} {H : Hp} : ∀ {vs : List V} {ts : List T3}, Rws H vs ts → Reps K H vs (ts.map fun t => D.t ((trip t).map D.a))
  | _, _, .nil => .nil
  | _, _, .cons ⟨q, e, h⟩ r => by
    subst e
    exact .cons (.t (SqT.of h) (.cons (.a rfl) (.cons (.a rfl) (.cons (.a rfl) .nil)))) r.reps
abbrev tD (t : T3) : D := D.t ((trip t).map D.a)
theorem TupAt.rep {K : PySem.W.Frag} {H : Hp} {v : V} {t : T3} (h : TupAt H v t) : Rep K H v (tD t) := by
  obtain ⟨q, rfl, h⟩ := h
  exact .t (SqT.of h) (.cons (.a rfl) (.cons (.a rfl) (.cons (.a rfl) .nil)))
theorem eq_tD (t u : T3) : eqD (tD t) (tD u) = decide (t = u) := by
  obtain ⟨a, b, c⟩ := t
  obtain ⟨d, e, f⟩ := u
  show eqD (D.t [.a (.int a), .a (.int b), .a (.int c)]) (D.t [.a (.int d), .a (.int e), .a (.int f)]) = _
  simp only [eqD_t, eqDs, eqD, eqV]
  by_cases h1 : a = d <;> by_cases h2 : b = e <;> by_cases h3 : c = f <;> simp [h1, h2, h3]

/-! ### an Alarms object: its list at l holds rs -/
structure AlAt (C : Addr) (H : Hp) (p l : Addr) (rs : List T3) : Prop where
  ob : ∃ dx, H p = some (.ins C dx [("rising", .ref l)])
  ls : ∃ vs, H l = some (.lst vs) ∧ Rws H vs rs
  sd : Sorted rs
/-- only what stands at the addresses of S may have changed -/
def Chg (S : List Addr) (H H' : Hp) : Prop := ∀ b o, b ∉ S → H b = some o → H' b = some o
structure Txt (K : PySem.W.Frag) (mg : Str → Option Value) (C CN : Addr) : Prop where
  cl : Cls K C
  nR : NoAttr K C "rising"
  mgC : mg "Alarms" = some (.ref C)
  mgN : mg "NoAlarm" = some (.ref CN)
  exc : PySem.W.excIn K CN bmV "ValueError.__new__" = true
  exm : PySem.W.exmOne K (.ref CN) (.ref CN) = some true
  len : mg "len" = none
  list : mg "list" = none
  range : mg "range" = none
  enum : mg "enumerate" = none
section
variable {P : Program} {w : World} {K : PySem.W.Frag} {mg : Str → Option Value} {base : Heap} {C CN : Addr}
def spInit (C : Addr) : Sp := fun vs H Q _ => ∃ (p dx : Addr), vs = [.ref p] ∧ H p = some (.ins C dx []) ∧ ∀ (l : Addr) (H' : Hp), H l = none → AlAt C H' p l [] → Chg [p] H H' → Q .non H'
theorem ok_init {f : Addr} {fd : FuncData} (F : Fun K "__init__" "Alarms.__init__" s_Alarms___init__ f fd) (T : Txt K mg C CN) : FnOk P w K mg base CX0 1 f fd ["self"] (spInit C) := by
  refine F.ok sc_Alarms___init__ (fun vs H Q E h => ?_) (fun cdv A outer s H vs Q E hr h => ?_)
  · obtain ⟨p, dx, rfl, _⟩ := h
    rfl
  · obtain ⟨p, dx, rfl, hp, k⟩ := h
    refine ⟨_, by exact (pss_one (ps_fld (pv 0) (pe_lst pa_nil) rfl)), ?_⟩
    refine ⟨by decide, fun l hl => ?_⟩
    have npl : p ≠ l := ne_of_none hp hl
    refine ⟨_, rfl, p, C, dx, [], rfl, (by rw [upd_ne npl]; exact hp), T.cl, T.nR, (by show 0 < 1000; decide), ?_⟩
    refine k l _ hl ⟨⟨dx, upd_same⟩, ⟨[], by rw [upd_ne npl.symm, upd_same], .nil⟩, List.Pairwise.nil⟩ fun b o hb e => ?_
    rw [upd_ne (by simpa using hb), upd_ne (ne_of_none e hl)]
    exact e
def spSpot (C : Addr) : Sp := fun vs H Q _ => ∃ (p l : Addr) (rs : List T3) (v : V) (t : T3), vs = [.ref p, v] ∧ AlAt C H p l rs ∧ TupAt H v t ∧ rs.length ≤ 100000 ∧ ∀ i : Nat, Cut rs t i → Q (.int (i : Int)) H
theorem ok_spot {f : Addr} {fd : FuncData} (F : Fun K "spot" "Alarms.spot" s_Alarms_spot f fd) (T : Txt K mg C CN) : FnOk P w K mg base CX0 1 f fd ["self", "alarm"] (spSpot C) := by
  refine F.ok sc_Alarms_spot (fun vs H Q E h => ?_) (fun cdv A outer s H vs Q E hr h => ?_)
  · obtain ⟨p, l, rs, v, t, rfl, _⟩ := h
    rfl
  · obtain ⟨p, l, rs, v, t, rfl, S, ⟨tq, rfl, ht⟩, hlen, k⟩ := h
    have hu := hu0 hr
    obtain ⟨⟨dx, hp⟩, ⟨vs, hl, hr3⟩, sd⟩ := S
    have hvl := hr3.len
    refine ⟨_, by exact (pss_cons (ps_set (i := 2) sc_Alarms_spot.nd rfl (Or.inl rfl) pe_int)
      (pss_cons (ps_set (i := 3) sc_Alarms_spot.nd rfl (Or.inl rfl) (pe_bcall call_len_seq rfl T.len PySem.boot_len (pa_c (pe_fld (pv 0) rfl) pa_nil)))
      (pss_cons (ps_while PassesOwn.never (pt_cmpR op_lt (pv 2) (pv 3) (nomark _)) (pss_cons (ps_set (i := 4) sc_Alarms_spot.nd rfl (Or.inl rfl) (pe_op op_fdiv (pe_op op_add (pv 2) (pv 3)) pe_int))
      (pss_one (ps_if (pt_cmpR (op_ltT hu) (pe_ix ix_list (pe_fld (pv 0) rfl) (pv 4) (fun _ _ => rfl)) (pv 1) (nomark _)) (pss_one (ps_set (i := 2) sc_Alarms_spot.nd rfl (Or.inl rfl) (pe_op op_add (pv 4) pe_int))) (pss_one (ps_set (i := 3) sc_Alarms_spot.nd rfl (Or.inl rfl) (pv 4)))))))
      (pss_one (ps_ret (pv 2)))))), ?_⟩
    refine ⟨_, rfl, p, C, dx, _, _, rfl, hp, T.cl, T.nR, rfl, l, vs, rfl, .inl (SqL.of hl), ?_⟩
    refine while_by (fun σ H1 => H1 = H ∧ ∃ (lo hi : Nat) (h : Option V), σ = [some (.ref p), some (.ref tq), some (.int lo), some (.int hi), h] ∧ lo ≤ hi ∧ hi ≤ rs.length ∧ (∀ x ∈ rs.take lo, lt x t = true) ∧ (∀ x ∈ rs.drop hi, lt x t = false))
      (fun σ _ => match σ with | [_, _, some (.int lo), some (.int hi), _] => (hi - lo).toNat | _ => 0) ?_ ?_ ?_
    · exact ⟨rfl, 0, rs.length, none, by rw [hvl]; rfl, Nat.zero_le _, Nat.le_refl _, by simp, by simp⟩
    · rintro σ H1 ⟨rfl, lo, hi, h, rfl, h1, h2, h3, h4⟩
      refine ⟨_, rfl, _, rfl, _, _, rfl, rfl, _, rfl, ?_⟩
      refine ite2 (fun hlt => ?_) (fun hge => ?_)
      · have hlt' : (lo : Int) < hi := of_decide_eq_true hlt
        have hh : ((lo : Int) + hi) / 2 = (((lo + hi) / 2 : Nat) : Int) := by omega
        have hm1 : (lo + hi) / 2 < hi := by omega
        have hm0 : lo ≤ (lo + hi) / 2 := by omega
        generalize hmid : (lo + hi) / 2 = mid at hh hm1 hm0
        obtain ⟨vm, hvm⟩ : ∃ vm, vs[mid]? = some vm := ⟨vs[mid]'(by omega), by simp⟩
        obtain ⟨th, hth, qm, rfl, hqm⟩ := hr3.get hvm
        refine ⟨_, rfl, _, rfl, _, _, rfl, rfl, _, _, rfl, rfl, ⟨by decide, by decide⟩, ?_⟩
        refine ⟨_, rfl, p, C, dx, _, _, rfl, hp, T.cl, T.nR, rfl, _, rfl, l, vs, _, _, rfl, rfl, SqL.of hl, by rw [hh]; exact atI_nat hvm, _, rfl, qm, tq, row th, row t, rfl, rfl, SqT.of hqm, SqT.of ht, _, rfl, ?_⟩
        refine ite2 (fun hc => ?_) (fun hc => ?_)
        · refine ⟨_, rfl, _, _, rfl, rfl, ⟨rfl, mid + 1, hi, some (.int mid), ?_, hm1, h2, step_lo sd hth hc, h4⟩, ?_⟩
          · show [some (V.ref p), some (V.ref tq), some (V.int (((lo : Int) + hi) / 2 + 1)), some (V.int hi), some (V.int (((lo : Int) + hi) / 2))] = _
            rw [hh]; rfl
          · show ((hi : Int) - (((lo : Int) + hi) / 2 + 1)).toNat < ((hi : Int) - lo).toNat
            omega
        · refine ⟨_, rfl, ⟨rfl, lo, mid, some (.int mid), ?_, hm0, by omega, h3, step_hi sd hth (by have hc2 := hc; simp only [Bool.not_eq_true] at hc2; exact hc2)⟩, ?_⟩
          · show [some (V.ref p), some (V.ref tq), some (V.int lo), some (V.int (((lo : Int) + hi) / 2)), some (V.int (((lo : Int) + hi) / 2))] = _
            rw [hh]
          · show ((((lo : Int) + hi) / 2) - (lo : Int)).toNat < ((hi : Int) - lo).toNat
            omega
      · have hge' : ¬ (lo : Int) < hi := by simpa using hge
        have e : lo = hi := by omega
        exact ⟨_, rfl, k lo ⟨by omega, h3, by rw [e]; exact h4⟩⟩
    · intro σ H1 Q1 Q2 hQ h
      obtain ⟨v, e, v', e', i, j, ei, ej, kk, ek, q⟩ := h
      exact ⟨v, e, v', e', i, j, ei, ej, kk, ek, hQ _ _ q⟩
end
end K08

set_option Elab.async false
set_option linter.all false
set_option maxRecDepth 100000
set_option maxHeartbeats 4000000
set_option pp.maxSteps 600
set_option pp.deepTerms false
namespace K08
open PySem L2 PyProof.Rows
section
variable {P : Program} {w : World} {K : PySem.W.Frag} {mg : Str → Option Value} {base : Heap} {C CN : Addr}
theorem noF {m : Str} {v : V} (h : (m == ("rising" : Str)) = false) : ([("rising", v)] : List (Str × V)).lookup m = none := by
  simp only [List.lookup, h]
theorem chg_tup {S : List Addr} {H H' : Hp} (k : Chg S H H') (hS : ∀ b ∈ S, ∀ xs, H b ≠ some (.tup xs)) : ∀ b xs, H b = some (.tup xs) → H' b = some (.tup xs) := fun b xs e => k b _ (fun z => hS b z xs e) e
def spPut (C : Addr) : Sp := fun vs H Q _ => ∃ (p l : Addr) (rs : List T3) (a b c : Int), vs = [.ref p, .int a, .int b, .int c] ∧ AlAt C H p l rs ∧ rs.length ≤ 10000 ∧ ∀ rs' H', AlAt C H' p l rs' → rs'.Perm ((a, b, c) :: rs) → Chg [l] H H' → Q .non H'
theorem ok_put {f : Addr} {fd : FuncData} (F : Fun K "put" "Alarms.put" s_Alarms_put f fd) (T : Txt K mg C CN) (km_Alarms_spot : KnowsM CX0 P w K mg base 1 C "spot" ["self", "alarm"] (spSpot C)) : FnOk P w K mg base CX0 2 f fd ["self", "turn", "sort", "number"] (spPut C) := by
  refine F.ok sc_Alarms_put (fun vs H Q E h => ?_) (fun cdv A outer s H vs Q E hr h => ?_)
  · obtain ⟨p, l, rs, a, b, c, rfl, _⟩ := h
    rfl
  · obtain ⟨p, l, rs, a, b, c, rfl, S, hlen, k⟩ := h
    obtain ⟨⟨dx, hp⟩, ⟨vs, hl, hr3⟩, sd⟩ := id S
    have hvl := hr3.len
    have big : 10000 < sizeLine := by decide
    refine ⟨_, by exact (pss_cons (ps_set (i := 4) sc_Alarms_put.nd rfl (Or.inl rfl) (pe_tup (pa_c (pv 1) (pa_c (pv 2) (pa_c (pv 3) pa_nil)))))
      (pss_one (ps_expr (pe_mcall PySem.F.plainAttrs_list PySem.F.slot_list_insert PySem.F.type_list_insert mt_insert (pe_fld (pv 0) rfl) (pa_c (pe_methM km_Alarms_spot T.cl hr pass0 (pv 0) (pa_c (pv 4) pa_nil)) (pa_c (pv 4) pa_nil)))))), ?_⟩
    refine ⟨_, rfl, _, rfl, _, rfl, (by show 3 ≤ sizeLine; decide), fun q hq => ?_⟩
    have sm : Same H (upd H q (.tup (trip (a, b, c)))) := same_of hq
    have hp1 := sm _ _ hp
    have hl1 := sm _ _ hl
    have r1 : Rws (upd H q (.tup (trip (a, b, c)))) vs rs := hr3.imp fun b xs e => sm _ _ e
    have ht : TupAt (upd H q (.tup (trip (a, b, c)))) (.ref q) (a, b, c) := ⟨q, rfl, upd_same⟩
    refine ⟨_, rfl, p, C, dx, _, _, rfl, hp1, T.cl, T.nR, rfl, .inl ⟨rfl, _, SqL.of hl1⟩, _, rfl, p, dx, _, rfl, hp1, noF (by decide +kernel), _, rfl, ?_⟩
    refine ⟨p, l, rs, .ref q, (a, b, c), rfl, ⟨⟨dx, hp1⟩, ⟨vs, hl1, r1⟩, sd⟩, ht, by omega, fun i cut => ?_⟩
    have hi := cut.le
    refine ⟨_, rfl, l, vs, (i : Int), .ref q, rfl, rfl, hl1, by omega, by omega, by omega, ?_⟩
    rw [Int.toNat_natCast]
    have hpl : p ≠ l := ne_of hp hl (by intro z; cases z)
    have hql : q ≠ l := fun z => by rw [z] at hq; rw [hl] at hq; cases hq
    have tl : ∀ o d xs, (upd H q (.tup (trip (a, b, c)))) d = some (.tup xs) → (upd (upd H q (.tup (trip (a, b, c)))) l o) d = some (.tup xs) := fun o d xs e => by
      rw [upd_ne (fun z => by rw [z, hl1] at e; cases e)]; exact e
    refine k (ins rs (a, b, c) i) _ ⟨⟨dx, by rw [upd_ne hpl]; exact hp1⟩, ⟨_, upd_same, ?_⟩, ins_sorted sd cut⟩ (ins_perm _ _ _) (fun d o hd e => ?_)
    · exact ((r1.take i).append (.cons ht (r1.drop i))).imp (tl _)
    · rw [upd_ne (by simpa using hd)]
      exact sm _ _ e
def spFirst (C : Addr) : Sp := fun vs H Q _ => ∃ (p l : Addr) (rs : List T3), vs = [.ref p] ∧ AlAt C H p l rs ∧ (rs = [] → Q .non H) ∧ ∀ t r v, rs = t :: r → TupAt H v t → Q v H
theorem ok_first {f : Addr} {fd : FuncData} (F : Fun K "first" "Alarms.first" s_Alarms_first f fd) (T : Txt K mg C CN) : FnOk P w K mg base CX0 1 f fd ["self"] (spFirst C) := by
  refine F.ok sc_Alarms_first (fun vs H Q E h => ?_) (fun cdv A outer s H vs Q E hr h => ?_)
  · obtain ⟨p, l, rs, rfl, _⟩ := h
    rfl
  · obtain ⟨p, l, rs, rfl, S, k1, k2⟩ := h
    obtain ⟨⟨dx, hp⟩, ⟨vs, hl, hr3⟩, sd⟩ := id S
    refine ⟨_, by exact (pss_one (ps_ret (pe_ifExp (pt_truth (pe_fld (pv 0) rfl) (fun _ => rfl)) (pe_ix ix_list (pe_fld (pv 0) rfl) pe_int (fun _ _ => rfl)) pe_non))), ?_⟩
    refine ⟨_, rfl, p, C, dx, _, _, rfl, hp, T.cl, T.nR, rfl, _, .inl ⟨vs, SqL.of hl, rfl⟩, ?_⟩
    cases hr3 with
    | nil => exact iteF (k1 rfl)
    | @cons v t vs' ts ht r =>
      refine iteT ⟨_, rfl, p, C, dx, _, _, rfl, hp, T.cl, T.nR, rfl, l, _, _, v, rfl, rfl, SqL.of hl, atI_nat (j := 0) rfl, ?_⟩
      exact k2 t ts v rfl ht
def spTake (C CN : Addr) : Sp := fun vs H Q E => ∃ (p l : Addr) (rs : List T3), vs = [.ref p] ∧ AlAt C H p l rs ∧ (rs = [] → E (.ref CN) none H) ∧ ∀ t r v H', rs = t :: r → TupAt H' v t → AlAt C H' p l r → Chg [l] H H' → Q v H'
theorem ok_take {f : Addr} {fd : FuncData} (F : Fun K "take" "Alarms.take" s_Alarms_take f fd) (T : Txt K mg C CN) : FnOk P w K mg base (CX1 P w base) 1 f fd ["self"] (spTake C CN) := by
  refine F.okX sc_Alarms_take (fun vs H Q E h => ?_) (fun cdv A outer s H vs Q E hr h => ?_)
  · obtain ⟨p, l, rs, rfl, _⟩ := h
    rfl
  · obtain ⟨p, l, rs, rfl, S, k1, k2⟩ := h
    obtain ⟨⟨dx, hp⟩, ⟨vs, hl, hr3⟩, sd⟩ := id S
    refine ⟨_, by exact (pss_cons (ps_if (pt_not (pt_truth (pe_fld (pv 0) rfl) (fun _ => rfl))) (pss_one (ps_raise T.exc T.mgN (pa_c pe_str pa_nil))) pss_nil)
      (pss_one (ps_ret (pe_mcall PySem.F.plainAttrs_list PySem.F.slot_list_pop PySem.F.type_list_pop mt_popAt (pe_fld (pv 0) rfl) (pa_c pe_int pa_nil))))), ?_⟩
    refine ⟨_, rfl, p, C, dx, _, _, rfl, hp, T.cl, T.nR, rfl, _, .inl ⟨vs, SqL.of hl, rfl⟩, ?_⟩
    cases hr3 with
    | nil => exact iteT ⟨by decide, k1 rfl⟩
    | @cons v t vs' ts ht r =>
      refine iteF ?_
      refine ⟨_, rfl, p, C, dx, _, _, rfl, hp, T.cl, T.nR, rfl, .inl ⟨rfl, _, SqL.of hl⟩, l, _, 0, 0, v, rfl, rfl, hl, by decide, by decide, (by unfold seqIndex?; simp), rfl, ?_⟩
      have hpl : p ≠ l := ne_of hp hl (by intro z; cases z)
      have tl : ∀ o d xs, H d = some (.tup xs) → (upd H l o) d = some (.tup xs) := fun o d xs e => by
        rw [upd_ne (fun z => by rw [z, hl] at e; cases e)]; exact e
      obtain ⟨q, rfl, hq⟩ := ht
      refine k2 t ts _ _ rfl ⟨q, rfl, tl _ _ _ hq⟩ ⟨⟨dx, by rw [upd_ne hpl]; exact hp⟩, ⟨_, upd_same, r.imp (tl _)⟩, (List.pairwise_cons.mp sd).2⟩ (fun d o hd e => ?_)
      rw [upd_ne (by simpa using hd)]
      exact e
def spRows (C : Addr) : Sp := fun vs H Q _ => ∃ (p l : Addr) (rs : List T3), vs = [.ref p] ∧ AlAt C H p l rs ∧ ∀ q vs H', H q = none → Same H H' → H' q = some (.lst vs) → Rws H' vs rs → Q (.ref q) H'
theorem ok_rows {f : Addr} {fd : FuncData} (F : Fun K "rows" "Alarms.rows" s_Alarms_rows f fd) (T : Txt K mg C CN) : FnOk P w K mg base CX0 1 f fd ["self"] (spRows C) := by
  refine F.ok sc_Alarms_rows (fun vs H Q E h => ?_) (fun cdv A outer s H vs Q E hr h => ?_)
  · obtain ⟨p, l, rs, rfl, _⟩ := h
    rfl
  · obtain ⟨p, l, rs, rfl, S, k⟩ := h
    obtain ⟨⟨dx, hp⟩, ⟨vs, hl, hr3⟩, sd⟩ := id S
    refine ⟨_, by exact (pss_one (ps_ret (pe_tcall call_list_of rfl T.list boot_list (pa_c (pe_fld (pv 0) rfl) pa_nil)))), ?_⟩
    refine ⟨_, rfl, p, C, dx, _, _, rfl, hp, T.cl, T.nR, rfl, l, vs, rfl, .inl (SqL.of hl), fun q hq => ?_⟩
    have sm : ∀ o, Same H (upd H q o) := fun o => same_of hq
    exact k q vs _ hq (sm _) upd_same (hr3.imp fun b xs e => sm _ _ _ e)
def spMany (C : Addr) : Sp := fun vs H Q _ => ∃ (p l : Addr) (rs : List T3), vs = [.ref p] ∧ AlAt C H p l rs ∧ Q (.int rs.length) H
theorem ok_many {f : Addr} {fd : FuncData} (F : Fun K "many" "Alarms.many" s_Alarms_many f fd) (T : Txt K mg C CN) : FnOk P w K mg base CX0 1 f fd ["self"] (spMany C) := by
  refine F.ok sc_Alarms_many (fun vs H Q E h => ?_) (fun cdv A outer s H vs Q E hr h => ?_)
  · obtain ⟨p, l, rs, rfl, _⟩ := h
    rfl
  · obtain ⟨p, l, rs, rfl, S, k⟩ := h
    obtain ⟨⟨dx, hp⟩, ⟨vs, hl, hr3⟩, sd⟩ := id S
    refine ⟨_, by exact (pss_one (ps_ret (pe_bcall call_len_seq rfl T.len PySem.boot_len (pa_c (pe_fld (pv 0) rfl) pa_nil)))), ?_⟩
    refine ⟨_, rfl, p, C, dx, _, _, rfl, hp, T.cl, T.nR, rfl, l, vs, rfl, .inl (SqL.of hl), ?_⟩
    rw [hr3.len]
    exact k
end
end K08

set_option Elab.async false
set_option linter.all false
set_option maxRecDepth 100000
set_option maxHeartbeats 4000000
set_option pp.maxSteps 600
set_option pp.deepTerms false
local macro_rules | `(tactic| walk_at "m") => `(tactic| first | decide | (show (0 : Int) < _; decide) | (show L2.CDiv _ _; exact ⟨by decide, by decide⟩) | omega)
namespace K08
open PySem L2 PyProof.Rows
theorem boot_VE : bootBuiltins "ValueError" = some (.type "ValueError") := by kernel_rfl
def words : List Str := ["term", "busy", "gone", "alarm", "name", "number", "needs", "plan", "twice", "job", "ring", "line", "book", "shot", "event", "step", "state", "turn", "builders"]
def word (i : Nat) : Str := words.getD i ""
/-- the classes of refusals, and what isinstance tells of one -/
structure EX (K : PySem.W.Frag) (mg : Str → Option Value) (D : Nat → Addr) (R : Nat → Prop) : Prop where
  c0 : ECls0 K
  ec : ∀ r, R r → ECls K (D r)
  kit : ∀ r i, R r → i < 19 → PySem.W.kitOne K (.ref (D r)) (.ref (D i)) = some (decide (i = r))
  ve : ∀ r, R r → PySem.W.kitOne K (.ref (D r)) (.type "ValueError") = some true
  noVE : mg "ValueError" = none
  g0 : mg "BadTerm" = some (.ref (D 0))
  g1 : mg "Busy" = some (.ref (D 1))
  g2 : mg "Gone" = some (.ref (D 2))
  g3 : mg "NoAlarm" = some (.ref (D 3))
  g4 : mg "BadName" = some (.ref (D 4))
  g5 : mg "BadNumber" = some (.ref (D 5))
  g6 : mg "BadNeeds" = some (.ref (D 6))
  g7 : mg "BadPlan" = some (.ref (D 7))
  g8 : mg "Twice" = some (.ref (D 8))
  g9 : mg "NoJob" = some (.ref (D 9))
  g10 : mg "Ring" = some (.ref (D 10))
  g11 : mg "BadLine" = some (.ref (D 11))
  g12 : mg "BadBook" = some (.ref (D 12))
  g13 : mg "BadShot" = some (.ref (D 13))
  g14 : mg "BadEvent" = some (.ref (D 14))
  g15 : mg "BadStep" = some (.ref (D 15))
  g16 : mg "BadState" = some (.ref (D 16))
  g17 : mg "BadTurn" = some (.ref (D 17))
  g18 : mg "BadBuilders" = some (.ref (D 18))
def pr (r i : Nat) : List V := [.str (word i), .bl (decide (i = r))]
structure PairsAt (r : Nat) (H : Hp) (ts : List Addr) : Prop where
  at_ : ∀ (i : Nat) (T : Addr), ts[i]? = some T → H T = some (.tup (pr r i))
theorem PairsAt.same {r : Nat} {H H' : Hp} {ts : List Addr} (h : PairsAt r H ts) (s : Same H H') : PairsAt r H' ts := ⟨fun i T e => s _ _ (h.at_ i T e)⟩
theorem PairsAt.snoc {r : Nat} {H : Hp} {ts : List Addr} {T : Addr} (h : PairsAt r H ts) (e : H T = some (.tup (pr r ts.length))) : PairsAt r H (ts ++ [T]) := ⟨fun i U hi => by
  by_cases hl : i < ts.length
  · rw [List.getElem?_append_left hl] at hi
    exact h.at_ i U hi
  · have hlt := (List.getElem?_eq_some_iff.mp hi).1
    rw [List.length_append] at hlt
    have e2 : i = ts.length := by simp at hlt; omega
    subst e2
    simp at hi
    subst hi
    exact e⟩
/-- what of the first i pairs is so -/
def fnd (r i : Nat) : List V := ((List.range i).filter fun j => decide (j = r)).map fun j => .str (word j)
theorem fnd_succ (r i : Nat) : fnd r (i + 1) = if decide (i = r) = true then fnd r i ++ [.str (word i)] else fnd r i := by
  unfold fnd
  rw [List.range_succ, List.filter_append, List.map_append]
  by_cases h : i = r
  · rw [if_pos (decide_eq_true h)]
    simp [h]
  · rw [if_neg (by simp [h])]
    simp [h]
theorem fnd_len (r i : Nat) : (fnd r i).length ≤ i := by
  unfold fnd
  rw [List.length_map]
  exact Nat.le_trans (List.length_filter_le _ _) (by simp)
theorem fnd_one : ∀ r : Fin 19, fnd r.val 19 = [.str (word r.val)] := by decide +kernel
section
variable {P : Program} {w : World} {K : PySem.W.Frag} {mg : Str → Option Value} {base : Heap} {D : Nat → Addr}
def spWord (D : Nat → Addr) (R : Nat → Prop) : Sp := fun vs H Q _ => ∃ (a : Addr) (r : Nat), vs = [.ref a] ∧ r < 19 ∧ R r ∧ H a = some (ExcO a (D r)) ∧ ∀ H', Same H H' → Q (.str (word r)) H'
theorem ok_word (Df : Def K mg "_law_word" s__law_word ["_law_e"]) (B : Bltn mg) {R : Nat → Prop} (X : EX K mg D R) : KnowsQ P w K mg base 1 "_law_word" ["_law_e"] (spWord D R) := by
  refine Df.okQ sc__law_word (fun vs H Q E h => ?_) (fun f cdv A outer s H vs Q E hr hq h => ?_)
  · obtain ⟨a, r, rfl, _⟩ := h
    rfl
  · obtain ⟨a, r, rfl, hr19, hR, ea, q⟩ := h
    have hu := hr.units0
    have ec := X.ec r hR
    refine ⟨_, by exact (pss_cons (ps_set (i := 1) sc__law_word.nd rfl (Or.inl rfl) (pe_lst (pa_c (pe_tup (pa_c pe_str (pa_c (pe_bcall (call_isiE (D := .ref (D 0)) (vD := .ref (D 0)) (fun u h => h) X.c0) rfl B.isi boot_isinstance (pa_c (pv 0) (pa_c (pe_glob (v := .ref (D 0)) rfl X.g0 rfl) pa_nil))) pa_nil))) (pa_c (pe_tup (pa_c pe_str (pa_c (pe_bcall (call_isiE (D := .ref (D 1)) (vD := .ref (D 1)) (fun u h => h) X.c0) rfl B.isi boot_isinstance (pa_c (pv 0) (pa_c (pe_glob (v := .ref (D 1)) rfl X.g1 rfl) pa_nil))) pa_nil))) (pa_c (pe_tup (pa_c pe_str (pa_c (pe_bcall (call_isiE (D := .ref (D 2)) (vD := .ref (D 2)) (fun u h => h) X.c0) rfl B.isi boot_isinstance (pa_c (pv 0) (pa_c (pe_glob (v := .ref (D 2)) rfl X.g2 rfl) pa_nil))) pa_nil))) pa_nil)))))
      (pss_cons (ps_set (i := 1) sc__law_word.nd rfl (Or.inl rfl) (pe_op op_cat (pv 1) (pe_lst (pa_c (pe_tup (pa_c pe_str (pa_c (pe_bcall (call_isiE (D := .ref (D 3)) (vD := .ref (D 3)) (fun u h => h) X.c0) rfl B.isi boot_isinstance (pa_c (pv 0) (pa_c (pe_glob (v := .ref (D 3)) rfl X.g3 rfl) pa_nil))) pa_nil))) (pa_c (pe_tup (pa_c pe_str (pa_c (pe_bcall (call_isiE (D := .ref (D 4)) (vD := .ref (D 4)) (fun u h => h) X.c0) rfl B.isi boot_isinstance (pa_c (pv 0) (pa_c (pe_glob (v := .ref (D 4)) rfl X.g4 rfl) pa_nil))) pa_nil))) pa_nil)))))
      (pss_cons (ps_set (i := 1) sc__law_word.nd rfl (Or.inl rfl) (pe_op op_cat (pv 1) (pe_lst (pa_c (pe_tup (pa_c pe_str (pa_c (pe_bcall (call_isiE (D := .ref (D 5)) (vD := .ref (D 5)) (fun u h => h) X.c0) rfl B.isi boot_isinstance (pa_c (pv 0) (pa_c (pe_glob (v := .ref (D 5)) rfl X.g5 rfl) pa_nil))) pa_nil))) (pa_c (pe_tup (pa_c pe_str (pa_c (pe_bcall (call_isiE (D := .ref (D 6)) (vD := .ref (D 6)) (fun u h => h) X.c0) rfl B.isi boot_isinstance (pa_c (pv 0) (pa_c (pe_glob (v := .ref (D 6)) rfl X.g6 rfl) pa_nil))) pa_nil))) pa_nil)))))
      (pss_cons (ps_set (i := 1) sc__law_word.nd rfl (Or.inl rfl) (pe_op op_cat (pv 1) (pe_lst (pa_c (pe_tup (pa_c pe_str (pa_c (pe_bcall (call_isiE (D := .ref (D 7)) (vD := .ref (D 7)) (fun u h => h) X.c0) rfl B.isi boot_isinstance (pa_c (pv 0) (pa_c (pe_glob (v := .ref (D 7)) rfl X.g7 rfl) pa_nil))) pa_nil))) (pa_c (pe_tup (pa_c pe_str (pa_c (pe_bcall (call_isiE (D := .ref (D 8)) (vD := .ref (D 8)) (fun u h => h) X.c0) rfl B.isi boot_isinstance (pa_c (pv 0) (pa_c (pe_glob (v := .ref (D 8)) rfl X.g8 rfl) pa_nil))) pa_nil))) (pa_c (pe_tup (pa_c pe_str (pa_c (pe_bcall (call_isiE (D := .ref (D 9)) (vD := .ref (D 9)) (fun u h => h) X.c0) rfl B.isi boot_isinstance (pa_c (pv 0) (pa_c (pe_glob (v := .ref (D 9)) rfl X.g9 rfl) pa_nil))) pa_nil))) pa_nil))))))
      (pss_cons (ps_set (i := 1) sc__law_word.nd rfl (Or.inl rfl) (pe_op op_cat (pv 1) (pe_lst (pa_c (pe_tup (pa_c pe_str (pa_c (pe_bcall (call_isiE (D := .ref (D 10)) (vD := .ref (D 10)) (fun u h => h) X.c0) rfl B.isi boot_isinstance (pa_c (pv 0) (pa_c (pe_glob (v := .ref (D 10)) rfl X.g10 rfl) pa_nil))) pa_nil))) (pa_c (pe_tup (pa_c pe_str (pa_c (pe_bcall (call_isiE (D := .ref (D 11)) (vD := .ref (D 11)) (fun u h => h) X.c0) rfl B.isi boot_isinstance (pa_c (pv 0) (pa_c (pe_glob (v := .ref (D 11)) rfl X.g11 rfl) pa_nil))) pa_nil))) (pa_c (pe_tup (pa_c pe_str (pa_c (pe_bcall (call_isiE (D := .ref (D 12)) (vD := .ref (D 12)) (fun u h => h) X.c0) rfl B.isi boot_isinstance (pa_c (pv 0) (pa_c (pe_glob (v := .ref (D 12)) rfl X.g12 rfl) pa_nil))) pa_nil))) pa_nil))))))
      (pss_cons (ps_set (i := 1) sc__law_word.nd rfl (Or.inl rfl) (pe_op op_cat (pv 1) (pe_lst (pa_c (pe_tup (pa_c pe_str (pa_c (pe_bcall (call_isiE (D := .ref (D 13)) (vD := .ref (D 13)) (fun u h => h) X.c0) rfl B.isi boot_isinstance (pa_c (pv 0) (pa_c (pe_glob (v := .ref (D 13)) rfl X.g13 rfl) pa_nil))) pa_nil))) (pa_c (pe_tup (pa_c pe_str (pa_c (pe_bcall (call_isiE (D := .ref (D 14)) (vD := .ref (D 14)) (fun u h => h) X.c0) rfl B.isi boot_isinstance (pa_c (pv 0) (pa_c (pe_glob (v := .ref (D 14)) rfl X.g14 rfl) pa_nil))) pa_nil))) pa_nil)))))
      (pss_cons (ps_set (i := 1) sc__law_word.nd rfl (Or.inl rfl) (pe_op op_cat (pv 1) (pe_lst (pa_c (pe_tup (pa_c pe_str (pa_c (pe_bcall (call_isiE (D := .ref (D 15)) (vD := .ref (D 15)) (fun u h => h) X.c0) rfl B.isi boot_isinstance (pa_c (pv 0) (pa_c (pe_glob (v := .ref (D 15)) rfl X.g15 rfl) pa_nil))) pa_nil))) (pa_c (pe_tup (pa_c pe_str (pa_c (pe_bcall (call_isiE (D := .ref (D 16)) (vD := .ref (D 16)) (fun u h => h) X.c0) rfl B.isi boot_isinstance (pa_c (pv 0) (pa_c (pe_glob (v := .ref (D 16)) rfl X.g16 rfl) pa_nil))) pa_nil))) pa_nil)))))
      (pss_cons (ps_set (i := 1) sc__law_word.nd rfl (Or.inl rfl) (pe_op op_cat (pv 1) (pe_lst (pa_c (pe_tup (pa_c pe_str (pa_c (pe_bcall (call_isiE (D := .ref (D 17)) (vD := .ref (D 17)) (fun u h => h) X.c0) rfl B.isi boot_isinstance (pa_c (pv 0) (pa_c (pe_glob (v := .ref (D 17)) rfl X.g17 rfl) pa_nil))) pa_nil))) (pa_c (pe_tup (pa_c pe_str (pa_c (pe_bcall (call_isiE (D := .ref (D 18)) (vD := .ref (D 18)) (fun u h => h) X.c0) rfl B.isi boot_isinstance (pa_c (pv 0) (pa_c (pe_glob (v := .ref (D 18)) rfl X.g18 rfl) pa_nil))) pa_nil))) pa_nil)))))
      (pss_cons (ps_setC2Q (i := 2) [] ["_law_word_here", "_law_good"] sc__law_word.nd rfl (Or.inl rfl) (pi_listQ (pv 1)) (fun _ _ _ _ => pts_one (pt_val (pv 1))) (fun _ _ _ _ => (pv 0)))
      (pss_one (ps_ret (pe_ifExp (PW.pt (pw_and (pt_cmpR op_eq (pe_bcall call_len_seq rfl B.len PySem.boot_len (pa_c (pv 2) pa_nil)) pe_int (nomark _)) (pw_and1 (pt_val (pe_bcall (call_isiE (D := .type "ValueError") (vD := .ty "ValueError") (fun u h => h) X.c0) rfl B.isi boot_isinstance (pa_c (pv 0) (pa_c (pe_bltn (v := .ty "ValueError") rfl X.noVE boot_VE rfl (by decide) (by decide)) pa_nil))))))) (pe_ix ix_list (pv 2) pe_int (fun _ _ => rfl)) pe_str)))))))))))), ?_⟩
    have sH : Same H H := Same.refl H
    have eaH := ea
    have pH : PairsAt r H [] := ⟨fun i T e => by simp at e⟩
    refine seq_use (fun v H' => ∃ (l : Addr) (ts : List Addr), v = .ref l ∧ H' l = some (.lst (ts.map V.ref)) ∧ ts.length = 3 ∧ PairsAt r H' ts ∧ Same H H' ∧ H l = none) (fun Q' kk => ?_) ?_
    · skip
      refine ⟨_, rfl, a, _, _, rfl, eaH, ec, X.kit r 0 hR (by decide), by show 2 ≤ sizeLine; decide, fun T0 h0 => ?_⟩
      have z0 : Same H (upd H T0 (.tup [.str "term", .bl (decide (0 = r))])) := same_of h0
      have y0 : (upd H T0 (.tup [.str "term", .bl (decide (0 = r))])) T0 = some (.tup (pr r 0)) := upd_same
      generalize upd H T0 (.tup [.str "term", .bl (decide (0 = r))]) = L0 at z0 y0
      have sL0 := sH.trans z0
      have eaL0 := z0 _ _ eaH
      have pL0 := (pH.same z0).snoc (T := T0) (by exact y0)
      refine ⟨_, rfl, a, _, _, rfl, eaL0, ec, X.kit r 1 hR (by decide), by show 2 ≤ sizeLine; decide, fun T1 h1 => ?_⟩
      have z1 : Same L0 (upd L0 T1 (.tup [.str "busy", .bl (decide (1 = r))])) := same_of h1
      have y1 : (upd L0 T1 (.tup [.str "busy", .bl (decide (1 = r))])) T1 = some (.tup (pr r 1)) := upd_same
      generalize upd L0 T1 (.tup [.str "busy", .bl (decide (1 = r))]) = L1 at z1 y1
      have sL1 := sL0.trans z1
      have eaL1 := z1 _ _ eaL0
      have pL1 := (pL0.same z1).snoc (T := T1) (by exact y1)
      refine ⟨_, rfl, a, _, _, rfl, eaL1, ec, X.kit r 2 hR (by decide), by show 2 ≤ sizeLine; decide, fun T2 h2 => ?_⟩
      have z2 : Same L1 (upd L1 T2 (.tup [.str "gone", .bl (decide (2 = r))])) := same_of h2
      have y2 : (upd L1 T2 (.tup [.str "gone", .bl (decide (2 = r))])) T2 = some (.tup (pr r 2)) := upd_same
      generalize upd L1 T2 (.tup [.str "gone", .bl (decide (2 = r))]) = L2 at z2 y2
      have sL2 := sL1.trans z2
      have eaL2 := z2 _ _ eaL1
      have pL2 := (pL1.same z2).snoc (T := T2) (by exact y2)
      refine ⟨by show 3 ≤ sizeLine; decide, fun lb hlb => ?_⟩
      exact kk _ _ ⟨lb, [] ++ [T0] ++ [T1] ++ [T2], rfl, upd_same, rfl, pL2.same (same_of hlb), sL2.trans (same_of hlb), sL2.free hlb⟩
    rintro _ G1 ⟨l1, ts1, rfl, lG1, n1, pG1, sG1, new1⟩
    have eaG1 := sG1 _ _ ea
    refine seq_use (fun v H' => ∃ (l : Addr) (ts : List Addr), v = .ref l ∧ H' l = some (.lst (ts.map V.ref)) ∧ ts.length = 5 ∧ PairsAt r H' ts ∧ Same H H' ∧ H l = none) (fun Q' kk => ?_) ?_
    · refine ⟨_, rfl, ?_⟩
      refine ⟨_, rfl, a, _, _, rfl, eaG1, ec, X.kit r 3 hR (by decide), by show 2 ≤ sizeLine; decide, fun T3 h3 => ?_⟩
      have z3 : Same G1 (upd G1 T3 (.tup [.str "alarm", .bl (decide (3 = r))])) := same_of h3
      have y3 : (upd G1 T3 (.tup [.str "alarm", .bl (decide (3 = r))])) T3 = some (.tup (pr r 3)) := upd_same
      generalize upd G1 T3 (.tup [.str "alarm", .bl (decide (3 = r))]) = L3 at z3 y3
      have sL3 := sG1.trans z3
      have eaL3 := z3 _ _ eaG1
      have pL3 := (pG1.same z3).snoc (T := T3) (by rw [show (ts1).length = 3 from by simp [n1]]; exact y3)
      have lL3 := z3 _ _ lG1
      refine ⟨_, rfl, a, _, _, rfl, eaL3, ec, X.kit r 4 hR (by decide), by show 2 ≤ sizeLine; decide, fun T4 h4 => ?_⟩
      have z4 : Same L3 (upd L3 T4 (.tup [.str "name", .bl (decide (4 = r))])) := same_of h4
      have y4 : (upd L3 T4 (.tup [.str "name", .bl (decide (4 = r))])) T4 = some (.tup (pr r 4)) := upd_same
      generalize upd L3 T4 (.tup [.str "name", .bl (decide (4 = r))]) = L4 at z4 y4
      have sL4 := sL3.trans z4
      have eaL4 := z4 _ _ eaL3
      have pL4 := (pL3.same z4).snoc (T := T4) (by rw [show (ts1 ++ [T3]).length = 4 from by simp [n1]]; exact y4)
      have lL4 := z4 _ _ lL3
      refine ⟨by show 2 ≤ sizeLine; decide, fun lb hlb => ?_⟩
      have zb : Same L4 (upd L4 lb (.lst [.ref T3, .ref T4])) := same_of hlb
      refine ⟨l1, lb, _, _, rfl, rfl, zb _ _ lL4, upd_same, ?_, fun lc hlc => ?_⟩
      · rw [List.length_map, n1]
        show 5 ≤ sizeLine
        decide
      · refine kk _ _ ⟨lc, ts1 ++ [T3] ++ [T4], rfl, ?_, by simp [n1], (pL4.same zb).same (same_of hlc), (sL4.trans zb).trans (same_of hlc), (sL4.trans zb).free hlc⟩
        rw [upd_same]
        simp
    rintro _ G2 ⟨l2, ts2, rfl, lG2, n2, pG2, sG2, new2⟩
    have eaG2 := sG2 _ _ ea
    refine seq_use (fun v H' => ∃ (l : Addr) (ts : List Addr), v = .ref l ∧ H' l = some (.lst (ts.map V.ref)) ∧ ts.length = 7 ∧ PairsAt r H' ts ∧ Same H H' ∧ H l = none) (fun Q' kk => ?_) ?_
    · refine ⟨_, rfl, ?_⟩
      refine ⟨_, rfl, a, _, _, rfl, eaG2, ec, X.kit r 5 hR (by decide), by show 2 ≤ sizeLine; decide, fun T5 h5 => ?_⟩
      have z5 : Same G2 (upd G2 T5 (.tup [.str "number", .bl (decide (5 = r))])) := same_of h5
      have y5 : (upd G2 T5 (.tup [.str "number", .bl (decide (5 = r))])) T5 = some (.tup (pr r 5)) := upd_same
      generalize upd G2 T5 (.tup [.str "number", .bl (decide (5 = r))]) = L5 at z5 y5
      have sL5 := sG2.trans z5
      have eaL5 := z5 _ _ eaG2
      have pL5 := (pG2.same z5).snoc (T := T5) (by rw [show (ts2).length = 5 from by simp [n2]]; exact y5)
      have lL5 := z5 _ _ lG2
      refine ⟨_, rfl, a, _, _, rfl, eaL5, ec, X.kit r 6 hR (by decide), by show 2 ≤ sizeLine; decide, fun T6 h6 => ?_⟩
      have z6 : Same L5 (upd L5 T6 (.tup [.str "needs", .bl (decide (6 = r))])) := same_of h6
      have y6 : (upd L5 T6 (.tup [.str "needs", .bl (decide (6 = r))])) T6 = some (.tup (pr r 6)) := upd_same
      generalize upd L5 T6 (.tup [.str "needs", .bl (decide (6 = r))]) = L6 at z6 y6
      have sL6 := sL5.trans z6
      have eaL6 := z6 _ _ eaL5
      have pL6 := (pL5.same z6).snoc (T := T6) (by rw [show (ts2 ++ [T5]).length = 6 from by simp [n2]]; exact y6)
      have lL6 := z6 _ _ lL5
      refine ⟨by show 2 ≤ sizeLine; decide, fun lb hlb => ?_⟩
      have zb : Same L6 (upd L6 lb (.lst [.ref T5, .ref T6])) := same_of hlb
      refine ⟨l2, lb, _, _, rfl, rfl, zb _ _ lL6, upd_same, ?_, fun lc hlc => ?_⟩
      · rw [List.length_map, n2]
        show 7 ≤ sizeLine
        decide
      · refine kk _ _ ⟨lc, ts2 ++ [T5] ++ [T6], rfl, ?_, by simp [n2], (pL6.same zb).same (same_of hlc), (sL6.trans zb).trans (same_of hlc), (sL6.trans zb).free hlc⟩
        rw [upd_same]
        simp
    rintro _ G3 ⟨l3, ts3, rfl, lG3, n3, pG3, sG3, new3⟩
    have eaG3 := sG3 _ _ ea
    refine seq_use (fun v H' => ∃ (l : Addr) (ts : List Addr), v = .ref l ∧ H' l = some (.lst (ts.map V.ref)) ∧ ts.length = 10 ∧ PairsAt r H' ts ∧ Same H H' ∧ H l = none) (fun Q' kk => ?_) ?_
    · refine ⟨_, rfl, ?_⟩
      refine ⟨_, rfl, a, _, _, rfl, eaG3, ec, X.kit r 7 hR (by decide), by show 2 ≤ sizeLine; decide, fun T7 h7 => ?_⟩
      have z7 : Same G3 (upd G3 T7 (.tup [.str "plan", .bl (decide (7 = r))])) := same_of h7
      have y7 : (upd G3 T7 (.tup [.str "plan", .bl (decide (7 = r))])) T7 = some (.tup (pr r 7)) := upd_same
      generalize upd G3 T7 (.tup [.str "plan", .bl (decide (7 = r))]) = L7 at z7 y7
      have sL7 := sG3.trans z7
      have eaL7 := z7 _ _ eaG3
      have pL7 := (pG3.same z7).snoc (T := T7) (by rw [show (ts3).length = 7 from by simp [n3]]; exact y7)
      have lL7 := z7 _ _ lG3
      refine ⟨_, rfl, a, _, _, rfl, eaL7, ec, X.kit r 8 hR (by decide), by show 2 ≤ sizeLine; decide, fun T8 h8 => ?_⟩
      have z8 : Same L7 (upd L7 T8 (.tup [.str "twice", .bl (decide (8 = r))])) := same_of h8
      have y8 : (upd L7 T8 (.tup [.str "twice", .bl (decide (8 = r))])) T8 = some (.tup (pr r 8)) := upd_same
      generalize upd L7 T8 (.tup [.str "twice", .bl (decide (8 = r))]) = L8 at z8 y8
      have sL8 := sL7.trans z8
      have eaL8 := z8 _ _ eaL7
      have pL8 := (pL7.same z8).snoc (T := T8) (by rw [show (ts3 ++ [T7]).length = 8 from by simp [n3]]; exact y8)
      have lL8 := z8 _ _ lL7
      refine ⟨_, rfl, a, _, _, rfl, eaL8, ec, X.kit r 9 hR (by decide), by show 2 ≤ sizeLine; decide, fun T9 h9 => ?_⟩
      have z9 : Same L8 (upd L8 T9 (.tup [.str "job", .bl (decide (9 = r))])) := same_of h9
      have y9 : (upd L8 T9 (.tup [.str "job", .bl (decide (9 = r))])) T9 = some (.tup (pr r 9)) := upd_same
      generalize upd L8 T9 (.tup [.str "job", .bl (decide (9 = r))]) = L9 at z9 y9
      have sL9 := sL8.trans z9
      have eaL9 := z9 _ _ eaL8
      have pL9 := (pL8.same z9).snoc (T := T9) (by rw [show (ts3 ++ [T7] ++ [T8]).length = 9 from by simp [n3]]; exact y9)
      have lL9 := z9 _ _ lL8
      refine ⟨by show 3 ≤ sizeLine; decide, fun lb hlb => ?_⟩
      have zb : Same L9 (upd L9 lb (.lst [.ref T7, .ref T8, .ref T9])) := same_of hlb
      refine ⟨l3, lb, _, _, rfl, rfl, zb _ _ lL9, upd_same, ?_, fun lc hlc => ?_⟩
      · rw [List.length_map, n3]
        show 10 ≤ sizeLine
        decide
      · refine kk _ _ ⟨lc, ts3 ++ [T7] ++ [T8] ++ [T9], rfl, ?_, by simp [n3], (pL9.same zb).same (same_of hlc), (sL9.trans zb).trans (same_of hlc), (sL9.trans zb).free hlc⟩
        rw [upd_same]
        simp
    rintro _ G4 ⟨l4, ts4, rfl, lG4, n4, pG4, sG4, new4⟩
    have eaG4 := sG4 _ _ ea
    refine seq_use (fun v H' => ∃ (l : Addr) (ts : List Addr), v = .ref l ∧ H' l = some (.lst (ts.map V.ref)) ∧ ts.length = 13 ∧ PairsAt r H' ts ∧ Same H H' ∧ H l = none) (fun Q' kk => ?_) ?_
    · refine ⟨_, rfl, ?_⟩
      refine ⟨_, rfl, a, _, _, rfl, eaG4, ec, X.kit r 10 hR (by decide), by show 2 ≤ sizeLine; decide, fun T10 h10 => ?_⟩
      have z10 : Same G4 (upd G4 T10 (.tup [.str "ring", .bl (decide (10 = r))])) := same_of h10
      have y10 : (upd G4 T10 (.tup [.str "ring", .bl (decide (10 = r))])) T10 = some (.tup (pr r 10)) := upd_same
      generalize upd G4 T10 (.tup [.str "ring", .bl (decide (10 = r))]) = L10 at z10 y10
      have sL10 := sG4.trans z10
      have eaL10 := z10 _ _ eaG4
      have pL10 := (pG4.same z10).snoc (T := T10) (by rw [show (ts4).length = 10 from by simp [n4]]; exact y10)
      have lL10 := z10 _ _ lG4
      refine ⟨_, rfl, a, _, _, rfl, eaL10, ec, X.kit r 11 hR (by decide), by show 2 ≤ sizeLine; decide, fun T11 h11 => ?_⟩
      have z11 : Same L10 (upd L10 T11 (.tup [.str "line", .bl (decide (11 = r))])) := same_of h11
      have y11 : (upd L10 T11 (.tup [.str "line", .bl (decide (11 = r))])) T11 = some (.tup (pr r 11)) := upd_same
      generalize upd L10 T11 (.tup [.str "line", .bl (decide (11 = r))]) = L11 at z11 y11
      have sL11 := sL10.trans z11
      have eaL11 := z11 _ _ eaL10
      have pL11 := (pL10.same z11).snoc (T := T11) (by rw [show (ts4 ++ [T10]).length = 11 from by simp [n4]]; exact y11)
      have lL11 := z11 _ _ lL10
      refine ⟨_, rfl, a, _, _, rfl, eaL11, ec, X.kit r 12 hR (by decide), by show 2 ≤ sizeLine; decide, fun T12 h12 => ?_⟩
      have z12 : Same L11 (upd L11 T12 (.tup [.str "book", .bl (decide (12 = r))])) := same_of h12
      have y12 : (upd L11 T12 (.tup [.str "book", .bl (decide (12 = r))])) T12 = some (.tup (pr r 12)) := upd_same
      generalize upd L11 T12 (.tup [.str "book", .bl (decide (12 = r))]) = L12 at z12 y12
      have sL12 := sL11.trans z12
      have eaL12 := z12 _ _ eaL11
      have pL12 := (pL11.same z12).snoc (T := T12) (by rw [show (ts4 ++ [T10] ++ [T11]).length = 12 from by simp [n4]]; exact y12)
      have lL12 := z12 _ _ lL11
      refine ⟨by show 3 ≤ sizeLine; decide, fun lb hlb => ?_⟩
      have zb : Same L12 (upd L12 lb (.lst [.ref T10, .ref T11, .ref T12])) := same_of hlb
      refine ⟨l4, lb, _, _, rfl, rfl, zb _ _ lL12, upd_same, ?_, fun lc hlc => ?_⟩
      · rw [List.length_map, n4]
        show 13 ≤ sizeLine
        decide
      · refine kk _ _ ⟨lc, ts4 ++ [T10] ++ [T11] ++ [T12], rfl, ?_, by simp [n4], (pL12.same zb).same (same_of hlc), (sL12.trans zb).trans (same_of hlc), (sL12.trans zb).free hlc⟩
        rw [upd_same]
        simp
    rintro _ G5 ⟨l5, ts5, rfl, lG5, n5, pG5, sG5, new5⟩
    have eaG5 := sG5 _ _ ea
    refine seq_use (fun v H' => ∃ (l : Addr) (ts : List Addr), v = .ref l ∧ H' l = some (.lst (ts.map V.ref)) ∧ ts.length = 15 ∧ PairsAt r H' ts ∧ Same H H' ∧ H l = none) (fun Q' kk => ?_) ?_
    · refine ⟨_, rfl, ?_⟩
      refine ⟨_, rfl, a, _, _, rfl, eaG5, ec, X.kit r 13 hR (by decide), by show 2 ≤ sizeLine; decide, fun T13 h13 => ?_⟩
      have z13 : Same G5 (upd G5 T13 (.tup [.str "shot", .bl (decide (13 = r))])) := same_of h13
      have y13 : (upd G5 T13 (.tup [.str "shot", .bl (decide (13 = r))])) T13 = some (.tup (pr r 13)) := upd_same
      generalize upd G5 T13 (.tup [.str "shot", .bl (decide (13 = r))]) = L13 at z13 y13
      have sL13 := sG5.trans z13
      have eaL13 := z13 _ _ eaG5
      have pL13 := (pG5.same z13).snoc (T := T13) (by rw [show (ts5).length = 13 from by simp [n5]]; exact y13)
      have lL13 := z13 _ _ lG5
      refine ⟨_, rfl, a, _, _, rfl, eaL13, ec, X.kit r 14 hR (by decide), by show 2 ≤ sizeLine; decide, fun T14 h14 => ?_⟩
      have z14 : Same L13 (upd L13 T14 (.tup [.str "event", .bl (decide (14 = r))])) := same_of h14
      have y14 : (upd L13 T14 (.tup [.str "event", .bl (decide (14 = r))])) T14 = some (.tup (pr r 14)) := upd_same
      generalize upd L13 T14 (.tup [.str "event", .bl (decide (14 = r))]) = L14 at z14 y14
      have sL14 := sL13.trans z14
      have eaL14 := z14 _ _ eaL13
      have pL14 := (pL13.same z14).snoc (T := T14) (by rw [show (ts5 ++ [T13]).length = 14 from by simp [n5]]; exact y14)
      have lL14 := z14 _ _ lL13
      refine ⟨by show 2 ≤ sizeLine; decide, fun lb hlb => ?_⟩
      have zb : Same L14 (upd L14 lb (.lst [.ref T13, .ref T14])) := same_of hlb
      refine ⟨l5, lb, _, _, rfl, rfl, zb _ _ lL14, upd_same, ?_, fun lc hlc => ?_⟩
      · rw [List.length_map, n5]
        show 15 ≤ sizeLine
        decide
      · refine kk _ _ ⟨lc, ts5 ++ [T13] ++ [T14], rfl, ?_, by simp [n5], (pL14.same zb).same (same_of hlc), (sL14.trans zb).trans (same_of hlc), (sL14.trans zb).free hlc⟩
        rw [upd_same]
        simp
    rintro _ G6 ⟨l6, ts6, rfl, lG6, n6, pG6, sG6, new6⟩
    have eaG6 := sG6 _ _ ea
    refine seq_use (fun v H' => ∃ (l : Addr) (ts : List Addr), v = .ref l ∧ H' l = some (.lst (ts.map V.ref)) ∧ ts.length = 17 ∧ PairsAt r H' ts ∧ Same H H' ∧ H l = none) (fun Q' kk => ?_) ?_
    · refine ⟨_, rfl, ?_⟩
      refine ⟨_, rfl, a, _, _, rfl, eaG6, ec, X.kit r 15 hR (by decide), by show 2 ≤ sizeLine; decide, fun T15 h15 => ?_⟩
      have z15 : Same G6 (upd G6 T15 (.tup [.str "step", .bl (decide (15 = r))])) := same_of h15
      have y15 : (upd G6 T15 (.tup [.str "step", .bl (decide (15 = r))])) T15 = some (.tup (pr r 15)) := upd_same
      generalize upd G6 T15 (.tup [.str "step", .bl (decide (15 = r))]) = L15 at z15 y15
      have sL15 := sG6.trans z15
      have eaL15 := z15 _ _ eaG6
      have pL15 := (pG6.same z15).snoc (T := T15) (by rw [show (ts6).length = 15 from by simp [n6]]; exact y15)
      have lL15 := z15 _ _ lG6
      refine ⟨_, rfl, a, _, _, rfl, eaL15, ec, X.kit r 16 hR (by decide), by show 2 ≤ sizeLine; decide, fun T16 h16 => ?_⟩
      have z16 : Same L15 (upd L15 T16 (.tup [.str "state", .bl (decide (16 = r))])) := same_of h16
      have y16 : (upd L15 T16 (.tup [.str "state", .bl (decide (16 = r))])) T16 = some (.tup (pr r 16)) := upd_same
      generalize upd L15 T16 (.tup [.str "state", .bl (decide (16 = r))]) = L16 at z16 y16
      have sL16 := sL15.trans z16
      have eaL16 := z16 _ _ eaL15
      have pL16 := (pL15.same z16).snoc (T := T16) (by rw [show (ts6 ++ [T15]).length = 16 from by simp [n6]]; exact y16)
      have lL16 := z16 _ _ lL15
      refine ⟨by show 2 ≤ sizeLine; decide, fun lb hlb => ?_⟩
      have zb : Same L16 (upd L16 lb (.lst [.ref T15, .ref T16])) := same_of hlb
      refine ⟨l6, lb, _, _, rfl, rfl, zb _ _ lL16, upd_same, ?_, fun lc hlc => ?_⟩
      · rw [List.length_map, n6]
        show 17 ≤ sizeLine
        decide
      · refine kk _ _ ⟨lc, ts6 ++ [T15] ++ [T16], rfl, ?_, by simp [n6], (pL16.same zb).same (same_of hlc), (sL16.trans zb).trans (same_of hlc), (sL16.trans zb).free hlc⟩
        rw [upd_same]
        simp
    rintro _ G7 ⟨l7, ts7, rfl, lG7, n7, pG7, sG7, new7⟩
    have eaG7 := sG7 _ _ ea
    refine seq_use (fun v H' => ∃ (l : Addr) (ts : List Addr), v = .ref l ∧ H' l = some (.lst (ts.map V.ref)) ∧ ts.length = 19 ∧ PairsAt r H' ts ∧ Same H H' ∧ H l = none) (fun Q' kk => ?_) ?_
    · refine ⟨_, rfl, ?_⟩
      refine ⟨_, rfl, a, _, _, rfl, eaG7, ec, X.kit r 17 hR (by decide), by show 2 ≤ sizeLine; decide, fun T17 h17 => ?_⟩
      have z17 : Same G7 (upd G7 T17 (.tup [.str "turn", .bl (decide (17 = r))])) := same_of h17
      have y17 : (upd G7 T17 (.tup [.str "turn", .bl (decide (17 = r))])) T17 = some (.tup (pr r 17)) := upd_same
      generalize upd G7 T17 (.tup [.str "turn", .bl (decide (17 = r))]) = L17 at z17 y17
      have sL17 := sG7.trans z17
      have eaL17 := z17 _ _ eaG7
      have pL17 := (pG7.same z17).snoc (T := T17) (by rw [show (ts7).length = 17 from by simp [n7]]; exact y17)
      have lL17 := z17 _ _ lG7
      refine ⟨_, rfl, a, _, _, rfl, eaL17, ec, X.kit r 18 hR (by decide), by show 2 ≤ sizeLine; decide, fun T18 h18 => ?_⟩
      have z18 : Same L17 (upd L17 T18 (.tup [.str "builders", .bl (decide (18 = r))])) := same_of h18
      have y18 : (upd L17 T18 (.tup [.str "builders", .bl (decide (18 = r))])) T18 = some (.tup (pr r 18)) := upd_same
      generalize upd L17 T18 (.tup [.str "builders", .bl (decide (18 = r))]) = L18 at z18 y18
      have sL18 := sL17.trans z18
      have eaL18 := z18 _ _ eaL17
      have pL18 := (pL17.same z18).snoc (T := T18) (by rw [show (ts7 ++ [T17]).length = 18 from by simp [n7]]; exact y18)
      have lL18 := z18 _ _ lL17
      refine ⟨by show 2 ≤ sizeLine; decide, fun lb hlb => ?_⟩
      have zb : Same L18 (upd L18 lb (.lst [.ref T17, .ref T18])) := same_of hlb
      refine ⟨l7, lb, _, _, rfl, rfl, zb _ _ lL18, upd_same, ?_, fun lc hlc => ?_⟩
      · rw [List.length_map, n7]
        show 19 ≤ sizeLine
        decide
      · refine kk _ _ ⟨lc, ts7 ++ [T17] ++ [T18], rfl, ?_, by simp [n7], (pL18.same zb).same (same_of hlc), (sL18.trans zb).trans (same_of hlc), (sL18.trans zb).free hlc⟩
        rw [upd_same]
        simp
    rintro _ G8 ⟨l8, ts8, rfl, lG8, n8, pG8, sG8, new8⟩
    have eaG8 := sG8 _ _ ea
    have n19 : ts8.length = 19 := n8
    have l1 := lG8
    have p1 := pG8
    have e1 := eaG8
    have s1 := sG8
    generalize ts8 = us at l1 p1 n19
    generalize G8 = F1 at l1 p1 e1 s1
    dsimp only
    refine seq_use (fun v H' => ∃ g, v = .ref g ∧ H' g = some (.lst (fnd r 19)) ∧ Same F1 H') (fun Q' kk => ?_) ?_
    · refine ⟨_, rfl, l8, rfl, ⟨_, SqL.of l1⟩, ?_⟩
      have hqF : HQ _ F1 := hq.same s1
      refine comp2_listQ (xs := us.map V.ref) (fun i ys H' => H' = F1 ∧ ys = fnd r i) ⟨rfl, rfl⟩ (fun i ys H' _ h => ⟨by rw [h.1]; exact SqL.of l1, by rw [h.1]; exact hqF, by rw [h.2]; exact fnd_len r i⟩) (by rw [List.length_map, n19]; decide) (fun i x ys H' Nx hx hv kn => ?_) ?_
      · obtain ⟨rfl, rfl⟩ := hv
        rw [List.getElem?_map] at hx
        obtain ⟨T, hT, rfl⟩ := Option.map_eq_some_iff.mp hx
        refine ⟨T, _, _, rfl, SqT.of (p1.at_ i T hT), ?_⟩
        have fs := fnd_succ r i
        refine ⟨_, rfl, _, rfl, ite2 (fun hb => ?_) (fun hb => ?_)⟩
        · rw [if_pos hb] at fs
          exact ⟨_, rfl, kn _ _ ⟨rfl, fs.symm⟩⟩
        · rw [if_neg hb] at fs
          exact kn _ _ ⟨rfl, fs.symm⟩
      · rintro ys H' ⟨rfl, rfl⟩ g hg
        rw [List.length_map, n19]
        exact kk _ _ ⟨g, rfl, upd_same, same_of hg⟩
    rintro _ F2 ⟨g, rfl, g2, s2⟩
    have f1 := fnd_one ⟨r, hr19⟩
    have f2 : (fnd r 19).length = 1 := by rw [f1]; rfl
    rw [f1] at g2
    refine ⟨_, rfl, g, _, rfl, .inl (SqL.of g2), rfl, _, rfl, iteT ?_⟩
    refine ⟨_, rfl, a, _, _, rfl, s2 _ _ e1, ec, X.ve r hR, _, rfl, iteT ?_⟩
    exact ⟨_, rfl, g, _, _, _, rfl, rfl, SqL.of g2, atI_nat (j := 0) rfl, q _ (s1.trans s2)⟩
end
end K08

set_option Elab.async false
set_option linter.all false
set_option maxRecDepth 100000
set_option maxHeartbeats 4000000
set_option pp.maxSteps 600
set_option pp.deepTerms false
namespace K08
open PySem L2 PyProof.Rows
section
variable {P : Program} {w : World} {K : PySem.W.Frag} {mg : Str → Option Value} {base : Heap} {C CN : Addr}
abbrev Sm (c : Int) : Prop := Builtin.Int.intBits c ≤ 1048576
theorem sm0 : Sm 0 := by decide
def spCell (K : PySem.W.Frag) : Sp := fun vs H Q _ => ∃ (a : Addr) (ns : List Int) (k : Nat), vs = [.ref a, .int k] ∧ SqL K H a (ns.map V.int) ∧ (∀ v ∈ ns, Sm v) ∧ ∀ c, Sm c → Q (.int c) H
theorem ok_cell (D : Def K mg "_law_cell_at" s__law_cell_at ["_law_script", "_law_k"]) (T : Txt K mg C CN) : Knows P w K mg base 1 "_law_cell_at" ["_law_script", "_law_k"] (spCell K) := by
  refine D.ok sc__law_cell_at (fun vs H Q E h => ?_) (fun f cdv A outer s H vs Q E hr h => ?_)
  · obtain ⟨a, ns, k, rfl, _⟩ := h
    rfl
  · obtain ⟨a, ns, k, rfl, hS, hsm, q⟩ := h
    refine ⟨_, by exact (pss_cons (ps_if (pt_cmpR op_lt (pv 1) (pe_bcall call_len_seq rfl T.len PySem.boot_len (pa_c (pv 0) pa_nil)) (nomark _)) (pss_one (ps_ret (pe_ix ix_list (pv 0) (pv 1) (fun _ _ => rfl)))) pss_nil)
      (pss_one (ps_ret pe_int))), ?_⟩
    refine ⟨_, rfl, _, rfl, a, _, rfl, .inl hS, _, _, rfl, rfl, _, rfl, ?_⟩
    refine ite2 (fun hlt => ?_) (fun _ => ?_)
    · have h1 : (k : Int) < (ns.map V.int).length := of_decide_eq_true hlt
      obtain ⟨v, hv, hmem, _⟩ := atI_mem (xs := ns.map V.int) (Int.natCast_nonneg k) h1
      obtain ⟨c, hc, rfl⟩ := List.mem_map.mp hmem
      exact ⟨_, rfl, _, rfl, a, _, _, _, rfl, rfl, hS, hv, q c (hsm c hc)⟩
    · exact q 0 sm0
def spMixed : Sp := fun vs H Q _ => ∃ (c : Int) (k : Nat), vs = [.int c, .int k] ∧ Sm c ∧ k ≤ 1000 ∧ ∀ m, Q (.int m) H
theorem ok_mixed (D : Def K mg "_law_mixed" s__law_mixed ["_law_cell", "_law_k"]) : Knows P w K mg base 1 "_law_mixed" ["_law_cell", "_law_k"] spMixed := by
  refine D.ok sc__law_mixed (fun vs H Q E h => ?_) (fun f cdv A outer s H vs Q E hr h => ?_)
  · obtain ⟨c, k, rfl, _⟩ := h
    rfl
  · obtain ⟨c, k, rfl, hsm, hk, q⟩ := h
    refine ⟨_, by exact (pss_one (ps_ret (pe_op op_mod (pe_op op_mul (pe_op op_powS (pe_op op_add (pe_op op_add (pv 0) (pe_op op_mul pe_int (pv 1))) pe_int) pe_int) pe_int) pe_int))), ?_⟩
    have hb1 : Builtin.Int.intBits (7919 * (k : Int)) ≤ 64 := intBits_le_64 (by omega) (by omega)
    have hb2 : Builtin.Int.intBits (c + 7919 * (k : Int)) ≤ 1048577 := Nat.le_trans (intBits_add_le hsm hb1) (by decide)
    have hb3 : Builtin.Int.intBits (c + 7919 * (k : Int) + 1) ≤ 1048578 := Nat.le_trans (intBits_add_le hb2 (show Builtin.Int.intBits 1 ≤ 1 by decide)) (by decide)
    refine ⟨_, rfl, _, rfl, _, _, rfl, rfl, .inl ⟨by walk_at "m", by walk_at "m"⟩, _, _, rfl, rfl, _, _, rfl, rfl, _, _, rfl, rfl, ⟨by decide, ?_⟩, _, _, rfl, rfl, .inr ⟨by walk_at "m", by walk_at "m"⟩, _, _, rfl, rfl, (by walk_at "m"), q _⟩
    show (Builtin.Int.intBits (c + 7919 * (k : Int) + 1) : Int) * 3 ≤ 2 ^ 27
    omega
theorem first_at (t : T3) : ∀ {ls : List T3}, t ∈ ls → ∃ i : Nat, ls[i]? = some t ∧ ∀ m : Nat, m < i → ∃ u, ls[m]? = some u ∧ u ≠ t
  | [], h => by cases h
  | u :: r, h => by
    by_cases e : u = t
    · exact ⟨0, by simp [e], fun m hm => absurd hm (Nat.not_lt_zero _)⟩
    · obtain ⟨i, h1, h2⟩ := first_at t (ls := r) (by rcases List.mem_cons.mp h with rfl | h; exact absurd rfl e; exact h)
      refine ⟨i + 1, by simpa using h1, fun m hm => ?_⟩
      cases m with
      | zero => exact ⟨u, by simp, e⟩
      | succ m => obtain ⟨v, a, b⟩ := h2 m (by omega); exact ⟨v, by simpa using a, b⟩
theorem erase_p {t : T3} : ∀ {ls : List T3} {i : Nat}, ls[i]? = some t → (t :: ls.eraseIdx i).Perm ls
  | [], _, h => by simp at h
  | u :: r, 0, h => by simp at h; subst h; exact .refl _
  | u :: r, i + 1, h => (List.Perm.swap _ _ _).trans (.cons u (erase_p (ls := r) (i := i) (by simpa using h)))
theorem Chg.trans {S : List Addr} {H H1 H2 : Hp} (a : Chg S H H1) (b : Chg S H1 H2) : Chg S H H2 := fun c o hc e => b c o hc (a c o hc e)
theorem Chg.of {S : List Addr} {H H1 : Hp} (a : Same H H1) : Chg S H H1 := fun c o _ e => a c o e
theorem Chg.mono {S S' : List Addr} {H H1 : Hp} (a : Chg S H H1) (h : ∀ b ∈ S, b ∈ S') : Chg S' H H1 := fun c o hc e => a c o (fun z => hc (h c z)) e
theorem Chg.set {S : List Addr} {H H1 : Hp} {p : Addr} {o : HO} (a : Chg S H H1) (h : p ∈ S) : Chg S H (upd H1 p o) := fun c u hc e => by
  rw [upd_ne (fun z => hc (by rw [z]; exact h))]; exact a c u hc e
theorem Chg.refl {S : List Addr} {H : Hp} : Chg S H H := fun _ _ _ e => e
theorem Rws.chg {S : List Addr} {H H' : Hp} {vs : List V} {ts : List T3} (h : Rws H vs ts) (k : Chg S H H') (hS : ∀ b ∈ S, ∀ xs, H b ≠ some (.tup xs)) : Rws H' vs ts := h.imp (chg_tup k hS)
theorem AlAt.chg {S : List Addr} {H H' : Hp} {p l : Addr} {rs : List T3} (h : AlAt C H p l rs) (k : Chg S H H') (hp : p ∉ S) (hl : l ∉ S) (hS : ∀ b ∈ S, ∀ xs, H b ≠ some (.tup xs)) : AlAt C H' p l rs := by
  obtain ⟨⟨dx, ho⟩, ⟨vs, hv, r⟩, sd⟩ := h
  exact ⟨⟨dx, k _ _ hp ho⟩, ⟨vs, k _ _ hl hv, r.chg k hS⟩, sd⟩
structure LtAt (H : Hp) (m : Addr) (ls : List T3) : Prop where
  ex : ∃ us, H m = some (.lst us) ∧ Rws H us ls
theorem LtAt.chg {S : List Addr} {H H' : Hp} {m : Addr} {ls : List T3} (h : LtAt H m ls) (k : Chg S H H') (hm : m ∉ S) (hS : ∀ b ∈ S, ∀ xs, H b ≠ some (.tup xs)) : LtAt H' m ls := by
  obtain ⟨⟨us, hu, r⟩⟩ := h
  exact ⟨⟨us, k _ _ hm hu, r.chg k hS⟩⟩
theorem dep_tD (t : T3) : depD (tD t) ≤ 3 := by
  obtain ⟨a, b, c⟩ := t
  show depD (D.t [.a (.int a), .a (.int b), .a (.int c)]) ≤ 3
  simp [depD, depDs]
theorem deps_tD : ∀ ls : List T3, depDs (ls.map fun t => tD t) ≤ 3
  | [] => by simp [depDs]
  | t :: r => by
    rw [List.map_cons]
    unfold depDs
    exact Nat.max_le.mpr ⟨dep_tD t, deps_tD r⟩
structure B8 (mg : Str → Option Value) : Prop where
  b : Bltn mg
  tuple : mg "tuple" = none
  min : mg "min" = none
  sorted : mg "sorted" = none
theorem at3 {x y z i : Int} : ∃ v : Int, atI [V.int x, .int y, .int z] (i % 3) = some (.int v) := by
  obtain ⟨v, hv, hmem, _⟩ := atI_mem (xs := [V.int x, .int y, .int z]) (i := i % 3) (Int.emod_nonneg _ (by decide)) (by have := Int.emod_lt_of_pos i (show (0 : Int) < 3 by decide); exact this)
  simp only [List.mem_cons, List.not_mem_nil, or_false] at hmem
  rcases hmem with rfl | rfl | rfl <;> exact ⟨_, hv⟩
theorem at2 {x y i : Int} : ∃ v : Int, atI [V.int x, .int y] (i % 2) = some (.int v) := by
  obtain ⟨v, hv, hmem, _⟩ := atI_mem (xs := [V.int x, .int y]) (i := i % 2) (Int.emod_nonneg _ (by decide)) (by have := Int.emod_lt_of_pos i (show (0 : Int) < 2 by decide); exact this)
  simp only [List.mem_cons, List.not_mem_nil, or_false] at hmem
  rcases hmem with rfl | rfl <;> exact ⟨_, hv⟩
def spAlarm : Sp := fun vs H Q _ => ∃ (c : Int), vs = [.int c] ∧ ∀ t q H', H q = none → H' q = some (.tup (trip t)) → Same H H' → Q (.ref q) H'
theorem ok_alarm (D : Def K mg "_law_alarm" s__law_alarm ["_law_cell"]) : Knows P w K mg base 1 "_law_alarm" ["_law_cell"] spAlarm := by
  refine D.ok sc__law_alarm (fun vs H Q E h => ?_) (fun f cdv A outer s H vs Q E hr h => ?_)
  · obtain ⟨c, rfl, _⟩ := h
    rfl
  · obtain ⟨c, rfl, q⟩ := h
    refine ⟨_, by exact (pss_cons (ps_set (i := 1) sc__law_alarm.nd rfl (Or.inl rfl) (pe_ix ix_list (pe_lst (pa_c (pe_op op_mod (pe_op op_fdiv (pv 0) pe_int) pe_int) (pa_c (pe_op op_mod (pe_op op_fdiv (pv 0) pe_int) pe_int) (pa_c (pe_op op_mod (pe_op op_fdiv (pv 0) pe_int) pe_int) pa_nil)))) (pe_op op_mod (pv 0) pe_int) (fun _ _ => rfl)))
      (pss_one (ps_ret (pe_tup (pa_c (pv 1) (pa_c (pe_op op_mod (pe_op op_fdiv (pv 0) pe_int) pe_int) (pa_c (pe_ix ix_list (pe_lst (pa_c (pe_op op_mod (pe_op op_fdiv (pv 0) pe_int) pe_int) (pa_c (pe_op op_mod (pe_op op_fdiv (pv 0) pe_int) pe_int) pa_nil))) (pe_op op_mod (pe_op op_fdiv (pv 0) pe_int) pe_int) (fun _ _ => rfl)) pa_nil))))))), ?_⟩
    refine seq_use (fun v H' => ∃ z : Int, v = .int z ∧ Same H H') (fun Q' kk => ?_) ?_
    · refine ⟨_, rfl, _, _, rfl, rfl, (by walk_at "m"), _, _, rfl, rfl, (by walk_at "m"), _, rfl, _, _, rfl, rfl, (by walk_at "m"), _, _, rfl, rfl, (by walk_at "m"), _, rfl, _, _, rfl, rfl, (by walk_at "m"), _, _, rfl, rfl, (by walk_at "m"), (by show 3 ≤ sizeLine; decide), fun p hp => ?_⟩
      obtain ⟨z, hz⟩ := at3 (x := c / 3 % 6) (y := c / 3 % 40) (z := c / 3 % 1000000001) (i := c)
      exact ⟨_, rfl, _, _, rfl, rfl, (by walk_at "m"), p, _, _, _, rfl, rfl, SqL.of upd_same, hz, kk _ _ ⟨z, rfl, same_of hp⟩⟩
    · rintro v H1 ⟨z, rfl, s1⟩
      refine ⟨_, rfl, _, rfl, _, _, rfl, rfl, (by walk_at "m"), _, _, rfl, rfl, (by walk_at "m"), _, rfl, _, _, rfl, rfl, (by walk_at "m"), _, _, rfl, rfl, (by walk_at "m"), _, rfl, _, _, rfl, rfl, (by walk_at "m"), _, _, rfl, rfl, (by walk_at "m"), (by show 2 ≤ sizeLine; decide), fun p hp => ?_⟩
      obtain ⟨z2, hz2⟩ := at2 (x := c / 14 % 3) (y := c / 14 % 40) (i := c / 560)
      refine ⟨_, rfl, _, _, rfl, rfl, (by walk_at "m"), _, _, rfl, rfl, (by walk_at "m"), p, _, _, _, rfl, rfl, SqL.of upd_same, hz2, (by show 3 ≤ sizeLine; decide), fun p2 hp2 => ?_⟩
      have hp2' : H p2 = none := s1.free ((same_of hp).free hp2)
      exact q (z, c / 7 % 2, z2) p2 _ hp2' upd_same ((s1.new hp).new hp2)
def spWhole : Sp := fun vs H Q _ => ∃ n : Int, vs = [.int n] ∧ Q (.bl true) H
theorem ok_whole (D : Def K mg "_law_whole" s__law_whole ["_law_found"]) (B : Bltn mg) : Knows P w K mg base 1 "_law_whole" ["_law_found"] spWhole := by
  refine D.ok sc__law_whole (fun vs H Q E h => ?_) (fun f cdv A outer s H vs Q E hr h => ?_)
  · obtain ⟨n, rfl, _⟩ := h
    rfl
  · obtain ⟨n, rfl, q⟩ := h
    refine ⟨_, by exact (pss_one (ps_ret (pe_and (pe_isiM B.isi B.int boot_int (pv 0)) (pe_one (pe_not (pe_isiM B.isi B.bool boot_bool (pv 0))))))), ?_⟩
    have ty : TyOf K H (.int n) (.type "int") := .int n
    exact ⟨_, rfl, _, _, _, rfl, ty, isiI ty, _, rfl, iteT ⟨_, rfl, _, _, _, rfl, ty, isiB ty, _, rfl, q⟩⟩
end
end K08

set_option Elab.async false
set_option linter.all false
set_option maxRecDepth 100000
set_option maxHeartbeats 4000000
set_option pp.maxSteps 600
set_option pp.deepTerms false
namespace K08
open PySem L2 PyProof.Rows
theorem cut_one {xs : List V} {i : Nat} : cutV xs (some (i : Int)) (some ((i : Int) + 1)) = (xs.drop i).take 1 := by
  unfold cutV
  rw [show (i : Int) + 1 = ((i + 1 : Nat) : Int) by omega, HT.sIx_nat, HT.sIx_nat]
  by_cases h : i < xs.length
  · rw [Nat.min_eq_left (by omega), Nat.min_eq_left (by omega), show i + 1 - i = 1 by omega]
  · rw [List.drop_eq_nil_of_le (by omega), List.drop_eq_nil_of_le (by omega)]
    simp
theorem drop_one {α : Type} (xs : List α) (i : Nat) : (xs.drop i).take 1 = xs[i]?.toList := by
  rw [List.take_one, List.head?_drop]
theorem tot (t u : T3) (h1 : lt t u = false) (h2 : lt u t = false) : t = u := by
  rw [lt_false] at h1 h2
  obtain ⟨a, b, c⟩ := t
  obtain ⟨d, e, f⟩ := u
  simp only at h1 h2
  have : a = d ∧ b = e ∧ c = f := by omega
  obtain ⟨rfl, rfl, rfl⟩ := this
  rfl
theorem cut_in {rs : List T3} {t : T3} {i : Nat} (s : Sorted rs) (c : Cut rs t i) : t ∈ rs ↔ rs[i]? = some t := by
  constructor
  · intro h
    obtain ⟨j, hj⟩ := List.getElem?_of_mem h
    have hij : i ≤ j := by
      rcases Nat.lt_or_ge j i with h' | h'
      · have := c.lo t (List.mem_of_getElem? (by rw [List.getElem?_take, if_pos h']; exact hj))
        rw [lt_irr] at this; cases this
      · exact h'
    have hil : i < rs.length := by have := (List.getElem?_eq_some_iff.mp hj).1; omega
    obtain ⟨u, hu⟩ : ∃ u, rs[i]? = some u := ⟨rs[i], by simp [hil]⟩
    have h1 : lt u t = false := c.hi u (List.mem_of_getElem? (i := 0) (by rw [List.getElem?_drop, Nat.add_zero]; exact hu))
    have h2 : lt t u = false := by
      by_cases e : i = j
      · subst e; rw [hj] at hu; cases hu; exact lt_irr _
      · exact sorted_get s hu hj (by omega)
    rw [hu, tot _ _ h1 h2]
  · exact List.mem_of_getElem?
section
variable {P : Program} {w : World} {K : PySem.W.Frag} {mg : Str → Option Value} {base : Heap} {C CN : Addr}
def spDrop (C CN : Addr) : Sp := fun vs H Q E => ∃ (p l : Addr) (rs : List T3) (a b c : Int), vs = [.ref p, .int a, .int b, .int c] ∧ AlAt C H p l rs ∧ rs.length ≤ 10000 ∧ ((a, b, c) ∉ rs → ∀ H', Same H H' → E (.ref CN) none H') ∧
  ((a, b, c) ∈ rs → ∀ rs' H', AlAt C H' p l rs' → ((a, b, c) :: rs').Perm rs → Chg [l] H H' → Q .non H')
theorem ok_drop {f : Addr} {fd : FuncData} (F : Fun K "drop" "Alarms.drop" s_Alarms_drop f fd) (T : Txt K mg C CN) (km_spot : KnowsM CX0 P w K mg base 1 C "spot" ["self", "alarm"] (spSpot C)) : FnOk P w K mg base (CX1 P w base) 2 f fd ["self", "turn", "sort", "number"] (spDrop C CN) := by
  refine F.okX sc_Alarms_drop (fun vs H Q E h => ?_) (fun cdv A outer s H vs Q E hr h => ?_)
  · obtain ⟨p, l, rs, a, b, c, rfl, _⟩ := h
    rfl
  · obtain ⟨p, l, rs, a, b, c, rfl, S, hlen, kE, k⟩ := h
    obtain ⟨⟨dx, hp⟩, ⟨vs, hl, hr3⟩, sd⟩ := id S
    have hvl := hr3.len
    have hu := hr.units
    refine ⟨_, by exact (pss_cons (ps_set (i := 4) sc_Alarms_drop.nd rfl (Or.inl rfl) (pe_tup (pa_c (pv 1) (pa_c (pv 2) (pa_c (pv 3) pa_nil)))))
      (pss_cons (ps_set (i := 5) sc_Alarms_drop.nd rfl (Or.inl rfl) (pe_methM km_spot T.cl hr pass0 (pv 0) (pa_c (pv 4) pa_nil)))
      (pss_cons (ps_if (pt_cmpR (op_neD hu) (pe_slice sl_list (pe_fld (pv 0) rfl) (po_some (pv 5)) (po_some (pe_op op_add (pv 5) pe_int))) (pe_lst (pa_c (pv 4) pa_nil)) (nomark _)) (pss_one (ps_raise T.exc T.mgN (pa_c pe_str pa_nil))) pss_nil)
      (pss_one (ps_expr (pe_mcall PySem.F.plainAttrs_list PySem.F.slot_list_pop PySem.F.type_list_pop mt_popAt (pe_fld (pv 0) rfl) (pa_c (pv 5) pa_nil))))))), ?_⟩
    refine ⟨_, rfl, _, rfl, _, rfl, (by show 3 ≤ sizeLine; decide), fun q hq => ?_⟩
    have sm : Same H (upd H q (.tup [.int a, .int b, .int c])) := same_of hq
    have ht : TupAt (upd H q (.tup [.int a, .int b, .int c])) (.ref q) (a, b, c) := ⟨q, rfl, upd_same⟩
    have eq : (upd H q (.tup [.int a, .int b, .int c])) q = some (.tup (trip (a, b, c))) := upd_same
    generalize upd H q (.tup [.int a, .int b, .int c]) = H1 at sm ht eq
    dsimp only
    have r1 : Rws H1 vs rs := hr3.imp fun b xs e => sm _ _ e
    refine ⟨_, rfl, p, dx, _, rfl, sm _ _ hp, noF (by decide +kernel), _, rfl, p, l, rs, .ref q, (a, b, c), rfl, ⟨⟨dx, sm _ _ hp⟩, ⟨vs, sm _ _ hl, r1⟩, sd⟩, ht, by omega, fun i cut => ?_⟩
    have hi := cut.le
    refine ⟨_, rfl, p, C, dx, _, _, rfl, sm _ _ hp, T.cl, T.nR, rfl, _, rfl, _, rfl, _, rfl, _, _, rfl, rfl, _, rfl, l, vs, rfl, SqL.of (sm _ _ hl), fun u hu' => ?_⟩
    rw [cut_one, drop_one]
    have s2 : Same H1 (upd H1 u (.lst vs[i]?.toList)) := same_of hu'
    have eu : (upd H1 u (.lst vs[i]?.toList)) u = some (.lst vs[i]?.toList) := upd_same
    generalize upd H1 u (.lst vs[i]?.toList) = H2 at s2 eu
    refine ⟨_, rfl, (by show 1 ≤ sizeLine; decide), fun u2 hu2 => ?_⟩
    have s3 : Same H2 (upd H2 u2 (.lst [.ref q])) := same_of hu2
    have eu2 : (upd H2 u2 (.lst [.ref q])) u2 = some (.lst [.ref q]) := upd_same
    generalize upd H2 u2 (.lst [.ref q]) = H3 at s3 eu2
    have s13 := s2.trans s3
    have s03 := sm.trans s13
    have r3 : Rws H3 vs rs := hr3.imp fun b xs e => s03 _ _ e
    have rq : Rep K H3 (.ref u2) (D.l [tD (a, b, c)]) := .l (SqL.of eu2) (.cons (TupAt.rep ⟨q, rfl, s13 _ _ eq⟩) .nil)
    have ri : Rep K H3 (.ref u) (D.l (rs[i]?.toList.map fun t => tD t)) := by
      refine .l (SqL.of (s3 _ _ eu)) ?_
      have := (r3.drop i).take 1
      rw [drop_one, drop_one] at this
      exact this.reps
    refine ⟨_, _, ri, rq, ?_, _, rfl, ?_⟩
    · unfold depD
      have := deps_tD rs[i]?.toList
      omega
    rw [eqD_l]
    have ev : eqDs (rs[i]?.toList.map fun t => tD t) [tD (a, b, c)] = decide (rs[i]? = some (a, b, c)) := by
      cases hri : rs[i]? with
      | none => simp [eqDs]
      | some t =>
        show eqDs [tD t] [tD (a, b, c)] = _
        simp only [eqDs, eq_tD, Bool.and_true]
        by_cases e : t = (a, b, c) <;> simp [e]
    rw [ev]
    by_cases hin : rs[i]? = some (a, b, c)
    · rw [decide_eq_true hin]
      refine iteF ?_
      dsimp only
      have hil : i < rs.length := (List.getElem?_eq_some_iff.mp hin).1
      obtain ⟨v, hv⟩ : ∃ v, vs[i]? = some v := ⟨vs[i]'(by omega), by simp⟩
      have hp3 := s03 _ _ hp
      have hl3 := s03 _ _ hl
      have hpl : p ≠ l := ne_of hp hl (by intro z; cases z)
      refine ⟨_, rfl, p, C, dx, _, _, rfl, hp3, T.cl, T.nR, rfl, .inl ⟨rfl, _, SqL.of hl3⟩, _, rfl, l, _, (i : Int), i, v, rfl, rfl, hl3, by omega, by omega, ?_, hv, ?_⟩
      · have e0 : ¬ ((i : Int) < 0) := by omega
        have e1 : i < vs.length := by omega
        unfold seqIndex?
        simp [e0, e1]
      have tl : ∀ o d xs, H3 d = some (.tup xs) → (upd H3 l o) d = some (.tup xs) := fun o d xs e => by
        rw [upd_ne (fun z => by rw [z, hl3] at e; cases e)]; exact e
      refine k ((cut_in sd cut).mpr hin) (rs.eraseIdx i) _ ⟨⟨dx, by rw [upd_ne hpl]; exact hp3⟩, ⟨_, upd_same, (r3.eraseIdx i).imp (tl _)⟩, sd.sublist (List.eraseIdx_sublist _ _)⟩ (erase_p hin) (fun d o hd e => ?_)
      rw [upd_ne (by simpa using hd)]
      exact s03 _ _ e
    · rw [decide_eq_false hin]
      refine iteT ?_
      exact ⟨by decide, kE (fun z => hin ((cut_in sd cut).mp z)) H3 s03⟩
end
end K08

set_option Elab.async false
set_option linter.all false
set_option maxRecDepth 100000
set_option maxHeartbeats 4000000
set_option pp.maxSteps 600
set_option pp.deepTerms false
namespace K08
open PySem L2 PyProof.Rows
section
variable {P : Program} {w : World} {K : PySem.W.Frag} {mg : Str → Option Value} {base : Heap} {C CN CH : Addr} {D : Nat → Addr} {R : Nat → Prop}
def spRefused (C : Addr) : Sp := fun vs H Q _ => ∃ (p l : Addr) (rs : List T3) (x : V), vs = [.ref p, x] ∧ AlAt C H p l rs ∧ rs.length ≤ 10000 ∧ ((x = .non ∧ rs = []) ∨ ∃ q t, x = .ref q ∧ H q = some (.tup (trip t)) ∧ t ∉ rs) ∧ ∀ H', Same H H' → Q (.str "alarm") H'
theorem ok_refused (Df : Def K mg "_law_refused" s__law_refused ["_law_box", "_law_alarm_here"]) (T : Txt K mg C CN) (gH : mg "HallError" = some (.ref CH)) (ex : PySem.W.exmOne K (.ref CN) (.ref CH) = some true) (hD : D 3 = CN) (hR : R 3)
    (km_take : KnowsM (CX1 P w base) P w K mg base 1 C "take" ["self"] (spTake C CN)) (km_drop : KnowsM (CX1 P w base) P w K mg base 2 C "drop" ["self", "turn", "sort", "number"] (spDrop C CN)) (k_word : KnowsQ P w K mg base 1 "_law_word" ["_law_e"] (spWord D R)) :
    Knows P w K mg base 3 "_law_refused" ["_law_box", "_law_alarm_here"] (spRefused C) := by
  refine Df.ok sc__law_refused (fun vs H Q E h => ?_) (fun f cdv A outer s H vs Q E hr h => ?_)
  · obtain ⟨p, l, rs, x, rfl, _⟩ := h
    rfl
  · obtain ⟨p, l, rs, x, rfl, S, hlen, hx, q0⟩ := h
    obtain ⟨⟨dx, hp⟩, _⟩ := id S
    refine ⟨_, by exact (pss_cons (ps_tryAs (i := 2) rfl rfl gH (fun _ => PassesOwnAt.never) sc__law_refused.nd rfl rfl (fun Eb pn xe hL => pss_one (ps_if (pt_cmpR op_isN (pv 1) pe_non (nomark _)) (pss_one (ps_expr (pe_methS0 km_take T.cl hr hL (pv 0))))
        (pss_one (ps_expr (pe_methS km_drop T.cl hr hL (pv 0) (pa_c (pe_ix (ix_tupC (K0 := K) rfl) (pv 1) pe_int (fun _ _ => rfl)) (pa_c (pe_ix (ix_tupC (K0 := K) rfl) (pv 1) pe_int (fun _ _ => rfl)) (pa_c (pe_ix (ix_tupC (K0 := K) rfl) (pv 1) pe_int (fun _ _ => rfl)) pa_nil))))))))
      (fun a => pss_one (ps_ret (pe_callQ k_word (hr.q.mark _) (pa_c (pv 2) pa_nil))))) (pss_one (ps_ret pe_str))), ?_⟩
    refine ⟨fun σ' C' o H' => C' = .ref CN ∧ o = none ∧ Same H H' ∧ σ'.length = 3, ?_, ?_⟩
    · rcases hx with ⟨rfl, rfl⟩ | ⟨q, t, rfl, hq, hn⟩
      · refine ⟨_, rfl, rfl, _, rfl, iteT ?_⟩
        exact ⟨_, rfl, p, dx, _, rfl, hp, noF (by decide +kernel), p, l, [], rfl, S, fun _ => ⟨rfl, rfl, Same.refl _, rfl⟩, fun t r v H' e => by cases e⟩
      · refine ⟨_, rfl, rfl, _, rfl, iteF ?_⟩
        exact ⟨_, rfl, p, dx, _, rfl, hp, noF (by decide +kernel), _, rfl, q, _, _, _, rfl, rfl, SqT.of hq, atI_nat (j := 0) rfl, _, rfl, q, _, _, _, rfl, rfl, SqT.of hq, atI_nat (j := 1) rfl, _, rfl, q, _, _, _, rfl, rfl, SqT.of hq, atI_nat (j := 2) rfl, p, l, rs, _, _, _, rfl, S, hlen, fun _ H' s' => ⟨rfl, rfl, s', rfl⟩, fun hin => absurd hin hn⟩
    · rintro σ' C' H' ⟨e1, _, s1, hl⟩
      cases e1
      refine ⟨ex, fun a ha => ?_⟩
      have ea : (upd H' a (ExcO a CN)) a = some (ExcO a CN) := upd_same
      have sa : Same H' (upd H' a (ExcO a CN)) := same_of ha
      refine ⟨.ref a, ?_, ⟨a, CN, rfl, ea⟩, a, 3, rfl, by decide, hR, by rw [hD]; exact ea, fun H2 s2 => q0 H2 ((s1.trans sa).trans s2)⟩
      rw [List.getElem?_set_self (by omega)]
end
end K08

set_option Elab.async false
set_option linter.all false
set_option maxRecDepth 100000
set_option maxHeartbeats 4000000
set_option pp.maxSteps 600
set_option pp.deepTerms false
namespace K08
open PySem L2 PyProof.Rows
theorem stm_use {t u : TS} {D : Ends} {σ : L2.St} {H : Hp} (Post : L2.St → Hp → Prop) (hg : ∀ Q', (∀ σ' H', Post σ' H' → Q' σ' H') → t { D with nx := Q' } σ H) (k : ∀ σ' H', Post σ' H' → u D σ' H') : tSeq t u D σ H := hg _ k
theorem next_to {D : Ends} {σ : L2.St} {H : Hp} (h : D.nx σ H) : tNext D σ H := h
/-- a box and the list beside it -/
structure Two (C : Addr) (H : Hp) (p l m : Addr) (rs ks : List T3) : Prop where
  al : AlAt C H p l rs
  ke : LtAt H m ks
  pm : ks.Perm rs
  ne : m ≠ l
def Lsts (H : Hp) (S : List Addr) : Prop := ∀ b ∈ S, ∃ xs, H b = some (.lst xs)
theorem Lsts.noT {H : Hp} {S : List Addr} (h : Lsts H S) : ∀ b ∈ S, ∀ xs, H b ≠ some (.tup xs) := fun b hb xs e => by
  obtain ⟨ys, e2⟩ := h b hb
  rw [e] at e2; cases e2
theorem Two.lsts {C : Addr} {H : Hp} {p l m : Addr} {rs ks : List T3} (h : Two C H p l m rs ks) : Lsts H [l, m] := fun b hb => by
  obtain ⟨vs, e, _⟩ := h.al.ls
  obtain ⟨us, e2, _⟩ := h.ke.ex
  simp only [List.mem_cons, List.not_mem_nil, or_false] at hb
  rcases hb with rfl | rfl
  · exact ⟨_, e⟩
  · exact ⟨_, e2⟩
theorem AlAt.noL {C : Addr} {H : Hp} {p l : Addr} {rs : List T3} {S : List Addr} (h : AlAt C H p l rs) (n : Lsts H S) : p ∉ S := fun hp => by
  obtain ⟨dx, e⟩ := h.ob
  obtain ⟨xs, e2⟩ := n p hp
  rw [e] at e2; cases e2
theorem Two.chg {C : Addr} {H H' : Hp} {p l m : Addr} {rs ks : List T3} {S : List Addr} (h : Two C H p l m rs ks) (k : Chg S H H') (n : Lsts H S) (hl : l ∉ S) (hm : m ∉ S) : Two C H' p l m rs ks := ⟨h.al.chg k (h.al.noL n) hl n.noT, h.ke.chg k hm n.noT, h.pm, h.ne⟩
theorem Two.same {C : Addr} {H H' : Hp} {p l m : Addr} {rs ks : List T3} (h : Two C H p l m rs ks) (s : Same H H') : Two C H' p l m rs ks := h.chg (S := []) (Chg.of s) (fun b hb => by cases hb) (by simp) (by simp)
theorem lt_lt3 (t u : T3) : lt t u = lt3 t u := lex_k3 t u
/-- what stands at a tuple's place -/
def kfH (H : Hp) (a : Addr) : T3 := match H a with
  | some (.tup [.int x, .int y, .int z]) => (x, y, z)
  | _ => (0, 0, 0)
theorem kfH_eq {H : Hp} {a : Addr} {t : T3} (h : H a = some (.tup (trip t))) : kfH H a = t := by
  unfold kfH
  rw [h]
  rfl
theorem Rws.refs {H : Hp} : ∀ {us : List V} {ks : List T3}, Rws H us ks → ∃ ts : List Addr, us = ts.map V.ref ∧ ks = ts.map (kfH H) ∧ ∀ t ∈ ts, H t = some (.tup (k3 (kfH H t)))
  | _, _, .nil => ⟨[], rfl, rfl, fun t h => by cases h⟩
  | _, _, .cons ⟨q, e, hq⟩ r => by
    obtain ⟨ts, e1, e2, e3⟩ := r.refs
    have := kfH_eq hq
    refine ⟨q :: ts, by rw [e, e1]; rfl, by rw [List.map_cons, this, e2], fun t ht => ?_⟩
    rcases List.mem_cons.mp ht with rfl | ht
    · rw [this]; exact hq
    · exact e3 t ht
theorem eq_nilD (ks : List T3) : eqD (D.l (ks.map fun t => tD t)) (D.l []) = decide (ks = []) := by
  rw [eqD_l]
  cases ks with
  | nil => simp [eqDs]
  | cons t r => simp [eqDs]
theorem dep_l (ks : List T3) : depD (D.l (ks.map fun t => tD t)) ≤ 60 := by
  unfold depD
  have := deps_tD ks
  omega
theorem hu1 {k : Nat} {A : Around} (hr : Room k A) : A.units + 1 < cLine := by have := hr.un; omega
section
variable {K : PySem.W.Frag} {C : Addr}
/-- list.remove(x) of the list beside a box -/
theorem rem_at {H : Hp} {p l m q : Addr} {rs ks : List T3} {t : T3} (tw : Two C H p l m rs ks) (hq : H q = some (.tup (trip t))) (hin : t ∈ ks) : ∃ (us : List V) (i : Nat), H m = some (.lst us) ∧ Reps K H us (ks.map fun t => tD t) ∧ ((ks.map fun t => tD t).map fun e => eqD e (tD t))[i]? = some true ∧ (∀ j, j < i → ((ks.map fun t => tD t).map fun e => eqD e (tD t))[j]? = some false) ∧
    ∀ H', H' = upd H m (.lst (us.eraseIdx i)) → ∃ ks', LtAt H' m ks' ∧ (t :: ks').Perm ks ∧ AlAt C H' p l rs ∧ H' q = some (.tup (trip t)) ∧ Chg [m] H H' := by
  obtain ⟨⟨us, hm, hru⟩⟩ := id tw.ke
  obtain ⟨i, hi, hbef⟩ := first_at t hin
  refine ⟨us, i, hm, hru.reps, ?_, ?_, ?_⟩
  · rw [List.map_map, List.getElem?_map, hi]
    show some (eqD (tD t) (tD t)) = _
    rw [eq_tD, decide_eq_true rfl]
  · intro j hj
    obtain ⟨u, hu', hne⟩ := hbef j hj
    rw [List.map_map, List.getElem?_map, hu']
    show some (eqD (tD u) (tD t)) = _
    rw [eq_tD, decide_eq_false hne]
  · rintro _ rfl
    have lm : Lsts H [m] := fun b hb => ⟨us, by rw [List.mem_singleton.mp hb]; exact hm⟩
    have k2 : Chg [m] H (upd H m (.lst (us.eraseIdx i))) := Chg.refl.set (by simp)
    exact ⟨_, ⟨_, upd_same, (hru.eraseIdx i).chg k2 lm.noT⟩, erase_p hi, tw.al.chg k2 (tw.al.noL lm) (by simpa using (Ne.symm tw.ne)) lm.noT, k2 _ _ (fun z => lm.noT _ z _ hq) hq, k2⟩
end
section
variable {P : Program} {w : World} {K : PySem.W.Frag} {mg : Str → Option Value} {base : Heap} {C CN CH : Addr} {D : Nat → Addr} {R : Nat → Prop}
def spDropped (C : Addr) : Sp := fun vs H Q _ => ∃ (p l m : Addr) (rs ks : List T3) (c : Int), vs = [.ref p, .ref m, .int c] ∧ Two C H p l m rs ks ∧ rs.length ≤ 1000 ∧ ∀ rs' ks' H', Two C H' p l m rs' ks' → rs'.length ≤ rs.length + 1 → Chg [l, m] H H' → Q (.bl true) H'
theorem ok_dropped (Df : Def K mg "_law_dropped" s__law_dropped ["_law_box", "_law_kept", "_law_cell"]) (T : Txt K mg C CN) (B : B8 mg) (k_alarm : Knows P w K mg base 1 "_law_alarm" ["_law_cell"] spAlarm) (k_refused : Knows P w K mg base 3 "_law_refused" ["_law_box", "_law_alarm_here"] (spRefused C))
    (km_put : KnowsM CX0 P w K mg base 2 C "put" ["self", "turn", "sort", "number"] (spPut C)) (km_drop : KnowsM (CX1 P w base) P w K mg base 2 C "drop" ["self", "turn", "sort", "number"] (spDrop C CN)) :
    Knows P w K mg base 4 "_law_dropped" ["_law_box", "_law_kept", "_law_cell"] (spDropped C) := by
  refine Df.ok sc__law_dropped (fun vs H Q E h => ?_) (fun f cdv A outer s H vs Q E hr h => ?_)
  · obtain ⟨p, l, m, rs, ks, c, rfl, _⟩ := h
    rfl
  · obtain ⟨p, l, m, rs, ks, c, rfl, tw0, hlen, q0⟩ := h
    have hu := hr.units
    refine ⟨_, by exact (pss_cons (ps_set (i := 3) sc__law_dropped.nd rfl (Or.inl rfl) (pe_callM k_alarm hr (pa_c (pe_op op_fdiv (pv 2) pe_int) pa_nil)))
      (pss_cons (ps_if (PW.pt (pw_and (pt_cmpR op_gt (pe_op op_mod (pv 2) pe_int) pe_int (nomark _)) (pw_and1 (pt_cmpR (op_neD hu) (pv 1) (pe_lst pa_nil) (nomark _))))) (pss_cons (ps_set (i := 3) sc__law_dropped.nd rfl (Or.inl rfl) (pe_ix ix_list (pv 1) (pe_op op_mod (pe_op op_fdiv (pv 2) pe_int) (pe_bcall call_len_seq rfl B.b.len PySem.boot_len (pa_c (pv 1) pa_nil))) (fun _ _ => rfl)))
      (pss_cons (ps_expr (pe_mcall PySem.F.plainAttrs_list PySem.F.slot_list_remove PySem.F.type_list_remove (mt_remove hu) (pv 1) (pa_c (pv 3) pa_nil)))
      (pss_one (ps_ret (pe_cmpR op_isN (pe_methM km_drop T.cl hr passes_none (pv 0) (pa_c (pe_ix ix_tup (pv 3) pe_int (fun _ _ => rfl)) (pa_c (pe_ix ix_tup (pv 3) pe_int (fun _ _ => rfl)) (pa_c (pe_ix ix_tup (pv 3) pe_int (fun _ _ => rfl)) pa_nil)))) pe_non (nomark _)))))) pss_nil)
      (pss_cons (ps_if (pt_cmpR (op_inD hu) (pv 3) (pv 1) (by with_unfolding_all rfl)) (pss_one (ps_ret pe_bl)) pss_nil)
      (pss_cons (ps_if (PW.pt (pw_or (pt_cmpR op_ne (pe_callM k_refused hr (pa_c (pv 0) (pa_c (pv 3) pa_nil))) pe_str (nomark _)) (pw_or1 (pt_cmpR op_notN (pe_methM km_put T.cl hr pass0 (pv 0) (pa_c (pe_ix ix_tup (pv 3) pe_int (fun _ _ => rfl)) (pa_c (pe_ix ix_tup (pv 3) pe_int (fun _ _ => rfl)) (pa_c (pe_ix ix_tup (pv 3) pe_int (fun _ _ => rfl)) pa_nil)))) pe_non (nomark _))))) (pss_one (ps_ret pe_bl)) pss_nil)
      (pss_one (ps_ret (pe_and (pe_cmpR op_isN (pe_methM km_drop T.cl hr passes_none (pv 0) (pa_c (pe_ix ix_tup (pv 3) pe_int (fun _ _ => rfl)) (pa_c (pe_ix ix_tup (pv 3) pe_int (fun _ _ => rfl)) (pa_c (pe_ix ix_tup (pv 3) pe_int (fun _ _ => rfl)) pa_nil)))) pe_non (nomark _)) (pe_one (pe_cmpR op_eq (pe_callM k_refused hr (pa_c (pv 0) (pa_c (pv 3) pa_nil))) pe_str (nomark _)))))))))), ?_⟩
    refine seq_use (fun v H' => ∃ t q, v = .ref q ∧ H' q = some (.tup (trip t)) ∧ Same H H') (fun Q' kk => ⟨_, rfl, _, _, rfl, rfl, (by walk_at "m"), c / 4, rfl, fun t q H' _ e s' => kk _ _ ⟨t, q, rfl, e, s'⟩⟩) ?_
    rintro _ H1 ⟨t, q, rfl, hq, s1⟩
    have tw := tw0.same s1
    have q1 : ∀ rs' ks' H', Two C H' p l m rs' ks' → rs'.length ≤ rs.length + 1 → Chg [l, m] H1 H' → Q (.bl true) H' := fun rs' ks' H' a b k => q0 rs' ks' H' a b ((Chg.of s1).trans k)
    clear q0 tw0
    dsimp only
    obtain ⟨⟨dx, hp⟩, _⟩ := id tw.al
    obtain ⟨⟨us, hm, hru⟩⟩ := id tw.ke
    have hkl : ks.length = rs.length := tw.pm.length_eq
    have rest : ∀ {H2 : Hp}, Same H1 H2 → t ∉ rs → True := fun _ _ => trivial
    clear rest
    refine if_use (fun b H' => Same H1 H' ∧ (b = true → ks ≠ [])) (fun Q' kk => ?_) ?_ ?_
    · refine ⟨_, rfl, _, _, rfl, rfl, (by walk_at "m"), _, _, rfl, rfl, _, rfl, ite2 (fun _ => ?_) (fun _ => kk _ _ ⟨Same.refl _, fun z => by cases z⟩)⟩
      refine ⟨_, rfl, by decide, fun u hu' => ⟨_, D.l [], .l (SqL.of (same_of hu' _ _ hm)) ((hru.imp fun b xs e => same_of hu' _ _ e).reps), .l (SqL.of upd_same) .nil, dep_l ks, _, rfl, ?_⟩⟩
      refine kk _ _ ⟨same_of hu', fun z => ?_⟩
      rw [eq_nilD] at z
      simpa using z
    · rintro H2 ⟨s2, hne⟩
      have tw2 := tw.same s2
      obtain ⟨⟨us2, hm2, hru2⟩⟩ := id tw2.ke
      have hl2 := hru2.len
      have hpos : 0 < us2.length := by rw [hl2]; exact List.length_pos_iff.mpr (hne rfl)
      obtain ⟨v, hv, _, hvi⟩ := atI_mem (xs := us2) (i := c / 4 % (us2.length : Int)) (Int.emod_nonneg _ (by omega)) (Int.emod_lt_of_pos _ (by omega))
      obtain ⟨t2, ht2, q2, rfl, hq2⟩ := hru2.get hvi
      have hin2 : t2 ∈ ks := List.mem_of_getElem? ht2
      refine ⟨_, rfl, _, rfl, _, _, rfl, rfl, (by walk_at "m"), _, rfl, m, _, rfl, .inl (SqL.of hm2), _, _, rfl, rfl, (by omega), m, _, _, _, rfl, rfl, SqL.of hm2, hv, ?_⟩
      dsimp only
      obtain ⟨us3, i3, hm3, rp3, ei3, eb3, go3⟩ := rem_at (K := K) tw2 hq2 hin2
      refine ⟨_, rfl, .inl ⟨rfl, _, SqL.of hm2⟩, _, rfl, m, us3, _, _, tD t2, i3, rfl, rfl, hm3, rp3, TupAt.rep ⟨q2, rfl, hq2⟩, Nat.le_trans (deps_tD ks) (by decide), ei3, eb3, ?_⟩
      generalize hH3 : upd H2 m (.lst (us3.eraseIdx i3)) = H3
      obtain ⟨ks', lt3', pm3, al3, hq3, k3'⟩ := go3 H3 hH3.symm
      dsimp only
      obtain ⟨⟨dx3, hp3⟩, _⟩ := id al3
      refine ⟨_, rfl, p, dx3, _, rfl, hp3, noF (by decide +kernel), _, rfl, q2, _, _, _, rfl, rfl, SqT.of hq3, atI_nat (j := 0) rfl, _, rfl, q2, _, _, _, rfl, rfl, SqT.of hq3, atI_nat (j := 1) rfl, _, rfl, q2, _, _, _, rfl, rfl, SqT.of hq3, atI_nat (j := 2) rfl, p, l, rs, _, _, _, rfl, al3, by omega, fun hn => absurd (tw.pm.mem_iff.mp hin2) hn, fun _ rs' H4 al4 pm4 k4 => ⟨rfl, ?_⟩⟩
      have ll : Lsts H3 [l] := fun b hb => by
        rw [List.mem_singleton.mp hb]
        obtain ⟨vs3, e3, _⟩ := al3.ls
        exact ⟨_, e3⟩
      refine q1 rs' ks' H4 ⟨al4, lt3'.chg k4 (by simpa using tw.ne) ll.noT, ?_, tw.ne⟩ (by have := pm4.length_eq; rw [List.length_cons] at this; omega) (((Chg.of s2).trans (k3'.mono (by simp))).trans (k4.mono (by simp)))
      exact ((pm3.trans tw.pm).trans pm4.symm).cons_inv
    · rintro H2 ⟨s2, _⟩
      refine next_to ?_
      dsimp only
      have tw2 := tw.same s2
      obtain ⟨⟨us2, hm2, hru2⟩⟩ := id tw2.ke
      have hq2 := s2 _ _ hq
      refine ⟨_, rfl, _, rfl, m, us2, _, tD t, rfl, SqL.of hm2, hru2.reps, TupAt.rep ⟨q, rfl, hq2⟩, Nat.le_trans (deps_tD ks) (by decide), _, rfl, ?_⟩
      have hany : ((ks.map fun t => tD t).any fun e => eqD e (tD t)) = decide (t ∈ ks) := by
        rw [List.any_map]
        by_cases hin : t ∈ ks
        · rw [decide_eq_true hin, List.any_eq_true]
          exact ⟨t, hin, by show eqD (tD t) (tD t) = true; rw [eq_tD]; simp⟩
        · rw [decide_eq_false hin, List.any_eq_false]
          intro u hu' z
          have z' : eqD (tD u) (tD t) = true := z
          rw [eq_tD] at z'
          exact hin (of_decide_eq_true z' ▸ hu')
      rw [if_neg Bool.false_ne_true, hany]
      by_cases hin : t ∈ ks
      · rw [decide_eq_true hin]
        exact iteT (q1 rs ks H2 tw2 (by omega) (Chg.of s2))
      rw [decide_eq_false hin]
      refine iteF (next_to ?_)
      dsimp only
      have hn : t ∉ rs := fun z => hin (tw.pm.mem_iff.mpr z)
      refine if_use (fun b H' => b = false ∧ ∃ rs1, AlAt C H' p l rs1 ∧ rs1.Perm (t :: rs) ∧ LtAt H' m ks ∧ H' q = some (.tup (trip t)) ∧ Chg [l] H1 H') (fun Q' kk => ?_) ?_ ?_
      · refine ⟨_, rfl, _, rfl, p, l, rs, .ref q, rfl, tw2.al, by omega, .inr ⟨q, t, rfl, hq2, hn⟩, fun H3 s3 => ?_⟩
        refine ⟨rfl, _, rfl, ?_⟩
        rw [decide_eq_true rfl]
        refine iteF ?_
        have tw3 := tw2.same s3
        obtain ⟨⟨dx3, hp3⟩, ⟨vs3, hl3, _⟩, _⟩ := id tw3.al
        have hq3 := s3 _ _ hq2
        refine ⟨_, rfl, p, dx3, _, rfl, hp3, noF (by decide +kernel), _, rfl, q, _, _, _, rfl, rfl, SqT.of hq3, atI_nat (j := 0) rfl, _, rfl, q, _, _, _, rfl, rfl, SqT.of hq3, atI_nat (j := 1) rfl, _, rfl, q, _, _, _, rfl, rfl, SqT.of hq3, atI_nat (j := 2) rfl, p, l, rs, _, _, _, rfl, tw3.al, by omega, fun rs1 H4 al4 pm4 k4 => ⟨rfl, _, rfl, ?_⟩⟩
        have ll : Lsts H3 [l] := fun b hb => ⟨vs3, by rw [List.mem_singleton.mp hb]; exact hl3⟩
        exact kk _ _ ⟨rfl, rs1, al4, pm4, tw3.ke.chg k4 (by simpa using tw.ne) ll.noT, k4 _ _ (fun z => ll.noT _ z _ hq3) hq3, (Chg.of (s2.trans s3)).trans k4⟩
      · rintro H4 ⟨z, _⟩
        cases z
      · rintro H4 ⟨_, rs1, al4, pm4, ke4, hq4, k4⟩
        refine next_to ?_
        dsimp only
        obtain ⟨⟨dx4, hp4⟩, ⟨vs4, hl4, _⟩, _⟩ := id al4
        have l4 := pm4.length_eq
        rw [List.length_cons] at l4
        refine ⟨_, rfl, p, dx4, _, rfl, hp4, noF (by decide +kernel), _, rfl, q, _, _, _, rfl, rfl, SqT.of hq4, atI_nat (j := 0) rfl, _, rfl, q, _, _, _, rfl, rfl, SqT.of hq4, atI_nat (j := 1) rfl, _, rfl, q, _, _, _, rfl, rfl, SqT.of hq4, atI_nat (j := 2) rfl, p, l, rs1, _, _, _, rfl, al4, by omega, fun hn' => absurd (pm4.mem_iff.mpr List.mem_cons_self) hn', fun _ rs2 H5 al5 pm5 k5 => ⟨rfl, _, rfl, iteT ?_⟩⟩
        have ll : Lsts H4 [l] := fun b hb => ⟨vs4, by rw [List.mem_singleton.mp hb]; exact hl4⟩
        have pm2 : rs2.Perm rs := (pm5.trans pm4).cons_inv
        have hq5 := k5 _ _ (fun z => ll.noT _ z _ hq4) hq4
        refine ⟨_, rfl, _, rfl, p, l, rs2, .ref q, rfl, al5, by have := pm2.length_eq; omega, .inr ⟨q, t, rfl, hq5, fun z => hn (pm2.mem_iff.mp z)⟩, fun H6 s6 => ⟨rfl, ?_⟩⟩
        rw [decide_eq_true rfl]
        refine q1 rs2 ks H6 (Two.same ⟨al5, ke4.chg k5 (by simpa using tw.ne) ll.noT, tw.pm.trans pm2.symm, tw.ne⟩ s6) (by have := pm2.length_eq; omega) (((k4.mono (by simp)).trans (k5.mono (by simp))).trans (Chg.of s6))
end
end K08

set_option Elab.async false
set_option linter.all false
set_option maxRecDepth 100000
set_option maxHeartbeats 4000000
set_option pp.maxSteps 600
set_option pp.deepTerms false
namespace K08
open PySem L2 PyProof.Rows
section
variable {P : Program} {w : World} {K : PySem.W.Frag} {mg : Str → Option Value} {base : Heap} {C CN CH : Addr} {D : Nat → Addr} {R : Nat → Prop}
theorem boot_tuple : bootBuiltins "tuple" = some (.type "tuple") := by kernel_rfl
theorem boot_min : bootBuiltins "min" = some (.builtin "min") := by kernel_rfl
/-- the least of the list beside a box is what stands first in the box -/
theorem least_eq {H : Hp} {t : T3} {r ks : List T3} {ts : List Addr} {u : Addr} (sd : Sorted (t :: r)) (pm : ks.Perm (t :: r)) (e : ks = ts.map (kfH H)) (hu : u ∈ ts) (hl : ∀ x ∈ ts, lt3 (kfH H x) (kfH H u) = false) : kfH H u = t := by
  have h1 : kfH H u ∈ t :: r := pm.mem_iff.mp (by rw [e]; exact List.mem_map_of_mem hu)
  have h2 : lt (kfH H u) t = false := by
    rcases List.mem_cons.mp h1 with h | h
    · rw [h]; exact lt_irr _
    · exact (List.pairwise_cons.mp sd).1 _ h
  have h3 : t ∈ ks := pm.mem_iff.mpr List.mem_cons_self
  rw [e] at h3
  obtain ⟨x, hx, ex⟩ := List.mem_map.mp h3
  have h4 : lt t (kfH H u) = false := by rw [← ex, lt_lt3]; exact hl x hx
  exact tot _ _ h2 h4
def spTaken (C : Addr) : Sp := fun vs H Q _ => ∃ (p l m : Addr) (rs ks : List T3), vs = [.ref p, .ref m] ∧ Two C H p l m rs ks ∧ rs.length ≤ 1000 ∧ ∀ rs' ks' H', Two C H' p l m rs' ks' → rs'.length ≤ rs.length + 1 → Chg [l, m] H H' → Q (.bl true) H'
theorem ok_taken (Df : Def K mg "_law_taken" s__law_taken ["_law_box", "_law_kept"]) (T : Txt K mg C CN) (B : B8 mg) (k_refused : Knows P w K mg base 3 "_law_refused" ["_law_box", "_law_alarm_here"] (spRefused C)) (km_take : KnowsM (CX1 P w base) P w K mg base 1 C "take" ["self"] (spTake C CN)) :
    Knows P w K mg base 4 "_law_taken" ["_law_box", "_law_kept"] (spTaken C) := by
  refine Df.ok sc__law_taken (fun vs H Q E h => ?_) (fun f cdv A outer s H vs Q E hr h => ?_)
  · obtain ⟨p, l, m, rs, ks, rfl, _⟩ := h
    rfl
  · obtain ⟨p, l, m, rs, ks, rfl, tw, hlen, q0⟩ := h
    have hu := hr.units
    have hu1 := hu1 hr
    refine ⟨_, by exact (pss_cons (ps_if (pt_cmpR (op_eqD hu) (pv 1) (pe_lst pa_nil) (nomark _)) (pss_one (ps_ret (pe_cmpR op_eq (pe_callM k_refused hr (pa_c (pv 0) (pa_c pe_non pa_nil))) pe_str (nomark _)))) pss_nil)
      (pss_cons (ps_set (i := 2) sc__law_taken.nd rfl (Or.inl rfl) (pe_methM0 km_take T.cl hr passes_none (pv 0)))
      (pss_cons (ps_set (i := 3) sc__law_taken.nd rfl (Or.inl rfl) (pe_bcall (call_minT rfl hu1) rfl B.min boot_min (pa_c (pv 1) pa_nil)))
      (pss_cons (ps_expr (pe_mcall PySem.F.plainAttrs_list PySem.F.slot_list_remove PySem.F.type_list_remove (mt_remove hu) (pv 1) (pa_c (pv 3) pa_nil)))
      (pss_one (ps_ret (pe_and (pe_isiM B.b.isi B.tuple boot_tuple (pv 2)) (pe_one (pe_cmpR (op_eqD hu) (pv 2) (pv 3) (nomark _)))))))))), ?_⟩
    obtain ⟨⟨us, hm, hru⟩⟩ := id tw.ke
    refine ⟨_, rfl, by decide, fun u hu' => ⟨_, D.l [], .l (SqL.of (same_of hu' _ _ hm)) ((hru.imp fun b xs e => same_of hu' _ _ e).reps), .l (SqL.of upd_same) .nil, dep_l ks, _, rfl, ?_⟩⟩
    rw [eq_nilD]
    have s1 := same_of (o := .lst []) hu'
    generalize upd H u (.lst []) = H1 at s1
    have tw1 := tw.same s1
    by_cases hk : ks = []
    · rw [decide_eq_true hk]
      refine iteT ?_
      have hrs : rs = [] := by
        have := tw.pm.length_eq
        rw [hk] at this
        exact List.length_eq_zero_iff.mp this.symm
      refine ⟨_, rfl, p, l, rs, .non, rfl, tw1.al, by omega, .inl ⟨rfl, hrs⟩, fun H2 s2 => ⟨rfl, ?_⟩⟩
      rw [decide_eq_true rfl]
      exact q0 rs ks H2 (tw1.same s2) (by omega) (Chg.of (s1.trans s2))
    rw [decide_eq_false hk]
    refine iteF (next_to ?_)
    dsimp only
    cases rs with
    | nil => exact absurd (List.length_eq_zero_iff.mp tw.pm.length_eq) hk
    | cons t r =>
    obtain ⟨⟨dx, hp⟩, ⟨vs1, hl1, _⟩, sd⟩ := id tw1.al
    refine ⟨_, rfl, p, dx, _, rfl, hp, noF (by decide +kernel), p, l, _, rfl, tw1.al, (fun z => by cases z), fun t1 r1 v1 H2 e1 ht2 al2 k2 => ?_⟩
    cases e1
    obtain ⟨q1, rfl, hq1⟩ := ht2
    dsimp only
    have ll : Lsts H1 [l] := fun b hb => ⟨vs1, by rw [List.mem_singleton.mp hb]; exact hl1⟩
    have ke2 := tw1.ke.chg k2 (by simpa using tw.ne) ll.noT
    obtain ⟨⟨us2, hm2, hru2⟩⟩ := id ke2
    obtain ⟨ts, et, ek, hts⟩ := hru2.refs
    refine ⟨_, rfl, m, ts, kfH H2, rfl, SqL.of (by rw [hm2, et]), hts, (fun z => hk (by rw [ek, z]; rfl)), fun u2 hu2 hl2 => ?_⟩
    have e2 := least_eq sd tw.pm ek hu2 hl2
    have hq2 : H2 u2 = some (.tup (trip t)) := by
      have := hts u2 hu2
      rw [e2] at this
      exact this
    have hin : t ∈ ks := tw.pm.mem_iff.mpr List.mem_cons_self
    have ll2 : ∃ vs2, H2 l = some (.lst vs2) := by
      obtain ⟨vs2, e, _⟩ := al2.ls
      exact ⟨_, e⟩
    have tw2 : LtAt H2 m ks := ke2
    dsimp only
    obtain ⟨i, hi, hbef⟩ := first_at t hin
    refine ⟨_, rfl, .inl ⟨rfl, _, SqL.of hm2⟩, _, rfl, m, us2, _, _, tD t, i, rfl, rfl, hm2, hru2.reps, TupAt.rep ⟨u2, rfl, hq2⟩, Nat.le_trans (deps_tD ks) (by decide), ?_, ?_, ?_⟩
    · rw [List.map_map, List.getElem?_map, hi]
      show some (eqD (tD t) (tD t)) = _
      rw [eq_tD, decide_eq_true rfl]
    · intro j hj
      obtain ⟨u, hu', hne⟩ := hbef j hj
      rw [List.map_map, List.getElem?_map, hu']
      show some (eqD (tD u) (tD t)) = _
      rw [eq_tD, decide_eq_false hne]
    have lm : Lsts H2 [m] := fun b hb => ⟨us2, by rw [List.mem_singleton.mp hb]; exact hm2⟩
    have k3 : Chg [m] H2 (upd H2 m (.lst (us2.eraseIdx i))) := Chg.refl.set (by simp)
    have lt3' : LtAt (upd H2 m (.lst (us2.eraseIdx i))) m (ks.eraseIdx i) := ⟨_, upd_same, (hru2.eraseIdx i).chg k3 lm.noT⟩
    have al3 := al2.chg k3 (al2.noL lm) (by simpa using (Ne.symm tw.ne)) lm.noT
    have h31 := k3 _ _ (fun z => lm.noT _ z _ hq1) hq1
    have h32 := k3 _ _ (fun z => lm.noT _ z _ hq2) hq2
    generalize upd H2 m (.lst (us2.eraseIdx i)) = H3 at k3 lt3' al3 h31 h32
    dsimp only
    refine ⟨_, rfl, _, _, true, rfl, .tup h31, by kernel_rfl, _, rfl, iteT ?_⟩
    refine ⟨_, rfl, _, rfl, tD t, tD t, TupAt.rep ⟨q1, rfl, h31⟩, TupAt.rep ⟨u2, rfl, h32⟩, Nat.le_trans (dep_tD _) (by decide), ?_⟩
    rw [eq_tD, decide_eq_true rfl]
    exact q0 r _ H3 ⟨al3, lt3', ((erase_p hi).trans tw.pm).cons_inv, tw.ne⟩ (by rw [List.length_cons]; omega) (((Chg.of s1).trans (k2.mono (by simp))).trans (k3.mono (by simp)))
def spDeed (C : Addr) : Sp := fun vs H Q _ => ∃ (p l m : Addr) (rs ks : List T3) (c : Int), vs = [.ref p, .ref m, .int c] ∧ Two C H p l m rs ks ∧ rs.length ≤ 1000 ∧ ∀ rs' ks' H', Two C H' p l m rs' ks' → rs'.length ≤ rs.length + 1 → Chg [l, m] H H' → Q (.bl true) H'
theorem ok_deed (Df : Def K mg "_law_deed" s__law_deed ["_law_box", "_law_kept", "_law_cell"]) (T : Txt K mg C CN) (k_alarm : Knows P w K mg base 1 "_law_alarm" ["_law_cell"] spAlarm) (k_dropped : Knows P w K mg base 4 "_law_dropped" ["_law_box", "_law_kept", "_law_cell"] (spDropped C)) (k_taken : Knows P w K mg base 4 "_law_taken" ["_law_box", "_law_kept"] (spTaken C))
    (km_put : KnowsM CX0 P w K mg base 2 C "put" ["self", "turn", "sort", "number"] (spPut C)) : Knows P w K mg base 5 "_law_deed" ["_law_box", "_law_kept", "_law_cell"] (spDeed C) := by
  refine Df.ok sc__law_deed (fun vs H Q E h => ?_) (fun f cdv A outer s H vs Q E hr h => ?_)
  · obtain ⟨p, l, m, rs, ks, c, rfl, _⟩ := h
    rfl
  · obtain ⟨p, l, m, rs, ks, c, rfl, tw, hlen, q0⟩ := h
    refine ⟨_, by exact (pss_cons (ps_if (pt_cmpR op_lt (pe_op op_mod (pv 2) pe_int) pe_int (nomark _)) (pss_cons (ps_set (i := 3) sc__law_deed.nd rfl (Or.inl rfl) (pe_callM k_alarm hr (pa_c (pe_op op_fdiv (pv 2) pe_int) pa_nil)))
      (pss_cons (ps_expr (pe_mcall PySem.F.plainAttrs_list PySem.F.slot_list_append PySem.F.type_list_append mt_append (pv 1) (pa_c (pv 3) pa_nil)))
      (pss_one (ps_ret (pe_cmpR op_isN (pe_methM km_put T.cl hr pass0 (pv 0) (pa_c (pe_ix ix_tup (pv 3) pe_int (fun _ _ => rfl)) (pa_c (pe_ix ix_tup (pv 3) pe_int (fun _ _ => rfl)) (pa_c (pe_ix ix_tup (pv 3) pe_int (fun _ _ => rfl)) pa_nil)))) pe_non (nomark _)))))) pss_nil)
      (pss_cons (ps_if (pt_cmpR op_lt (pe_op op_mod (pv 2) pe_int) pe_int (nomark _)) (pss_one (ps_ret (pe_callM k_dropped hr (pa_c (pv 0) (pa_c (pv 1) (pa_c (pe_op op_fdiv (pv 2) pe_int) pa_nil)))))) pss_nil)
      (pss_one (ps_ret (pe_callM k_taken hr (pa_c (pv 0) (pa_c (pv 1) pa_nil))))))), ?_⟩
    refine ⟨_, rfl, _, _, rfl, rfl, (by walk_at "m"), _, _, rfl, rfl, _, rfl, ite2 (fun _ => ?_) (fun _ => next_to ?_)⟩
    · refine ⟨_, rfl, _, _, rfl, rfl, (by walk_at "m"), c / 7, rfl, fun t q H1 hq0 hq s1 => ?_⟩
      dsimp only
      have tw1 := tw.same s1
      obtain ⟨⟨us1, hm1, hru1⟩⟩ := id tw1.ke
      have hkl : us1.length = rs.length := by rw [hru1.len]; exact tw.pm.length_eq
      refine ⟨_, rfl, .inl ⟨rfl, _, SqL.of hm1⟩, _, rfl, m, us1, .ref q, rfl, rfl, hm1, by rw [hkl]; exact Nat.lt_of_le_of_lt hlen (by decide), ?_⟩
      have lm : Lsts H1 [m] := fun b hb => ⟨us1, by rw [List.mem_singleton.mp hb]; exact hm1⟩
      have k2 : Chg [m] H1 (upd H1 m (.lst (us1 ++ [.ref q]))) := Chg.refl.set (by simp)
      have lt2 : LtAt (upd H1 m (.lst (us1 ++ [.ref q]))) m (ks ++ [t]) := ⟨_, upd_same, (hru1.append (.cons ⟨q, rfl, hq⟩ .nil)).chg k2 lm.noT⟩
      have al2 := tw1.al.chg k2 (tw1.al.noL lm) (by simpa using (Ne.symm tw.ne)) lm.noT
      have hq2 := k2 _ _ (fun z => lm.noT _ z _ hq) hq
      generalize upd H1 m (.lst (us1 ++ [.ref q])) = H2 at k2 lt2 al2 hq2
      dsimp only
      obtain ⟨⟨dx2, hp2⟩, ⟨vs2, hl2, _⟩, _⟩ := id al2
      refine ⟨_, rfl, p, dx2, _, rfl, hp2, noF (by decide +kernel), _, rfl, q, _, _, _, rfl, rfl, SqT.of hq2, atI_nat (j := 0) rfl, _, rfl, q, _, _, _, rfl, rfl, SqT.of hq2, atI_nat (j := 1) rfl, _, rfl, q, _, _, _, rfl, rfl, SqT.of hq2, atI_nat (j := 2) rfl, p, l, rs, _, _, _, rfl, al2, by omega, fun rs1 H4 al4 pm4 k4 => ⟨rfl, ?_⟩⟩
      have ll : Lsts H2 [l] := fun b hb => ⟨vs2, by rw [List.mem_singleton.mp hb]; exact hl2⟩
      refine q0 rs1 (ks ++ [t]) H4 ⟨al4, lt2.chg k4 (by simpa using tw.ne) ll.noT, ?_, tw.ne⟩ (by have := pm4.length_eq; rw [List.length_cons] at this; omega) (((Chg.of s1).trans (k2.mono (by simp))).trans (k4.mono (by simp)))
      exact ((List.perm_append_comm (l₁ := ks) (l₂ := [t])).trans (List.Perm.cons t tw.pm)).trans pm4.symm
    · dsimp only
      refine ⟨_, rfl, _, _, rfl, rfl, (by walk_at "m"), _, _, rfl, rfl, _, rfl, ite2 (fun _ => ?_) (fun _ => next_to ?_)⟩
      · exact ⟨_, rfl, _, rfl, _, rfl, _, _, rfl, rfl, (by walk_at "m"), p, l, m, rs, ks, _, rfl, tw, hlen, q0⟩
      · dsimp only
        exact ⟨_, rfl, _, rfl, p, l, m, rs, ks, rfl, tw, hlen, q0⟩
end
end K08

set_option Elab.async false
set_option linter.all false
set_option maxRecDepth 100000
set_option maxHeartbeats 4000000
set_option pp.maxSteps 600
set_option pp.deepTerms false
namespace K08
open PySem L2 PyProof.Rows
theorem sorted_uniq : ∀ {xs ys : List T3}, Sorted xs → Sorted ys → xs.Perm ys → xs = ys
  | [], ys, _, _, p => (List.nil_perm.mp p).symm
  | x :: xs, [], _, _, p => by have := p.length_eq; simp at this
  | x :: xs, y :: ys, sx, sy, p => by
    have h1 : lt y x = false := by
      have : y ∈ x :: xs := p.mem_iff.mpr List.mem_cons_self
      rcases List.mem_cons.mp this with h | h
      · rw [h]; exact lt_irr _
      · exact (List.pairwise_cons.mp sx).1 y h
    have h2 : lt x y = false := by
      have : x ∈ y :: ys := p.mem_iff.mp List.mem_cons_self
      rcases List.mem_cons.mp this with h | h
      · rw [h]; exact lt_irr _
      · exact (List.pairwise_cons.mp sy).1 x h
    obtain rfl := tot _ _ h1 h2
    rw [sorted_uniq (List.pairwise_cons.mp sx).2 (List.pairwise_cons.mp sy).2 p.cons_inv]
theorem eqD_self (ks : List T3) : eqD (D.l (ks.map fun t => tD t)) (D.l (ks.map fun t => tD t)) = true := by
  rw [eqD_l]
  induction ks with
  | nil => simp [eqDs]
  | cons t r ih => simp only [List.map_cons, eqDs, eq_tD, decide_true, Bool.true_and]; exact ih
/-- what was told and then changed -/
def PairOk (H : Hp) (S : List Addr) (t : Addr) : Prop := ∃ (a b : Addr) (vs : List V) (ts : List T3), H t = some (.tup [.ref a, .ref b]) ∧ a ∉ S ∧ b ∉ S ∧ H a = some (.lst vs) ∧ H b = some (.lst vs) ∧ Rws H vs ts
structure HeldAt (H : Hp) (S : List Addr) (hl : Addr) (n : Nat) : Prop where
  ex : ∃ ts : List Addr, H hl = some (.lst (ts.map V.ref)) ∧ ts.length ≤ n ∧ ∀ t ∈ ts, PairOk H S t
theorem PairOk.chg {S S' : List Addr} {H H' : Hp} {t : Addr} (h : PairOk H S t) (k : Chg S' H H') (hS : ∀ b ∈ S', b ∈ S) (n : Lsts H S') : PairOk H' S t := by
  obtain ⟨a, b, vs, ts, h1, h2, h3, h4, h5, h6⟩ := h
  exact ⟨a, b, vs, ts, k _ _ (fun z => n.noT _ z _ h1) h1, h2, h3, k _ _ (fun z => h2 (hS a z)) h4, k _ _ (fun z => h3 (hS b z)) h5, h6.chg k n.noT⟩
theorem HeldAt.chg {S S' : List Addr} {H H' : Hp} {hl : Addr} {n : Nat} (h : HeldAt H S hl n) (k : Chg S' H H') (hS : ∀ b ∈ S', b ∈ S) (ns : Lsts H S') (hh : hl ∉ S') : HeldAt H' S hl n := by
  obtain ⟨ts, h1, h2, h3⟩ := h
  exact ⟨ts, k _ _ hh h1, h2, fun t ht => (h3 t ht).chg k hS ns⟩
theorem HeldAt.same {S : List Addr} {H H' : Hp} {hl : Addr} {n : Nat} (h : HeldAt H S hl n) (s : Same H H') : HeldAt H' S hl n := h.chg (S' := []) (Chg.of s) (fun b hb => by cases hb) (fun b hb => by cases hb) (by simp)
theorem HeldAt.more {S : List Addr} {H : Hp} {hl : Addr} {n n' : Nat} (h : HeldAt H S hl n) (hle : n ≤ n') : HeldAt H S hl n' := by
  obtain ⟨ts, h1, h2, h3⟩ := h
  exact ⟨ts, h1, Nat.le_trans h2 hle, h3⟩
theorem Lsts.fresh {H : Hp} {S : List Addr} (h : Lsts H S) {a : Addr} (ha : H a = none) : a ∉ S := fun z => by
  obtain ⟨xs, e⟩ := h a z
  rw [ha] at e; cases e
section
variable {P : Program} {w : World} {K : PySem.W.Frag} {mg : Str → Option Value} {base : Heap} {C CN CH : Addr} {D : Nat → Addr} {R : Nat → Prop}
def spAsked (C : Addr) : Sp := fun vs H Q _ => ∃ (p l m hl : Addr) (S : List Addr) (rs ks : List T3) (way n : Nat), vs = [.ref p, .ref m, .int (way : Int), .ref hl] ∧ Two C H p l m rs ks ∧ rs.length ≤ 1000 ∧ way < 3 ∧ Lsts H S ∧ hl ∈ S ∧ hl ≠ l ∧ hl ≠ m ∧ HeldAt H S hl n ∧ n < 100000 ∧
  ∀ H', Chg [hl] H H' → HeldAt H' S hl (n + 1) → Q (.bl true) H'
theorem ok_asked (Df : Def K mg "_law_asked" s__law_asked ["_law_box", "_law_kept", "_law_way", "_law_held"]) (T : Txt K mg C CN) (B : B8 mg) (k_whole : Knows P w K mg base 1 "_law_whole" ["_law_found"] spWhole)
    (km_first : KnowsM CX0 P w K mg base 1 C "first" ["self"] (spFirst C)) (km_many : KnowsM CX0 P w K mg base 1 C "many" ["self"] (spMany C)) (km_rows : KnowsM CX0 P w K mg base 1 C "rows" ["self"] (spRows C)) :
    Knows P w K mg base 2 "_law_asked" ["_law_box", "_law_kept", "_law_way", "_law_held"] (spAsked C) := by
  refine Df.ok sc__law_asked (fun vs H Q E h => ?_) (fun f cdv A outer s H vs Q E hr h => ?_)
  · obtain ⟨p, l, m, hl, S, rs, ks, way, n, rfl, _⟩ := h
    rfl
  · obtain ⟨p, l, m, hl, S, rs, ks, way, n, rfl, tw, hlen, hw, ls, hS, hhl, hhm, he, hn, q0⟩ := h
    have hu := hr.units
    have hu1 := hu1 hr
    refine ⟨_, by exact (pss_cons (ps_if (pt_cmpR op_eq (pv 2) pe_int (nomark _)) (pss_one (ps_ret (pe_cmpR (op_eqD hu) (pe_methM0 km_first T.cl hr pass0 (pv 0)) (pe_ifExp (pt_cmpR (op_neD hu) (pv 1) (pe_lst pa_nil) (nomark _)) (pe_bcall (call_minT rfl hu1) rfl B.min boot_min (pa_c (pv 1) pa_nil)) pe_non) (nomark _)))) pss_nil)
      (pss_cons (ps_if (pt_cmpR op_eq (pv 2) pe_int (nomark _)) (pss_cons (ps_set (i := 4) sc__law_asked.nd rfl (Or.inl rfl) (pe_methM0 km_many T.cl hr pass0 (pv 0)))
      (pss_one (ps_ret (pe_and (pe_callM k_whole hr (pa_c (pv 4) pa_nil)) (pe_one (pe_cmpR op_eq (pv 4) (pe_bcall call_len_seq rfl B.b.len PySem.boot_len (pa_c (pv 1) pa_nil)) (nomark _))))))) pss_nil)
      (pss_cons (ps_set (i := 4) sc__law_asked.nd rfl (Or.inl rfl) (pe_methM0 km_rows T.cl hr pass0 (pv 0)))
      (pss_cons (ps_if (PW.pt (pw_or (pt_not (pt_val (pe_isiM B.b.isi B.b.list boot_list (pv 4)))) (pw_or1 (pt_cmpR (op_neD hu) (pv 4) (pe_bcall call_sortedT rfl B.sorted boot_sorted' (pa_c (pv 1) pa_nil)) (nomark _))))) (pss_one (ps_ret pe_bl)) pss_nil)
      (pss_cons (ps_if (pt_cmpR (op_neD hu) (pe_comp1 [] ["_law_one"] rfl (pi_list (pv 4)) (fun _ _ _ _ => pts_one (pt_not (pt_val (pe_isiC (K0 := K) rfl B.b.isi B.tuple boot_tuple (pv 0))))) (fun _ _ _ _ => (pv 0))) (pe_lst pa_nil) (nomark _)) (pss_one (ps_ret pe_bl)) pss_nil)
      (pss_cons (ps_expr (pe_mcall PySem.F.plainAttrs_list PySem.F.slot_list_append PySem.F.type_list_append mt_append (pv 4) (pa_c (pe_tup (pa_c pe_int (pa_c pe_int (pa_c (pe_un un_neg pe_int) pa_nil)))) pa_nil)))
      (pss_cons (ps_expr (pe_mcall PySem.F.plainAttrs_list PySem.F.slot_list_append PySem.F.type_list_append mt_append (pv 3) (pa_c (pe_tup (pa_c (pv 4) (pa_c (pe_tcall call_list_of rfl B.b.list boot_list (pa_c (pv 4) pa_nil)) pa_nil))) pa_nil)))
      (pss_one (ps_ret pe_bl))))))))), ?_⟩
    have fin : ∀ H', Same H H' → Q (.bl true) H' := fun H' s' => q0 H' (Chg.of s') ((he.same s').more (Nat.le_succ _))
    obtain ⟨⟨dx, hp⟩, ⟨vs0, hl0, hr0⟩, sd⟩ := id tw.al
    obtain ⟨⟨us, hm, hru⟩⟩ := id tw.ke
    match way, hw with
    | 0, _ =>
      refine ⟨_, rfl, rfl, _, rfl, iteT ?_⟩
      cases hrs : rs with
      | nil =>
        have hks : ks = [] := by
          have := tw.pm.length_eq
          rw [hrs] at this
          exact List.length_eq_zero_iff.mp this
        refine ⟨_, rfl, p, dx, _, rfl, hp, noF (by decide +kernel), p, l, rs, rfl, tw.al, fun _ => ?_, fun t r v e => by rw [hrs] at e; cases e⟩
        refine ⟨_, rfl, by decide, fun u hu' => ⟨_, L2.D.l [], .l (SqL.of (same_of hu' _ _ hm)) ((hru.imp fun b xs e => same_of hu' _ _ e).reps), .l (SqL.of upd_same) .nil, dep_l ks, _, rfl, ?_⟩⟩
        rw [eq_nilD, decide_eq_true hks]
        refine iteF ⟨.a .non, .a .non, .a rfl, .a rfl, by simp [depD], ?_⟩
        exact fin _ (same_of hu')
      | cons t r =>
        have hks : ks ≠ [] := fun z => by
          have := tw.pm.length_eq
          rw [hrs, z] at this
          simp at this
        refine ⟨_, rfl, p, dx, _, rfl, hp, noF (by decide +kernel), p, l, rs, rfl, tw.al, (fun z => by rw [hrs] at z; cases z), fun t1 r1 v e ht => ?_⟩
        rw [hrs] at e
        cases e
        refine ⟨_, rfl, by decide, fun u hu' => ⟨_, L2.D.l [], .l (SqL.of (same_of hu' _ _ hm)) ((hru.imp fun b xs e => same_of hu' _ _ e).reps), .l (SqL.of upd_same) .nil, dep_l ks, _, rfl, ?_⟩⟩
        rw [eq_nilD, decide_eq_false hks]
        refine iteT ?_
        have s1 := same_of (o := .lst []) hu'
        generalize upd H u (.lst []) = H1 at s1
        have hru1 : Rws H1 us ks := hru.imp fun b xs e => s1 _ _ e
        obtain ⟨ts, et, ek, hts⟩ := hru1.refs
        refine ⟨_, rfl, m, ts, kfH H1, rfl, SqL.of (by rw [s1 _ _ hm, et]), hts, (fun z => hks (by rw [ek, z]; rfl)), fun u2 hu2 hl2 => ?_⟩
        have e2 := least_eq (t := t) (r := r) (by rw [← hrs]; exact sd) (by rw [← hrs]; exact tw.pm) ek hu2 hl2
        have hq2 : H1 u2 = some (.tup (trip t)) := by
          have := hts u2 hu2
          rw [e2] at this
          exact this
        obtain ⟨q1, rfl, hq1⟩ := ht
        refine ⟨tD t, tD t, TupAt.rep ⟨q1, rfl, s1 _ _ hq1⟩, TupAt.rep ⟨u2, rfl, hq2⟩, Nat.le_trans (dep_tD _) (by decide), ?_⟩
        rw [eq_tD, decide_eq_true rfl]
        exact fin _ s1
    | 1, _ =>
      refine ⟨_, rfl, rfl, _, rfl, iteF (next_to ?_)⟩
      dsimp only
      refine ⟨_, rfl, rfl, _, rfl, iteT ?_⟩
      refine ⟨_, rfl, p, dx, _, rfl, hp, noF (by decide +kernel), p, l, rs, rfl, tw.al, ?_⟩
      dsimp only
      refine ⟨_, rfl, _, rfl, _, rfl, iteT ?_⟩
      refine ⟨_, rfl, _, rfl, m, _, rfl, .inl (SqL.of hm), rfl, ?_⟩
      rw [hru.len, tw.pm.length_eq, decide_eq_true rfl]
      exact fin _ (Same.refl _)
    | 2, _ =>
      refine ⟨_, rfl, rfl, _, rfl, iteF (next_to ?_)⟩
      dsimp only
      refine ⟨_, rfl, rfl, _, rfl, iteF (next_to ?_)⟩
      dsimp only
      refine ⟨_, rfl, p, dx, _, rfl, hp, noF (by decide +kernel), p, l, rs, rfl, tw.al, fun a vs H1 ha s1 ea ra => ?_⟩
      dsimp only
      have hvl := ra.len
      refine stm_use (fun σ' H' => Same H1 H' ∧ σ' = [some (.ref p), some (.ref m), some (.int ((2 : Nat) : Int)), some (.ref hl), some (.ref a)]) (fun Q' kk => ?_) ?_
      · refine ⟨_, rfl, _, _, true, rfl, .lst ea, isiLL, _, rfl, iteF ?_⟩
        have hru1 : Rws H1 us ks := hru.imp fun b xs e => s1 _ _ e
        obtain ⟨ts, et, ek, hts⟩ := hru1.refs
        refine ⟨_, rfl, _, rfl, m, ts, kfH H1, rfl, SqL.of (by rw [s1 _ _ hm, et]), hts, fun Dd out hD pm pw => ?_⟩
        have s2 : Same H1 (upd H1 Dd (.lst (out.map V.ref))) := same_of hD
        have ed : (upd H1 Dd (.lst (out.map V.ref))) Dd = some (.lst (out.map V.ref)) := upd_same
        generalize upd H1 Dd (.lst (out.map V.ref)) = H2 at s2 ed
        have ro : ∀ o : List Addr, (∀ x ∈ o, x ∈ ts) → Rws H2 (o.map V.ref) (o.map (kfH H1)) := fun o => by
          induction o with
          | nil => intro _; exact .nil
          | cons x r ih => intro h; exact .cons ⟨x, rfl, s2 _ _ (hts x (h x (by simp)))⟩ (ih fun y hy => h y (by simp [hy]))
        have ho := ro out fun x hx => pm.mem_iff.mp hx
        have eq : rs = out.map (kfH H1) := by
          refine sorted_uniq sd ?_ ?_
          · show List.Pairwise _ _
            rw [List.pairwise_map]
            exact pw.imp fun {x y} h => by rw [lt_lt3]; exact h
          · exact tw.pm.symm.trans (by rw [ek]; exact (pm.map _).symm)
        refine ⟨_, _, .l (SqL.of (s2 _ _ ea)) ((ra.imp fun b xs e => s2 _ _ e).reps), .l (SqL.of ed) ho.reps, dep_l rs, _, rfl, ?_⟩
        rw [← eq, eqD_self]
        exact iteF (kk _ _ ⟨s2, rfl⟩)
      rintro _ H2 ⟨s2, rfl⟩
      have s02 := s1.trans s2
      have ea2 := s2 _ _ ea
      have ra2 : Rws H2 vs rs := ra.imp fun b xs e => s2 _ _ e
      refine stm_use (fun σ' H' => Same H2 H' ∧ σ' = [some (.ref p), some (.ref m), some (.int ((2 : Nat) : Int)), some (.ref hl), some (.ref a)]) (fun Q' kk => ?_) ?_
      · refine ⟨_, rfl, a, rfl, ⟨_, SqL.of ea2⟩, ?_⟩
        refine comp1_wk (wk_list K a vs) (fun i ys H3 => H3 = H2 ∧ ys = []) ⟨rfl, rfl⟩ (fun i ys H3 _ h => ⟨by rw [h.1]; exact SqL.of ea2, by rw [h.2]; exact Nat.zero_le _⟩) (by rw [hvl]; exact Nat.le_trans hlen (by decide)) ?_ ?_
        · rintro i x ys H3 Nx hx ⟨rfl, rfl⟩ hNx
          obtain ⟨t, ht, q1, rfl, hq1⟩ := ra2.get hx
          exact ⟨_, rfl, _, _, true, rfl, .tup hq1, by kernel_rfl, _, rfl, iteF (hNx _ _ ⟨rfl, rfl⟩)⟩
        · rintro ys H3 ⟨rfl, rfl⟩ Dd hD
          have s3 : Same H3 (upd H3 Dd (.lst [])) := same_of hD
          have ed : (upd H3 Dd (.lst [])) Dd = some (.lst []) := upd_same
          generalize upd H3 Dd (.lst []) = H4 at s3 ed
          refine ⟨by decide, fun D2 hD2 => ⟨L2.D.l [], L2.D.l [], .l (SqL.of (same_of hD2 _ _ ed)) .nil, .l (SqL.of upd_same) .nil, by simp [depD, depDs], _, rfl, ?_⟩⟩
          rw [eqD_l]
          exact iteF (kk _ _ ⟨s3.trans (same_of hD2), rfl⟩)
      rintro _ H3 ⟨s3, rfl⟩
      have s03 := s02.trans s3
      have ea3 := s3 _ _ ea2
      have ra3 : Rws H3 vs rs := ra2.imp fun b xs e => s3 _ _ e
      have haH : H a = none := ha
      refine ⟨_, rfl, .inl ⟨rfl, _, SqL.of ea3⟩, _, rfl, by show 3 ≤ sizeLine; decide, fun tq htq => ?_⟩
      have s4 : Same H3 (upd H3 tq (.tup [.int 0, .int 0, .int (-1)])) := same_of htq
      have et4 : (upd H3 tq (.tup [.int 0, .int 0, .int (-1)])) tq = some (.tup (trip (0, 0, -1))) := upd_same
      generalize upd H3 tq (.tup [.int 0, .int 0, .int (-1)]) = H4 at s4 et4
      refine ⟨a, vs, .ref tq, rfl, rfl, s4 _ _ ea3, by rw [hvl]; exact Nat.lt_of_le_of_lt hlen (by decide), ?_⟩
      have la : Lsts H4 [a] := fun b hb => ⟨vs, by rw [List.mem_singleton.mp hb]; exact s4 _ _ ea3⟩
      have k5 : Chg [a] H4 (upd H4 a (.lst (vs ++ [.ref tq]))) := Chg.refl.set (by simp)
      have ea5 : (upd H4 a (.lst (vs ++ [.ref tq]))) a = some (.lst (vs ++ [.ref tq])) := upd_same
      have ra5 : Rws (upd H4 a (.lst (vs ++ [.ref tq]))) (vs ++ [.ref tq]) (rs ++ [(0, 0, -1)]) := ((ra3.imp fun b xs e => s4 _ _ e).append (.cons ⟨tq, rfl, et4⟩ .nil)).chg k5 la.noT
      have s5 : Same H (upd H4 a (.lst (vs ++ [.ref tq]))) := fun b o e => k5 b o (fun z => by rw [List.mem_singleton.mp z, haH] at e; cases e) (s4 _ _ (s03 _ _ e))
      generalize upd H4 a (.lst (vs ++ [.ref tq])) = H5 at k5 ea5 ra5 s5
      dsimp only
      obtain ⟨hs, eh, hsl, hso⟩ := (he.same s5).ex
      refine ⟨_, rfl, .inl ⟨rfl, _, SqL.of eh⟩, _, rfl, _, rfl, a, _, rfl, .inl (SqL.of ea5), fun b hb => ?_⟩
      have s6 : Same H5 (upd H5 b (.lst (vs ++ [.ref tq]))) := same_of hb
      have eb6 : (upd H5 b (.lst (vs ++ [.ref tq]))) b = some (.lst (vs ++ [.ref tq])) := upd_same
      generalize upd H5 b (.lst (vs ++ [.ref tq])) = H6 at s6 eb6
      have hbH : H b = none := s5.free hb
      refine ⟨by show 2 ≤ sizeLine; decide, fun tt htt => ?_⟩
      have s7 : Same H6 (upd H6 tt (.tup [.ref a, .ref b])) := same_of htt
      have et7 : (upd H6 tt (.tup [.ref a, .ref b])) tt = some (.tup [.ref a, .ref b]) := upd_same
      generalize upd H6 tt (.tup [.ref a, .ref b]) = H7 at s7 et7
      have s57 := s6.trans s7
      have s07 := s5.trans s57
      refine ⟨hl, _, .ref tt, rfl, rfl, s57 _ _ eh, by rw [List.length_map]; exact Nat.lt_of_le_of_lt hsl (Nat.lt_of_lt_of_le hn (by decide)), ?_⟩
      have lh : Lsts H7 [hl] := fun x hx => ⟨hs.map V.ref, by rw [List.mem_singleton.mp hx]; exact s57 _ _ eh⟩
      have k8 : Chg [hl] H7 (upd H7 hl (.lst (hs.map V.ref ++ [.ref tt]))) := Chg.refl.set (by simp)
      have hah : a ∉ [hl] := by
        intro z
        rw [List.mem_singleton.mp z] at haH
        exact ls.fresh haH hS
      have hbh : b ∉ [hl] := by
        intro z
        rw [List.mem_singleton.mp z] at hbH
        exact ls.fresh hbH hS
      refine q0 _ ((Chg.of s07).trans k8) ⟨hs ++ [tt], by rw [upd_same, List.map_append]; rfl, by rw [List.length_append]; simp; exact hsl, fun x hx => ?_⟩
      rcases List.mem_append.mp hx with h | h
      · exact (PairOk.chg (S' := []) (hso x h) (Chg.of s57) (fun b hb => by cases hb) (fun b hb => by cases hb)).chg k8 (fun y hy => by rw [List.mem_singleton.mp hy]; exact hS) lh
      · rw [List.mem_singleton.mp h]
        exact ⟨a, b, vs ++ [.ref tq], rs ++ [(0, 0, -1)], k8 _ _ (fun z => lh.noT _ z _ et7) et7, ls.fresh haH, ls.fresh hbH, k8 _ _ hah (s57 _ _ ea5), k8 _ _ hbh (s7 _ _ eb6), (ra5.imp fun b xs e => s57 _ _ e).chg k8 lh.noT⟩
end
end K08

set_option Elab.async false
set_option linter.all false
set_option maxRecDepth 100000
set_option maxHeartbeats 4000000
set_option pp.maxSteps 600
set_option pp.deepTerms false
namespace K08
open PySem L2 PyProof.Rows
/-- the script: changed by nothing here -/
def Scr (K : PySem.W.Frag) (H : Hp) (a : Addr) (S : List Addr) (xs : List V) : Prop := (Rd H a (.lst xs) ∧ a ∉ S) ∨ ∀ H', SqL K H' a xs
theorem Scr.sq {K : PySem.W.Frag} {H : Hp} {a : Addr} {S : List Addr} {xs : List V} (h : Scr K H a S xs) : SqL K H a xs := by
  rcases h with h | h
  · exact .inl h.1
  · exact h H
theorem Scr.chg {K : PySem.W.Frag} {H H' : Hp} {a : Addr} {S S' : List Addr} {xs : List V} (h : Scr K H a S xs) (c : Chg S' H H') (hs : ∀ b ∈ S', b ∈ S) : Scr K H' a S xs := by
  rcases h with ⟨h, n⟩ | h
  · refine .inl ⟨?_, n⟩
    rcases h with h | ⟨o, h⟩
    · exact .inl (c _ _ (fun z => n (hs a z)) h)
    · exact .inr ⟨o, c _ _ (fun z => n (hs a z)) h⟩
  · exact .inr h
theorem Scr.same {K : PySem.W.Frag} {H H' : Hp} {a : Addr} {S : List Addr} {xs : List V} (h : Scr K H a S xs) (s : Same H H') : Scr K H' a S xs := h.chg (S' := []) (Chg.of s) (fun b hb => by cases hb)
/-- the lists that change -/
abbrev mu8 (l k : Nat → Addr) (hl : Addr) : List Addr := [l 0, l 1, k 0, k 1, hl]
structure Sp8 (l k : Nat → Addr) (hl bs kk : Addr) : Prop where
  ll : l 0 ≠ l 1
  kk' : k 0 ≠ k 1
  lk : ∀ i j, i < 2 → j < 2 → l i ≠ k j
  hL : ∀ i, i < 2 → hl ≠ l i
  hK : ∀ i, i < 2 → hl ≠ k i
  bs : bs ∉ mu8 l k hl
  kks : kk ∉ mu8 l k hl
theorem two_cases {i : Nat} (h : i < 2) : i = 0 ∨ i = 1 := by omega
theorem Sp8.l_ne {l k : Nat → Addr} {hl bs kk : Addr} (s : Sp8 l k hl bs kk) {i j : Nat} (hi : i < 2) (hj : j < 2) (h : j ≠ i) : l j ∉ [l i, k i] ∧ k j ∉ [l i, k i] := by
  have a1 := s.lk j i hj hi
  have a2 := s.lk i j hi hj
  have h1 : l j ≠ l i := by
    rcases two_cases hi with rfl | rfl <;> rcases two_cases hj with rfl | rfl
    · exact absurd rfl h
    · exact Ne.symm s.ll
    · exact s.ll
    · exact absurd rfl h
  have h2 : k j ≠ k i := by
    rcases two_cases hi with rfl | rfl <;> rcases two_cases hj with rfl | rfl
    · exact absurd rfl h
    · exact Ne.symm s.kk'
    · exact s.kk'
    · exact absurd rfl h
  simp only [List.mem_cons, List.not_mem_nil, or_false, not_or]
  exact ⟨⟨h1, a1⟩, Ne.symm a2, h2⟩
theorem in_mu {l k : Nat → Addr} {hl : Addr} {i : Nat} (hi : i < 2) : ∀ b ∈ [l i, k i], b ∈ mu8 l k hl := fun b hb => by
  simp only [List.mem_cons, List.not_mem_nil, or_false] at hb ⊢
  rcases two_cases hi with rfl | rfl <;> rcases hb with rfl | rfl <;> simp
theorem hl_mu {l k : Nat → Addr} {hl : Addr} : ∀ b ∈ [hl], b ∈ mu8 l k hl := fun b hb => by
  rw [List.mem_singleton.mp hb]
  simp
/-- both boxes, the lists beside them, the lists told -/
structure All8 (C : Addr) (H : Hp) (p l k : Nat → Addr) (rs ks : Nat → List T3) (hl bs kk : Addr) (n : Nat) : Prop where
  t : ∀ i, i < 2 → Two C H (p i) (l i) (k i) (rs i) (ks i)
  bs : H bs = some (.lst [.ref (p 0), .ref (p 1)])
  kk : H kk = some (.lst [.ref (k 0), .ref (k 1)])
  he : HeldAt H (mu8 l k hl) hl n
def put8 (m : Nat → List T3) (i : Nat) (x : List T3) : Nat → List T3 := fun j => if j = i then x else m j
section
variable {C : Addr} {H H' : Hp} {p l k : Nat → Addr} {rs ks : Nat → List T3} {hl bs kk : Addr} {n n' : Nat}
theorem All8.lsts (A : All8 C H p l k rs ks hl bs kk n) : Lsts H (mu8 l k hl) := fun b hb => by
  have t0 := (A.t 0 (by decide)).lsts
  have t1 := (A.t 1 (by decide)).lsts
  obtain ⟨ts, e, _⟩ := A.he.ex
  simp only [List.mem_cons, List.not_mem_nil, or_false] at hb
  rcases hb with rfl | rfl | rfl | rfl | rfl
  · exact t0 _ (by simp)
  · exact t1 _ (by simp)
  · exact t0 _ (by simp)
  · exact t1 _ (by simp)
  · exact ⟨_, e⟩
theorem All8.same (A : All8 C H p l k rs ks hl bs kk n) (s : Same H H') : All8 C H' p l k rs ks hl bs kk n := ⟨fun i hi => (A.t i hi).same s, s _ _ A.bs, s _ _ A.kk, A.he.same s⟩
theorem All8.more (A : All8 C H p l k rs ks hl bs kk n) (h : n ≤ n') : All8 C H p l k rs ks hl bs kk n' := ⟨A.t, A.bs, A.kk, A.he.more h⟩
theorem All8.step (A : All8 C H p l k rs ks hl bs kk n) (S : Sp8 l k hl bs kk) {i : Nat} (hi : i < 2) {rs' ks' : List T3} (c : Chg [l i, k i] H H') (ti : Two C H' (p i) (l i) (k i) rs' ks') : All8 C H' p l k (put8 rs i rs') (put8 ks i ks') hl bs kk n := by
  have ln := (A.t i hi).lsts
  refine ⟨fun j hj => ?_, c _ _ (fun z => S.bs (in_mu hi _ z)) A.bs, c _ _ (fun z => S.kks (in_mu hi _ z)) A.kk, A.he.chg c (in_mu hi) ln (by
    simp only [List.mem_cons, List.not_mem_nil, or_false, not_or]
    exact ⟨S.hL i hi, S.hK i hi⟩)⟩
  unfold put8
  by_cases h : j = i
  · rw [if_pos h, if_pos h, h]
    exact ti
  · rw [if_neg h, if_neg h]
    obtain ⟨a, b⟩ := S.l_ne hi hj h
    exact (A.t j hj).chg c ln a b
theorem All8.asked (A : All8 C H p l k rs ks hl bs kk n) (S : Sp8 l k hl bs kk) (c : Chg [hl] H H') (he : HeldAt H' (mu8 l k hl) hl n') : All8 C H' p l k rs ks hl bs kk n' := by
  have ln : Lsts H [hl] := fun b hb => A.lsts b (hl_mu b hb)
  refine ⟨fun i hi => (A.t i hi).chg c ln (by simpa using (Ne.symm (S.hL i hi))) (by simpa using (Ne.symm (S.hK i hi))), c _ _ (fun z => S.bs (hl_mu _ z)) A.bs, c _ _ (fun z => S.kks (hl_mu _ z)) A.kk, he⟩
end
theorem two_at {p : Nat → Addr} (c : Int) : ∃ i : Nat, i < 2 ∧ c % 2 = (i : Int) ∧ ∀ p : Nat → Addr, atI [V.ref (p 0), V.ref (p 1)] (c % 2) = some (.ref (p i)) := by
  have h0 := Int.emod_nonneg c (show (2 : Int) ≠ 0 by decide)
  have h1 := Int.emod_lt_of_pos c (show (0 : Int) < 2 by decide)
  have : c % 2 = 0 ∨ c % 2 = 1 := by omega
  rcases this with e | e
  · exact ⟨0, by decide, e, fun p => by rw [e]; exact atI_nat (j := 0) rfl⟩
  · exact ⟨1, by decide, e, fun p => by rw [e]; exact atI_nat (j := 1) rfl⟩
section
variable {P : Program} {w : World} {K : PySem.W.Frag} {mg : Str → Option Value} {base : Heap} {C CN CH : Addr}
def spLooked (K : PySem.W.Frag) (C : Addr) : Sp := fun vs H Q _ => ∃ (p l k : Nat → Addr) (rs ks : Nat → List T3) (hl bs kk : Addr) (n : Nat) (c : Int) (a : Addr) (xs : List V), vs = [.ref bs, .ref kk, .int c, .ref hl] ∧ All8 C H p l k rs ks hl bs kk n ∧ Sp8 l k hl bs kk ∧ (∀ i, i < 2 → (rs i).length ≤ 1000) ∧ n + 6 < 100000 ∧ Scr K H a (mu8 l k hl) xs ∧
  ∀ H', All8 C H' p l k rs ks hl bs kk (n + 6) → Scr K H' a (mu8 l k hl) xs → Q (.bl true) H'
theorem ok_looked (Df : Def K mg "_law_looked" s__law_looked ["_law_boxes", "_law_kept", "_law_cell", "_law_held"]) (B : B8 mg) (k_asked : Knows P w K mg base 2 "_law_asked" ["_law_box", "_law_kept", "_law_way", "_law_held"] (spAsked C)) :
    Knows P w K mg base 3 "_law_looked" ["_law_boxes", "_law_kept", "_law_cell", "_law_held"] (spLooked K C) := by
  refine Df.ok sc__law_looked (fun vs H Q E h => ?_) (fun f cdv A outer s H vs Q E hr h => ?_)
  · obtain ⟨p, l, k, rs, ks, hl, bs, kk, n, c, a, xs, rfl, _⟩ := h
    rfl
  · obtain ⟨p, l, k, rs, ks, hl, bs, kk, n, c, a, xs, rfl, A0, sep, hlen, hn, sc, q⟩ := h
    refine ⟨_, by exact (pss_cons (ps_if (pt_cmpR op_eq (pe_op op_mod (pv 2) pe_int) pe_int (nomark _)) (pss_one (ps_ret pe_bl)) pss_nil)
      (pss_cons (ps_for PassesOwn.never rfl (pi_range1 rfl B.b.range (pa_c pe_int pa_nil)) (pg_name (i := 4) sc__law_looked.nd rfl (Or.inl rfl)) (pss_cons (ps_set (i := 5) sc__law_looked.nd rfl (Or.inl rfl) (pe_op op_mod (pe_op op_add (pe_op op_fdiv (pv 2) pe_int) (pe_op op_mul (pv 4) (pe_ix ix_list (pe_lst (pa_c pe_int (pa_c pe_int pa_nil))) (pe_op op_mod (pe_op op_fdiv (pv 2) pe_int) pe_int) (fun _ _ => rfl)))) pe_int))
      (pss_one (ps_if (pt_not (pt_val (pe_callM k_asked hr (pa_c (pe_ix ix_list (pv 0) (pe_op op_mod (pv 5) pe_int) (fun _ _ => rfl)) (pa_c (pe_ix ix_list (pv 1) (pe_op op_mod (pv 5) pe_int) (fun _ _ => rfl)) (pa_c (pe_op op_fdiv (pv 5) pe_int) (pa_c (pv 3) pa_nil))))))) (pss_one (ps_ret pe_bl)) pss_nil))))
      (pss_one (ps_ret pe_bl)))), ?_⟩
    refine ⟨_, rfl, _, _, rfl, rfl, by walk_at "m", rfl, _, rfl, ite2 (fun _ => q H (A0.more (by omega)) sc) (fun _ => next_to ?_)⟩
    dsimp only
    refine ⟨6, rfl, by decide, by decide, ?_⟩
    refine for_range (n := 6) (fun i σ H' => All8 C H' p l k rs ks hl bs kk (n + i) ∧ Scr K H' a (mu8 l k hl) xs ∧ ∃ v4 v5, σ = [some (.ref bs), some (.ref kk), some (.int c), some (.ref hl), v4, v5]) ⟨A0, sc, _, _, rfl⟩ ?_ (fun σ H1 h => q _ h.1 h.2.1)
    rintro i σ H1 hi ⟨A1, sc1, v4, v5, rfl⟩
    refine ⟨_, rfl, _, _, rfl, rfl, by walk_at "m", _, rfl, by show 2 ≤ sizeLine; decide, fun u hu' => ?_⟩
    have s2 : Same H1 (upd H1 u (.lst [.int 1, .int 5])) := same_of hu'
    obtain ⟨v, hv, hm, _⟩ := atI_mem (xs := [V.int 1, .int 5]) (i := c / 24 % 2) (Int.emod_nonneg _ (show (2 : Int) ≠ 0 by decide)) (Int.emod_lt_of_pos _ (show (0 : Int) < 2 by decide))
    have hv2 : ∃ t : Int, v = .int t ∧ 1 ≤ t ∧ t ≤ 9 := by
      simp only [List.mem_cons, List.not_mem_nil, or_false] at hm
      rcases hm with rfl | rfl
      · exact ⟨1, rfl, by decide, by decide⟩
      · exact ⟨5, rfl, by decide, by decide⟩
    obtain ⟨t, rfl, t1, t2⟩ := hv2
    refine ⟨_, rfl, _, _, rfl, rfl, by walk_at "m", _, _, rfl, rfl, by walk_at "m", u, _, _, _, rfl, rfl, SqL.of upd_same, hv, _, _, rfl, rfl, .inl ⟨by omega, by omega⟩, _, _, rfl, rfl, _, _, rfl, rfl, by walk_at "m", ?_⟩
    dsimp only [gName]
    generalize upd H1 u (.lst [.int 1, .int 5]) = H2 at s2
    have A2 := A1.same s2
    have w0 := Int.emod_nonneg (c / 4 + (0 + (i : Int)) * t) (show (6 : Int) ≠ 0 by decide)
    have w1 := Int.emod_lt_of_pos (c / 4 + (0 + (i : Int)) * t) (show (0 : Int) < 6 by decide)
    generalize (c / 4 + (0 + (i : Int)) * t) % 6 = tn at w0 w1
    obtain ⟨j, hj, ej, hat⟩ := two_at (p := p) tn
    have ew : ∃ way : Nat, tn / 2 = (way : Int) ∧ way < 3 := ⟨(tn / 2).toNat, by omega, by omega⟩
    obtain ⟨way, ew, hw⟩ := ew
    refine ⟨_, rfl, _, rfl, _, _, rfl, rfl, by walk_at "m", bs, _, _, _, rfl, rfl, SqL.of A2.bs, hat p, _, rfl, _, rfl, _, _, rfl, rfl, by walk_at "m", kk, _, _, _, rfl, rfl, SqL.of A2.kk, hat k, _, rfl, _, _, rfl, rfl, by walk_at "m", _, rfl, ?_⟩
    refine ⟨p j, l j, k j, hl, mu8 l k hl, rs j, ks j, way, n + i, by show [V.ref (p j), V.ref (k j), V.int (tn / 2), V.ref hl] = _; rw [ew], A2.t j hj, hlen j hj, hw, A2.lsts, by simp, sep.hL j hj, sep.hK j hj, A2.he, by omega, fun H3 c3 he3 => ?_⟩
    exact ⟨_, rfl, iteF ⟨A2.asked sep c3 he3, (sc1.same s2).chg c3 hl_mu, _, _, rfl⟩⟩
end
end K08

set_option Elab.async false
set_option linter.all false
set_option maxRecDepth 100000
set_option maxHeartbeats 4000000
set_option pp.maxSteps 600
set_option pp.deepTerms false
namespace K08
open PySem L2 PyProof.Rows
theorem op_neDC {X : Cx} {K0 : PySem.W.Frag} (hK : X.K = K0) (hu : X.A.units + 64 < cLine) : OpR X (compareOp .NotEq) (rNeD K0) := by subst hK; exact op_neD hu
def two2 {α : Type} (x y : α) : Nat → α
  | 0 => x
  | _ => y
theorem put8_len {rs : Nat → List T3} {i n : Nat} {x : List T3} (h : ∀ j, j < 2 → (rs j).length ≤ n) (hx : x.length ≤ n + 1) : ∀ j, j < 2 → (put8 rs i x j).length ≤ n + 1 := fun j hj => by
  unfold put8
  by_cases e : j = i
  · rw [if_pos e]; exact hx
  · rw [if_neg e]; exact Nat.le_succ_of_le (h j hj)
section
variable {P : Program} {w : World} {K : PySem.W.Frag} {mg : Str → Option Value} {base : Heap} {C CN CH : Addr}
def spLaw (K : PySem.W.Frag) : Sp := fun vs H Q _ => ∃ (a : Addr) (ns : List Int), vs = [.ref a] ∧ SqL K H a (ns.map V.int) ∧ ns.length ≤ 63 ∧ (∀ v ∈ ns, Sm v) ∧ ∀ H', Q (.bl true) H'
theorem ok_law {f : Addr} {fd : FuncData} (F : Fun K "law" "law" s_law f fd) (T : Txt K mg C CN) (B : B8 mg) (k_cell : Knows P w K mg base 1 "_law_cell_at" ["_law_script", "_law_k"] (spCell K)) (k_mixed : Knows P w K mg base 1 "_law_mixed" ["_law_cell", "_law_k"] spMixed) (k_alarm : Knows P w K mg base 1 "_law_alarm" ["_law_cell"] spAlarm)
    (ki : KnowsI CX0 P w K mg base 1 C ["self"] (spInit C)) (km_put : KnowsM CX0 P w K mg base 2 C "put" ["self", "turn", "sort", "number"] (spPut C)) (k_deed : Knows P w K mg base 5 "_law_deed" ["_law_box", "_law_kept", "_law_cell"] (spDeed C))
    (k_looked : Knows P w K mg base 3 "_law_looked" ["_law_boxes", "_law_kept", "_law_cell", "_law_held"] (spLooked K C)) : FnOk P w K mg base CX0 6 f fd ["_law_script"] (spLaw K) := by
  refine F.ok sc_law (fun vs H Q E h => ?_) (fun cdv A outer s H vs Q E hr h => ?_)
  · obtain ⟨a, ns, rfl, _⟩ := h
    rfl
  · obtain ⟨a, ns, rfl, hS, hlen, hsm, q⟩ := h
    have hu := hr.units
    refine ⟨_, by exact (pss_cons (ps_set (i := 1) sc_law.nd rfl (Or.inl rfl) (pe_lst (pa_c (pe_makeM0 ki hr T.mgC pass0) (pa_c (pe_makeM0 ki hr T.mgC pass0) pa_nil))))
      (pss_cons (ps_set (i := 2) sc_law.nd rfl (Or.inl rfl) (pe_lst (pa_c (pe_lst pa_nil) (pa_c (pe_lst pa_nil) pa_nil))))
      (pss_cons (ps_set (i := 3) sc_law.nd rfl (Or.inl rfl) (pe_lst pa_nil))
      (pss_cons (ps_if (pt_cmpR op_eq (pe_op op_mod (pe_callM k_cell hr (pa_c (pv 0) (pa_c pe_int pa_nil))) pe_int) pe_int (nomark _)) (pss_one (ps_for PassesOwn.never rfl (pi_range1 rfl B.b.range (pa_c (pe_op op_mul pe_int (pe_op op_mod (pe_op op_fdiv (pe_callM k_cell hr (pa_c (pv 0) (pa_c pe_int pa_nil))) pe_int) pe_int)) pa_nil)) (pg_name (i := 4) sc_law.nd rfl (Or.inl rfl)) (pss_cons (ps_set (i := 5) sc_law.nd rfl (Or.inl rfl) (pe_callM k_alarm hr (pa_c (pe_callM k_mixed hr (pa_c (pe_callM k_cell hr (pa_c (pv 0) (pa_c pe_int pa_nil))) (pa_c (pv 4) pa_nil))) pa_nil)))
      (pss_cons (ps_expr (pe_methM km_put T.cl hr pass0 (pe_ix ix_list (pv 1) (pe_op op_mod (pv 4) pe_int) (fun _ _ => rfl)) (pa_c (pe_ix ix_tup (pv 5) pe_int (fun _ _ => rfl)) (pa_c (pe_ix ix_tup (pv 5) pe_int (fun _ _ => rfl)) (pa_c (pe_ix ix_tup (pv 5) pe_int (fun _ _ => rfl)) pa_nil)))))
      (pss_one (ps_expr (pe_mcall PySem.F.plainAttrs_list PySem.F.slot_list_append PySem.F.type_list_append mt_append (pe_ix ix_list (pv 2) (pe_op op_mod (pv 4) pe_int) (fun _ _ => rfl)) (pa_c (pv 5) pa_nil)))))))) pss_nil)
      (pss_cons (ps_set (i := 6) sc_law.nd rfl (Or.inl rfl) (pe_ifExp (pt_cmpR op_gt (pe_bcall call_len_seq rfl B.b.len PySem.boot_len (pa_c (pv 0) pa_nil)) pe_int (nomark _)) pe_int pe_int))
      (pss_cons (ps_for PassesOwn.never rfl (pi_range2 rfl B.b.range (pa_c pe_int (pa_c (pe_bcall (call_min2 rfl) rfl B.min boot_min (pa_c (pe_bcall call_len_seq rfl B.b.len PySem.boot_len (pa_c (pv 0) pa_nil)) (pa_c (pe_op op_add pe_int (pv 6)) pa_nil))) pa_nil))) (pg_name (i := 4) sc_law.nd rfl (Or.inl rfl)) (pss_cons (ps_set (i := 7) sc_law.nd rfl (Or.inl rfl) (pe_callM k_mixed hr (pa_c (pe_ix ix_list (pv 0) (pv 4) (fun _ _ => rfl)) (pa_c (pv 4) pa_nil))))
      (pss_cons (ps_if (pt_not (pt_val (pe_callM k_deed hr (pa_c (pe_ix ix_list (pv 1) (pe_op op_mod (pv 7) pe_int) (fun _ _ => rfl)) (pa_c (pe_ix ix_list (pv 2) (pe_op op_mod (pv 7) pe_int) (fun _ _ => rfl)) (pa_c (pe_op op_fdiv (pv 7) pe_int) pa_nil)))))) (pss_one (ps_ret pe_bl)) pss_nil)
      (pss_one (ps_if (pt_not (pt_val (pe_callM k_looked hr (pa_c (pv 1) (pa_c (pv 2) (pa_c (pe_callM k_mixed hr (pa_c (pe_ix ix_list (pv 0) (pv 4) (fun _ _ => rfl)) (pa_c (pe_op op_add pe_int (pv 4)) pa_nil))) (pa_c (pv 3) pa_nil))))))) (pss_one (ps_ret pe_bl)) pss_nil)))))
      (pss_cons (ps_if (pt_not (pt_val (pe_callM k_looked hr (pa_c (pv 1) (pa_c (pv 2) (pa_c (pe_op op_mul pe_int (pe_callM k_cell hr (pa_c (pv 0) (pa_c pe_int pa_nil)))) (pa_c (pv 3) pa_nil))))))) (pss_one (ps_ret pe_bl)) pss_nil)
      (pss_one (ps_ret (pe_cmpR (op_eqD hu) (pe_comp1 [] ["_law_pair"] rfl (pi_list (pv 3)) (fun _ _ _ _ => pts_one (pt_cmpR (op_neDC (K0 := K) rfl hu) (pe_ix (ix_tupC (K0 := K) rfl) (pv 0) pe_int (fun _ _ => rfl)) (pe_ix (ix_tupC (K0 := K) rfl) (pv 0) pe_int (fun _ _ => rfl)) (nomark _))) (fun _ _ _ _ => (pv 0))) (pe_lst pa_nil) (nomark _))))))))))), ?_⟩
    refine seq_use (fun v H' => ∃ bx p0 p1 l0 l1, v = .ref bx ∧ H' bx = some (.lst [.ref p0, .ref p1]) ∧ AlAt C H' p0 l0 [] ∧ AlAt C H' p1 l1 [] ∧ l0 ≠ l1 ∧ bx ≠ l0 ∧ bx ≠ l1 ∧ H l0 = none ∧ H l1 = none ∧ Same H H') (fun Q' kk => ?_) ?_
    · refine fun p0 dx0 hp0 hdx0 hne0 => ⟨p0, dx0, rfl, upd_same, fun l0 H1 hl0 A0 k0 => ⟨rfl, fun p1 dx1 hp1 hdx1 hne1 => ⟨p1, dx1, rfl, upd_same, fun l1 H2 hl1 A1 k1 => ⟨rfl, (by show 2 ≤ sizeLine; decide), fun bx hbx => ?_⟩⟩⟩⟩
      have S0 : Same H (upd (upd H dx0 (.own p0)) p0 (.ins C dx0 [])) := fun b o e => by rw [upd_ne (ne_of_none e hp0), upd_ne (ne_of_none e hdx0)]; exact e
      have S1 : Same H H1 := fun b o e => k0 b o (by simpa using ne_of_none e hp0) (S0 b o e)
      have sA : Same H1 (upd (upd H1 dx1 (.own p1)) p1 (.ins C dx1 [])) := fun b o e => by rw [upd_ne (ne_of_none e hp1), upd_ne (ne_of_none e hdx1)]; exact e
      have S2 : Same H1 H2 := fun b o e => k1 b o (by simpa using ne_of_none e hp1) (sA b o e)
      have S3 : ∀ o, Same H2 (upd H2 bx o) := fun o => same_of hbx
      obtain ⟨vs0, hv0, _⟩ := A0.ls
      obtain ⟨vs1, hv1, _⟩ := A1.ls
      have nn0 : ∀ {G : Hp}, ∀ b ∈ ([] : List Addr), ∀ xs, G b ≠ some (.tup xs) := fun b hb => by cases hb
      refine kk _ _ ⟨bx, p0, p1, l0, l1, rfl, upd_same, A0.chg (S := []) (.of (S2.trans (S3 _))) (by simp) (by simp) nn0, A1.chg (S := []) (.of (S3 _)) (by simp) (by simp) nn0, fun z => ?_, Ne.symm (ne_of_none (S2 _ _ hv0) hbx), Ne.symm (ne_of_none hv1 hbx), S0.free hl0, S1.free (sA.free hl1), (S1.trans S2).trans (S3 _)⟩
      rw [← z, sA _ _ hv0] at hl1
      cases hl1
    rintro _ H2 ⟨bx, p0, p1, l0, l1, rfl, hbx, A0, A1, hl01, hb0, hb1, nl0, nl1, S2⟩
    dsimp only
    obtain ⟨vs0, hv0, _⟩ := A0.ls
    obtain ⟨vs1, hv1, _⟩ := A1.ls
    refine seq_use (fun v H' => ∃ kk k0 k1, v = .ref kk ∧ H' kk = some (.lst [.ref k0, .ref k1]) ∧ H' k0 = some (.lst []) ∧ H' k1 = some (.lst []) ∧ k0 ≠ k1 ∧ kk ≠ k0 ∧ kk ≠ k1 ∧ H2 kk = none ∧ H2 k0 = none ∧ H2 k1 = none ∧ Same H2 H') (fun Q' kk => ?_) ?_
    · refine ⟨by decide, fun m0 hm0 => ⟨by decide, fun m1 hm1 => ⟨(by show 2 ≤ sizeLine; decide), fun lf hlf => ?_⟩⟩⟩
      have t1 : Same H2 (upd H2 m0 (.lst [])) := same_of hm0
      have t2 : Same (upd H2 m0 (.lst [])) (upd (upd H2 m0 (.lst [])) m1 (.lst [])) := same_of hm1
      have t3 : Same (upd (upd H2 m0 (.lst [])) m1 (.lst [])) (upd (upd (upd H2 m0 (.lst [])) m1 (.lst [])) lf (.lst [.ref m0, .ref m1])) := same_of hlf
      have e01 : m0 ≠ m1 := fun z => by rw [← z, upd_same] at hm1; cases hm1
      have f0 : (upd (upd H2 m0 (.lst [])) m1 (.lst [])) m0 = some (.lst []) := t2 _ _ upd_same
      have f1 : (upd (upd H2 m0 (.lst [])) m1 (.lst [])) m1 = some (.lst []) := upd_same
      exact kk _ _ ⟨lf, m0, m1, rfl, upd_same, t3 _ _ f0, t3 _ _ f1, e01, Ne.symm (ne_of_none f0 hlf), Ne.symm (ne_of_none f1 hlf), (t1.trans t2).free hlf, hm0, t1.free hm1, (t1.trans t2).trans t3⟩
    rintro _ H3 ⟨kk, k0, k1, rfl, ekk, ek0, ek1, nk01, nkk0, nkk1, fkk, fk0, fk1, s3⟩
    refine ⟨by decide, fun hl hhl => ?_⟩
    have s4 : Same H3 (upd H3 hl (.lst [])) := same_of hhl
    have ehl : (upd H3 hl (.lst [])) hl = some (.lst []) := upd_same
    generalize upd H3 hl (.lst []) = H4 at s4 ehl
    dsimp only
    have s24 := s3.trans s4
    have s04 := S2.trans s24
    have nl2 : ∀ {x : Addr} {o : HO}, H3 x = some o → hl ≠ x := fun e => Ne.symm (ne_of_none e hhl)
    have sep : Sp8 (two2 l0 l1) (two2 k0 k1) hl bx kk := by
      refine ⟨hl01, nk01, fun i j hi hj => ?_, fun i hi => ?_, fun i hi => ?_, ?_, ?_⟩
      · rcases two_cases hi with rfl | rfl <;> rcases two_cases hj with rfl | rfl
        · exact ne_of_none hv0 fk0
        · exact ne_of_none hv0 fk1
        · exact ne_of_none hv1 fk0
        · exact ne_of_none hv1 fk1
      · rcases two_cases hi with rfl | rfl
        · exact nl2 (s3 _ _ hv0)
        · exact nl2 (s3 _ _ hv1)
      · rcases two_cases hi with rfl | rfl
        · exact nl2 ek0
        · exact nl2 ek1
      · simp only [List.mem_cons, List.not_mem_nil, or_false, not_or]
        exact ⟨hb0, hb1, ne_of_none hbx fk0, ne_of_none hbx fk1, Ne.symm (nl2 (s3 _ _ hbx))⟩
      · simp only [List.mem_cons, List.not_mem_nil, or_false, not_or]
        exact ⟨Ne.symm (ne_of_none hv0 fkk), Ne.symm (ne_of_none hv1 fkk), nkk0, nkk1, Ne.symm (nl2 ekk)⟩
    have nn0 : ∀ {G : Hp}, ∀ b ∈ ([] : List Addr), ∀ xs, G b ≠ some (.tup xs) := fun b hb => by cases hb
    have A4 : All8 C H4 (two2 p0 p1) (two2 l0 l1) (two2 k0 k1) (fun _ => []) (fun _ => []) hl bx kk 0 := by
      refine ⟨fun i hi => ?_, s24 _ _ hbx, s4 _ _ ekk, [], ehl, Nat.le_refl _, fun t ht => by cases ht⟩
      rcases two_cases hi with rfl | rfl
      · exact ⟨A0.chg (S := []) (.of s24) (by simp) (by simp) nn0, ⟨_, s4 _ _ ek0, .nil⟩, .refl _, Ne.symm (sep.lk 0 0 (by decide) (by decide))⟩
      · exact ⟨A1.chg (S := []) (.of s24) (by simp) (by simp) nn0, ⟨_, s4 _ _ ek1, .nil⟩, .refl _, Ne.symm (sep.lk 1 1 (by decide) (by decide))⟩
    have sc4 : Scr K H4 a (mu8 (two2 l0 l1) (two2 k0 k1) hl) (ns.map V.int) := by
      rcases hS with h | h
      · refine .inl ⟨?_, fun z => ?_⟩
        · rcases h with h | ⟨o, h⟩
          · exact .inl (s04 _ _ h)
          · exact .inr ⟨o, s04 _ _ h⟩
        · have no : H a ≠ none := by
            rcases h with h | ⟨o, h⟩ <;> rw [h] <;> simp
          simp only [List.mem_cons, List.not_mem_nil, or_false] at z
          rcases z with rfl | rfl | rfl | rfl | rfl
          · exact no nl0
          · exact no nl1
          · exact no (S2.free fk0)
          · exact no (S2.free fk1)
          · exact no ((S2.trans s3).free hhl)
      · exact .inr fun H' => .inr h
    generalize two2 p0 p1 = p at A4
    generalize two2 l0 l1 = l at A4 sep sc4
    generalize two2 k0 k1 = k at A4 sep sc4
    refine stm_use (fun σ' H' => ∃ rs ks v4 v5, All8 C H' p l k rs ks hl bx kk 0 ∧ (∀ i, i < 2 → (rs i).length ≤ 402) ∧ Scr K H' a (mu8 l k hl) (ns.map V.int) ∧ σ' = [some (.ref a), some (.ref bx), some (.ref kk), some (.ref hl), v4, v5, none, none]) (fun Q' kkk => ?_) ?_
    · refine ⟨_, rfl, a, ns, 0, rfl, sc4.sq, hsm, fun c0 _ => ⟨_, _, rfl, rfl, by walk_at "m", rfl, _, rfl, ite2 (fun _ => ?_) (fun _ => kkk _ _ ⟨_, _, none, none, A4, fun i hi => Nat.zero_le _, sc4, rfl⟩)⟩⟩
      refine ⟨_, rfl, a, ns, 0, rfl, sc4.sq, hsm, fun c1 _ => ⟨_, _, rfl, rfl, by walk_at "m", _, _, rfl, rfl, by walk_at "m", ?_⟩⟩
      have w0 := Int.emod_nonneg (c1 / 4) (show (201 : Int) ≠ 0 by decide)
      have w1 := Int.emod_lt_of_pos (c1 / 4) (show (0 : Int) < 201 by decide)
      refine ⟨_, _, rfl, rfl, .inl ⟨by decide, by decide⟩, _, rfl, by omega, by omega, ?_⟩
      refine for_range (lo := 0) (n := (2 * (c1 / 4 % 201)).toNat) (fun i σ H' => ∃ rs ks v4 v5, All8 C H' p l k rs ks hl bx kk 0 ∧ (∀ j, j < 2 → (rs j).length ≤ i) ∧ Scr K H' a (mu8 l k hl) (ns.map V.int) ∧ σ = [some (.ref a), some (.ref bx), some (.ref kk), some (.ref hl), v4, v5, none, none]) ⟨_, _, none, none, A4, fun i hi => Nat.le_refl _, sc4, rfl⟩ ?_ (fun σ H' h => ?_)
      · rintro i σ H5 hi ⟨rs, ks, v4, v5, A5, g5, sc5, rfl⟩
        have hi4 : i < 402 := by omega
        dsimp only [gName]
        have ei : (0 : Int) + (i : Int) = (i : Int) := by omega
        refine ⟨_, rfl, a, ns, 1, rfl, sc5.sq, hsm, fun c2 hc2 => ⟨_, rfl, c2, i, (by show [V.int c2, V.int (0 + (i : Int))] = _; rw [ei]), hc2, by omega, fun cm => ⟨cm, rfl, fun t q1 H6 hq0 hq s6 => ?_⟩⟩⟩
        dsimp only [gName]
        obtain ⟨j, hj, ej, hat⟩ := two_at (p := p) (0 + (i : Int))
        have A6 := A5.same s6
        have t6 := A6.t j hj
        obtain ⟨⟨dx, hp⟩, _⟩ := id t6.al
        have hl6 := g5 j hj
        refine ⟨_, rfl, _, rfl, _, _, rfl, rfl, by walk_at "m", bx, _, _, _, rfl, rfl, SqL.of A6.bs, hat p, p j, dx, _, rfl, hp, noF (by decide +kernel), _, rfl, q1, _, _, _, rfl, rfl, SqT.of hq, atI_nat (j := 0) rfl, _, rfl, q1, _, _, _, rfl, rfl, SqT.of hq, atI_nat (j := 1) rfl, _, rfl, q1, _, _, _, rfl, rfl, SqT.of hq, atI_nat (j := 2) rfl, p j, l j, rs j, _, _, _, rfl, t6.al, by omega, fun rs1 H7 al7 pm7 k7 => ?_⟩
        dsimp only
        have lsl : Lsts H6 [l j] := fun b hb => t6.lsts b (by rw [List.mem_singleton.mp hb]; simp)
        have ke7 := t6.ke.chg k7 (by simpa using t6.ne) lsl.noT
        have hq7 := k7 _ _ (fun z => lsl.noT _ z _ hq) hq
        have ekk7 := k7 _ _ (fun z => sep.kks (in_mu hj _ (by rw [List.mem_singleton.mp z]; simp))) A6.kk
        obtain ⟨⟨us7, hm7, hru7⟩⟩ := id ke7
        have hul : us7.length = (rs j).length := by rw [hru7.len]; exact t6.pm.length_eq
        refine ⟨_, rfl, _, rfl, _, _, rfl, rfl, by walk_at "m", kk, _, _, _, rfl, rfl, SqL.of ekk7, hat k, .inl ⟨rfl, _, SqL.of hm7⟩, _, rfl, k j, us7, .ref q1, rfl, rfl, hm7, by rw [hul]; exact Nat.lt_of_le_of_lt hl6 (Nat.lt_trans hi4 (by decide)), ?_⟩
        have lm : Lsts H7 [k j] := fun b hb => ⟨us7, by rw [List.mem_singleton.mp hb]; exact hm7⟩
        have k8 : Chg [k j] H7 (upd H7 (k j) (.lst (us7 ++ [.ref q1]))) := Chg.refl.set (by simp)
        have lt8 : LtAt (upd H7 (k j) (.lst (us7 ++ [.ref q1]))) (k j) (ks j ++ [t]) := ⟨_, upd_same, (hru7.append (.cons ⟨q1, rfl, hq7⟩ .nil)).chg k8 lm.noT⟩
        have al8 := al7.chg k8 (al7.noL lm) (by simpa using (Ne.symm t6.ne)) lm.noT
        generalize upd H7 (k j) (.lst (us7 ++ [.ref q1])) = H8 at k8 lt8 al8
        have c68 : Chg [l j, k j] H6 H8 := (k7.mono (by simp)).trans (k8.mono (by simp))
        have pm8 : (ks j ++ [t]).Perm rs1 := ((List.perm_append_comm (l₁ := ks j) (l₂ := [t])).trans (List.Perm.cons t t6.pm)).trans pm7.symm
        have A8 := A6.step sep hj c68 ⟨al8, lt8, pm8, t6.ne⟩
        exact ⟨_, _, _, _, A8, put8_len g5 (by have := pm7.length_eq; rw [List.length_cons] at this; omega), (sc5.same s6).chg c68 (in_mu hj), rfl⟩
      · obtain ⟨rs, ks, v4, v5, A5, g5, sc5, rfl⟩ := h
        exact kkk _ _ ⟨rs, ks, v4, v5, A5, fun i hi => Nat.le_trans (g5 i hi) (by omega), sc5, rfl⟩
    rintro _ H5 ⟨rs5, ks5, v4, v5, A5, g5, sc5, rfl⟩
    refine seq_use (fun v H' => H5 = H' ∧ ∃ k : Int, v = .int k ∧ 0 ≤ k ∧ k ≤ 90) (fun Q' kkk => ?_) ?_
    · refine ⟨_, rfl, a, _, rfl, .inl sc5.sq, _, _, rfl, rfl, _, rfl, ite2 (fun _ => kkk _ _ ⟨rfl, 90, rfl, by decide, by decide⟩) (fun _ => kkk _ _ ⟨rfl, 50, rfl, by decide, by decide⟩)⟩
    rintro _ _ ⟨rfl, mk, rfl, m0, m1⟩
    refine stm_use (fun σ' H' => ∃ rs ks v4 v5 v7, All8 C H' p l k rs ks hl bx kk 600 ∧ (∀ j, j < 2 → (rs j).length ≤ 500) ∧ Scr K H' a (mu8 l k hl) (ns.map V.int) ∧ σ' = [some (.ref a), some (.ref bx), some (.ref kk), some (.ref hl), v4, v5, some (.int mk), v7]) (fun Q' kkk => ?_) ?_
    · refine ⟨_, rfl, a, _, rfl, .inl sc5.sq, _, rfl, _, _, rfl, rfl, _, _, rfl, 3, _, rfl, ?_, ?_⟩
      · rw [List.length_map]
        refine ⟨by decide, by decide, ?_, ?_⟩
        · split <;> omega
        · split <;> omega
      · rw [List.length_map]
        generalize hN : ((if (3 : Int) + mk < (ns.length : Int) then 3 + mk else (ns.length : Int)) - 3).toNat = N
        have hN1 : ∀ i, i < N → 3 + i < ns.length := fun i hi => by
          rw [← hN] at hi
          split at hi <;> omega
        have hN2 : N ≤ 63 := by rw [← hN]; split <;> omega
        refine for_range (lo := 3) (n := N) (fun i σ H' => ∃ rs ks v4 v5 v7, All8 C H' p l k rs ks hl bx kk (6 * i) ∧ (∀ j, j < 2 → (rs j).length ≤ 402 + i) ∧ Scr K H' a (mu8 l k hl) (ns.map V.int) ∧ σ = [some (.ref a), some (.ref bx), some (.ref kk), some (.ref hl), v4, v5, some (.int mk), v7]) ⟨_, _, _, _, none, A5, g5, sc5, rfl⟩ ?_ (fun σ H' h => ?_)
        · rintro i σ H7 hi ⟨rs, ks, v4, v5, v7, A7, g7, sc7, rfl⟩
          dsimp only [gName]
          have hi2 := hN1 i hi
          obtain ⟨v, hv, hm, _⟩ := atI_mem (xs := ns.map V.int) (i := (3 : Int) + (i : Int)) (by omega) (by rw [List.length_map]; omega)
          obtain ⟨c, hc, rfl⟩ := List.mem_map.mp hm
          have ek : (3 : Int) + (i : Int) = ((3 + i : Nat) : Int) := by omega
          have ek2 : (200 : Int) + ((3 : Int) + (i : Int)) = ((203 + i : Nat) : Int) := by omega
          refine ⟨_, rfl, _, rfl, a, _, _, _, rfl, rfl, sc7.sq, hv, _, rfl, c, 3 + i, (by show [V.int c, V.int ((3 : Int) + (i : Int))] = _; rw [ek]), hsm c hc, by omega, fun cell => ?_⟩
          dsimp only [gName]
          obtain ⟨j, hj, ej, hat⟩ := two_at (p := p) cell
          refine ⟨_, rfl, _, rfl, _, _, rfl, rfl, by walk_at "m", bx, _, _, _, rfl, rfl, SqL.of A7.bs, hat p, _, rfl, _, rfl, _, _, rfl, rfl, by walk_at "m", kk, _, _, _, rfl, rfl, SqL.of A7.kk, hat k, _, rfl, _, _, rfl, rfl, by walk_at "m", ?_⟩
          have t7 := A7.t j hj
          have gj := g7 j hj
          refine ⟨p j, l j, k j, rs j, ks j, _, rfl, t7, by omega, fun rs' ks' H8 t8 hle c8 => ⟨_, rfl, iteF (next_to ?_)⟩⟩
          dsimp only
          have A8 := A7.step sep hj c8 t8
          have sc8 := sc7.chg c8 (in_mu hj)
          have g8 := put8_len (i := j) (x := rs') g7 (by omega)
          refine ⟨_, rfl, _, rfl, _, rfl, _, rfl, a, _, _, _, rfl, rfl, sc8.sq, hv, _, rfl, _, _, rfl, rfl, c, 203 + i, (by show [V.int c, V.int ((200 : Int) + ((3 : Int) + (i : Int)))] = _; rw [ek2]), hsm c hc, by omega, fun cell2 => ?_⟩
          refine ⟨_, rfl, p, l, k, _, _, hl, bx, kk, 6 * i, cell2, a, _, rfl, A8, sep, fun j hj => by have := g8 j hj; omega, by omega, sc8, fun H9 A9 sc9 => ⟨_, rfl, iteF ?_⟩⟩
          exact ⟨_, _, _, _, _, A9, g8, sc9, rfl⟩
        · obtain ⟨rs, ks, v4, v5, v7, A7, g7, sc7, rfl⟩ := h
          exact kkk _ _ ⟨rs, ks, v4, v5, v7, A7.more (by omega), fun j hj => by have := g7 j hj; omega, sc7, rfl⟩
    rintro _ H7 ⟨rs, ks, v4, v5, v7, A7, g7, sc7, rfl⟩
    refine stm_use (fun σ' H' => ∃ rs ks, All8 C H' p l k rs ks hl bx kk 606 ∧ σ' = [some (.ref a), some (.ref bx), some (.ref kk), some (.ref hl), v4, v5, some (.int mk), v7]) (fun Q' kkk => ?_) ?_
    · refine ⟨_, rfl, _, rfl, _, rfl, a, ns, 2, rfl, sc7.sq, hsm, fun c2 _ => ⟨_, _, rfl, rfl, .inl ⟨by decide, by decide⟩, ?_⟩⟩
      exact ⟨_, rfl, p, l, k, rs, ks, hl, bx, kk, 600, _, a, _, rfl, A7, sep, fun j hj => by have := g7 j hj; omega, by decide, sc7, fun H9 A9 sc9 => ⟨_, rfl, iteF (kkk _ _ ⟨rs, ks, A9, rfl⟩)⟩⟩
    rintro _ H9 ⟨rs9, ks9, A9, rfl⟩
    obtain ⟨ts, eh, hts, hpk⟩ := A9.he.ex
    refine ⟨_, rfl, hl, rfl, ⟨_, SqL.of eh⟩, ?_⟩
    refine comp1_wk (wk_list K hl (ts.map V.ref)) (fun i ys H' => H' = H9 ∧ ys = []) ⟨rfl, rfl⟩ (fun i ys H' _ h => ⟨by rw [h.1]; exact SqL.of eh, by rw [h.2]; exact Nat.zero_le _⟩) (by rw [List.length_map]; exact Nat.le_trans hts (by decide)) ?_ ?_
    · rintro i x ys H' Nx hx ⟨rfl, rfl⟩ hNx
      rw [List.getElem?_map] at hx
      obtain ⟨tt, htt, rfl⟩ := Option.map_eq_some_iff.mp hx
      obtain ⟨pa, pb, vs, t3s, e1, _, _, e2, e3, e4⟩ := hpk tt (List.mem_of_getElem? htt)
      refine ⟨_, rfl, tt, _, _, _, rfl, rfl, SqT.of e1, atI_nat (j := 0) rfl, _, rfl, tt, _, _, _, rfl, rfl, SqT.of e1, atI_nat (j := 1) rfl, _, _, .l (SqL.of e2) e4.reps, .l (SqL.of e3) e4.reps, dep_l t3s, _, rfl, ?_⟩
      rw [eqD_self]
      exact iteF (hNx _ _ ⟨rfl, rfl⟩)
    · rintro ys H' ⟨rfl, rfl⟩ Dd hD
      have s9 : Same H' (upd H' Dd (.lst [])) := same_of hD
      have ed : (upd H' Dd (.lst [])) Dd = some (.lst []) := upd_same
      generalize upd H' Dd (.lst []) = HA at s9 ed
      refine ⟨by decide, fun D2 hD2 => ⟨L2.D.l [], L2.D.l [], .l (SqL.of (same_of hD2 _ _ ed)) .nil, .l (SqL.of upd_same) .nil, by simp [depD, depDs], ?_⟩⟩
      rw [eqD_l]
      exact q _
end
end K08

set_option Elab.async false
set_option linter.all false
set_option maxRecDepth 100000
set_option maxHeartbeats 8000000
namespace K08
open PySem L2
def mkd (e0 e1 e2 e3 e4 e5 e6 e7 e8 e9 e10 e11 e12 e13 e14 e15 e16 e17 e18 : Addr) : Nat → Addr
  | 0 => e0
  | 1 => e1
  | 2 => e2
  | 3 => e3
  | 4 => e4
  | 5 => e5
  | 6 => e6
  | 7 => e7
  | 8 => e8
  | 9 => e9
  | 10 => e10
  | 11 => e11
  | 12 => e12
  | 13 => e13
  | 14 => e14
  | 15 => e15
  | 16 => e16
  | 17 => e17
  | _ => e18
theorem all_mk {l : PySem.W.OpenLaw} {w : World} {K : PySem.W.Frag} {h : Heap} {mg : Str → Option Value} {fa : Addr} (X : K.In h) (G : h.Ns mainGlobals mg) (hfa : mg "law" = some (.ref fa)) {C f eh e0 e1 e2 e3 e4 e5 e6 e7 e8 e9 e10 e11 e12 e13 e14 e15 e16 e17 e18 : Addr}
    {od an : Option Addr} {sl : Array (Option Value)} {oc kV dc pm cd ct : Value}
    (is_Alarms : PySem.W.nsIn K mainGlobals "Alarms" = some (some (.ref C)))
    (cls_Alarms : Cls K C)
    (n1 : PySem.W.findIn K (.ref C) "rising" = some none)
    (hn : PySem.W.specialIn K (.builtin "object.__class__") "__get__" = some (some (.builtin "getset_descriptor.__get__")))
    (htk : PySem.W.takesIn K (.builtin "object.__class__") = some true)
    (i_A : IDef K C "Alarms.__init__" s_Alarms___init__ ["self"])
    (m_put : MDef K C "put" "Alarms.put" s_Alarms_put ["self", "turn", "sort", "number"])
    (m_drop : MDef K C "drop" "Alarms.drop" s_Alarms_drop ["self", "turn", "sort", "number"])
    (m_first : MDef K C "first" "Alarms.first" s_Alarms_first ["self"])
    (m_take : MDef K C "take" "Alarms.take" s_Alarms_take ["self"])
    (m_rows : MDef K C "rows" "Alarms.rows" s_Alarms_rows ["self"])
    (m_many : MDef K C "many" "Alarms.many" s_Alarms_many ["self"])
    (m_spot : MDef K C "spot" "Alarms.spot" s_Alarms_spot ["self", "alarm"])
    (d__law_cell_at : Def K mg "_law_cell_at" s__law_cell_at ["_law_script", "_law_k"])
    (d__law_mixed : Def K mg "_law_mixed" s__law_mixed ["_law_cell", "_law_k"])
    (d__law_whole : Def K mg "_law_whole" s__law_whole ["_law_found"])
    (d__law_word : Def K mg "_law_word" s__law_word ["_law_e"])
    (d__law_alarm : Def K mg "_law_alarm" s__law_alarm ["_law_cell"])
    (d__law_refused : Def K mg "_law_refused" s__law_refused ["_law_box", "_law_alarm_here"])
    (d__law_dropped : Def K mg "_law_dropped" s__law_dropped ["_law_box", "_law_kept", "_law_cell"])
    (d__law_taken : Def K mg "_law_taken" s__law_taken ["_law_box", "_law_kept"])
    (d__law_deed : Def K mg "_law_deed" s__law_deed ["_law_box", "_law_kept", "_law_cell"])
    (d__law_asked : Def K mg "_law_asked" s__law_asked ["_law_box", "_law_kept", "_law_way", "_law_held"])
    (d__law_looked : Def K mg "_law_looked" s__law_looked ["_law_boxes", "_law_kept", "_law_cell", "_law_held"])
    (lk : PySem.W.nsIn K mainGlobals "law" = some (some (.ref f)))
    (ll : K.lookup f = some ⟨oc, od, .func (PySem.W.fnOf "law" "law" (defArgs s_law) (defBody s_law) (defScope s_law) .none kV dc pm an cd ct), sl⟩)
    (lc : PySem.W.codeIn K cd "law" = true)
    (lp : PySem.W.keepIn K (.ref f) = true)
    (b_isinstance : PySem.W.nsIn K mainGlobals "isinstance" = some none)
    (b_len : PySem.W.nsIn K mainGlobals "len" = some none)
    (b_all : PySem.W.nsIn K mainGlobals "all" = some none)
    (b_int : PySem.W.nsIn K mainGlobals "int" = some none)
    (b_bool : PySem.W.nsIn K mainGlobals "bool" = some none)
    (b_str : PySem.W.nsIn K mainGlobals "str" = some none)
    (b_list : PySem.W.nsIn K mainGlobals "list" = some none)
    (b_range : PySem.W.nsIn K mainGlobals "range" = some none)
    (b_enumerate : PySem.W.nsIn K mainGlobals "enumerate" = some none)
    (b_tuple : PySem.W.nsIn K mainGlobals "tuple" = some none)
    (b_min : PySem.W.nsIn K mainGlobals "min" = some none)
    (b_sorted : PySem.W.nsIn K mainGlobals "sorted" = some none)
    (b_ValueError : PySem.W.nsIn K mainGlobals "ValueError" = some none)
    (x_BadTerm : PySem.W.nsIn K mainGlobals "BadTerm" = some (some (.ref e0)))
    (x_Busy : PySem.W.nsIn K mainGlobals "Busy" = some (some (.ref e1)))
    (x_Gone : PySem.W.nsIn K mainGlobals "Gone" = some (some (.ref e2)))
    (x_NoAlarm : PySem.W.nsIn K mainGlobals "NoAlarm" = some (some (.ref e3)))
    (x_BadName : PySem.W.nsIn K mainGlobals "BadName" = some (some (.ref e4)))
    (x_BadNumber : PySem.W.nsIn K mainGlobals "BadNumber" = some (some (.ref e5)))
    (x_BadNeeds : PySem.W.nsIn K mainGlobals "BadNeeds" = some (some (.ref e6)))
    (x_BadPlan : PySem.W.nsIn K mainGlobals "BadPlan" = some (some (.ref e7)))
    (x_Twice : PySem.W.nsIn K mainGlobals "Twice" = some (some (.ref e8)))
    (x_NoJob : PySem.W.nsIn K mainGlobals "NoJob" = some (some (.ref e9)))
    (x_Ring : PySem.W.nsIn K mainGlobals "Ring" = some (some (.ref e10)))
    (x_BadLine : PySem.W.nsIn K mainGlobals "BadLine" = some (some (.ref e11)))
    (x_BadBook : PySem.W.nsIn K mainGlobals "BadBook" = some (some (.ref e12)))
    (x_BadShot : PySem.W.nsIn K mainGlobals "BadShot" = some (some (.ref e13)))
    (x_BadEvent : PySem.W.nsIn K mainGlobals "BadEvent" = some (some (.ref e14)))
    (x_BadStep : PySem.W.nsIn K mainGlobals "BadStep" = some (some (.ref e15)))
    (x_BadState : PySem.W.nsIn K mainGlobals "BadState" = some (some (.ref e16)))
    (x_BadTurn : PySem.W.nsIn K mainGlobals "BadTurn" = some (some (.ref e17)))
    (x_BadBuilders : PySem.W.nsIn K mainGlobals "BadBuilders" = some (some (.ref e18)))
    (x_HallError : PySem.W.nsIn K mainGlobals "HallError" = some (some (.ref eh)))
    (ga3 : PySem.W.findIn K (.ref e3) "__getattribute__" = some (some (.builtin "BaseException.__getattribute__")))
    (gh3 : PySem.W.findIn K (.ref e3) "__getattr__" = some none)
    (be3 : PySem.W.mroIn K e3 (.type "BaseException") = some true)
    (hd3 : PySem.W.hasDictIn K e3 = true)
    (ha3 : PySem.W.findIn K (.ref e3) "__class__" = some (some (.builtin "object.__class__")))
    (hm3 : PySem.W.mroIn K e3 (.type "object") = some true)
    (kt3_0 : PySem.W.kitOne K (.ref e3) (.ref e0) = some false)
    (kt3_1 : PySem.W.kitOne K (.ref e3) (.ref e1) = some false)
    (kt3_2 : PySem.W.kitOne K (.ref e3) (.ref e2) = some false)
    (kt3_3 : PySem.W.kitOne K (.ref e3) (.ref e3) = some true)
    (kt3_4 : PySem.W.kitOne K (.ref e3) (.ref e4) = some false)
    (kt3_5 : PySem.W.kitOne K (.ref e3) (.ref e5) = some false)
    (kt3_6 : PySem.W.kitOne K (.ref e3) (.ref e6) = some false)
    (kt3_7 : PySem.W.kitOne K (.ref e3) (.ref e7) = some false)
    (kt3_8 : PySem.W.kitOne K (.ref e3) (.ref e8) = some false)
    (kt3_9 : PySem.W.kitOne K (.ref e3) (.ref e9) = some false)
    (kt3_10 : PySem.W.kitOne K (.ref e3) (.ref e10) = some false)
    (kt3_11 : PySem.W.kitOne K (.ref e3) (.ref e11) = some false)
    (kt3_12 : PySem.W.kitOne K (.ref e3) (.ref e12) = some false)
    (kt3_13 : PySem.W.kitOne K (.ref e3) (.ref e13) = some false)
    (kt3_14 : PySem.W.kitOne K (.ref e3) (.ref e14) = some false)
    (kt3_15 : PySem.W.kitOne K (.ref e3) (.ref e15) = some false)
    (kt3_16 : PySem.W.kitOne K (.ref e3) (.ref e16) = some false)
    (kt3_17 : PySem.W.kitOne K (.ref e3) (.ref e17) = some false)
    (kt3_18 : PySem.W.kitOne K (.ref e3) (.ref e18) = some false)
    (kve3 : PySem.W.kitOne K (.ref e3) (.type "ValueError") = some true)
    (exc3 : PySem.W.excIn K e3 bmV "ValueError.__new__" = true)
    (exm3 : PySem.W.exmOne K (.ref e3) (.ref eh) = some true)
    (exn3 : PySem.W.exmOne K (.ref e3) (.ref e3) = some true) :
    ∃ fd : FuncData, (∀ (s : Shared) (v : Value), BindsTo s fd ⟨[v], []⟩ [("_law_script", v)]) ∧ ∀ base : Heap, K.In base → base.Ns mainGlobals mg → FnOk l.prog w K mg base CX0 6 fa fd ["_law_script"] (spLaw K) := by
  have e := hfa.symm.trans (PySem.W.mg_of X G lk)
  cases e
  have B0 : Bltn mg := ⟨PySem.W.mg_none_of X G b_isinstance, PySem.W.mg_none_of X G b_len, PySem.W.mg_none_of X G b_all, PySem.W.mg_none_of X G b_int, PySem.W.mg_none_of X G b_bool, PySem.W.mg_none_of X G b_str, PySem.W.mg_none_of X G b_list, PySem.W.mg_none_of X G b_range⟩
  have B1 : B8 mg := ⟨B0, PySem.W.mg_none_of X G b_tuple, PySem.W.mg_none_of X G b_min, PySem.W.mg_none_of X G b_sorted⟩
  have T : Txt K mg C e3 := ⟨cls_Alarms, n1, PySem.W.mg_of X G is_Alarms, PySem.W.mg_of X G x_NoAlarm, exc3, exn3, PySem.W.mg_none_of X G b_len, PySem.W.mg_none_of X G b_list, PySem.W.mg_none_of X G b_range, PySem.W.mg_none_of X G b_enumerate⟩
  have EXX : EX K mg (mkd e0 e1 e2 e3 e4 e5 e6 e7 e8 e9 e10 e11 e12 e13 e14 e15 e16 e17 e18) (fun r => r = 3) := by
    refine ⟨⟨hn, htk⟩, (fun r hr => ?_), (fun r i hr hi => ?_), (fun r hr => ?_), PySem.W.mg_none_of X G b_ValueError, PySem.W.mg_of X G x_BadTerm, PySem.W.mg_of X G x_Busy, PySem.W.mg_of X G x_Gone, PySem.W.mg_of X G x_NoAlarm, PySem.W.mg_of X G x_BadName, PySem.W.mg_of X G x_BadNumber, PySem.W.mg_of X G x_BadNeeds, PySem.W.mg_of X G x_BadPlan, PySem.W.mg_of X G x_Twice, PySem.W.mg_of X G x_NoJob, PySem.W.mg_of X G x_Ring, PySem.W.mg_of X G x_BadLine, PySem.W.mg_of X G x_BadBook, PySem.W.mg_of X G x_BadShot, PySem.W.mg_of X G x_BadEvent, PySem.W.mg_of X G x_BadStep, PySem.W.mg_of X G x_BadState, PySem.W.mg_of X G x_BadTurn, PySem.W.mg_of X G x_BadBuilders⟩
    · subst hr
      exact ⟨ga3, gh3, be3, hd3, ha3, hm3⟩
    · subst hr
      match i, hi with
      | 0, _ => exact kt3_0
      | 1, _ => exact kt3_1
      | 2, _ => exact kt3_2
      | 3, _ => exact kt3_3
      | 4, _ => exact kt3_4
      | 5, _ => exact kt3_5
      | 6, _ => exact kt3_6
      | 7, _ => exact kt3_7
      | 8, _ => exact kt3_8
      | 9, _ => exact kt3_9
      | 10, _ => exact kt3_10
      | 11, _ => exact kt3_11
      | 12, _ => exact kt3_12
      | 13, _ => exact kt3_13
      | 14, _ => exact kt3_14
      | 15, _ => exact kt3_15
      | 16, _ => exact kt3_16
      | 17, _ => exact kt3_17
      | 18, _ => exact kt3_18
      | i + 19, hi => omega
    · subst hr
      exact kve3
  refine ⟨PySem.W.fnOf "law" "law" (defArgs s_law) (defBody s_law) (defScope s_law) .none kV dc pm an cd ct, fun s v => .of_eq rfl, fun base _ _ => ?_⟩
  have F := fun_mk (st := s_law) ll lc lp
  have ki := i_A.knows (P := l.prog) (w := w) (mg := mg) (base := base) fun f fd F => ok_init F T
  have km_spot := m_spot.knows (P := l.prog) (w := w) (mg := mg) (base := base) fun f fd F => ok_spot F T
  have km_put := m_put.knows fun f fd F => ok_put F T km_spot
  have km_drop := m_drop.knows fun f fd F => ok_drop F T km_spot
  have km_first := m_first.knows (P := l.prog) (w := w) (mg := mg) (base := base) fun f fd F => ok_first F T
  have km_take := m_take.knows (P := l.prog) (w := w) (mg := mg) (base := base) fun f fd F => ok_take F T
  have km_rows := m_rows.knows (P := l.prog) (w := w) (mg := mg) (base := base) fun f fd F => ok_rows F T
  have km_many := m_many.knows (P := l.prog) (w := w) (mg := mg) (base := base) fun f fd F => ok_many F T
  have k_word := ok_word (P := l.prog) (w := w) (base := base) d__law_word B0 EXX
  have k_cell := ok_cell (P := l.prog) (w := w) (base := base) d__law_cell_at T
  have k_mixed := ok_mixed (P := l.prog) (w := w) (base := base) d__law_mixed
  have k_alarm := ok_alarm (P := l.prog) (w := w) (base := base) d__law_alarm
  have k_whole := ok_whole (P := l.prog) (w := w) (base := base) d__law_whole B0
  have k_refused := ok_refused (D := (mkd e0 e1 e2 e3 e4 e5 e6 e7 e8 e9 e10 e11 e12 e13 e14 e15 e16 e17 e18)) (R := fun r => r = 3) d__law_refused T (PySem.W.mg_of X G x_HallError) exm3 rfl rfl km_take km_drop k_word
  have k_dropped := ok_dropped d__law_dropped T B1 k_alarm k_refused km_put km_drop
  have k_taken := ok_taken d__law_taken T B1 k_refused km_take
  have k_deed := ok_deed d__law_deed T k_alarm k_dropped k_taken km_put
  have k_asked := ok_asked d__law_asked T B1 k_whole km_first km_many km_rows
  have k_looked := ok_looked d__law_looked B1 k_asked
  exact ok_law F T B1 k_cell k_mixed k_alarm ki km_put k_deed k_looked
theorem walk {l : PySem.W.OpenLaw} {q : Program} {loose : List Str} {XP : (Str → Option Value) → Heap → Prop} {YP : World → Heap → Prop} {d : DefRec} {K : Params → PySem.W.Frag} (hn : l.most = some 63) (hdf : d.params.defaults = [])
    (hY : ∀ (w : World) (h : Heap), YP w h → (K w.params).In h)
    (F : ∀ (w : World) (mg : Str → Option Value) (fa : Addr) (h : Heap), (K w.params).In h → h.Ns mainGlobals mg → mg d.name = some (.ref fa) →
      ∃ fd : FuncData, (∀ (s : Shared) (u : Value), BindsTo s fd ⟨[u], []⟩ [("_law_script", u)]) ∧ ∀ base : Heap, (K w.params).In base → base.Ns mainGlobals mg → FnOk l.prog w (K w.params) mg base CX0 6 fa fd ["_law_script"] (spLaw (K w.params))) :
    PySem.W.WalkO q loose XP YP l.row.toRowW d [] (fun f vs => PySem.call f vs) :=
  L2.walk_ofW (n := 63) (k := 6) (x := "_law_script") (CX := fun _ => CX0) (sp := fun w => spLaw (K w.params)) hn (by decide) hdf ⟨rfl, by decide, by decide⟩ hY F (fun _ _ a ns hl hsm _ hS => ⟨a, ns, rfl, hS, hl, hsm, fun _ => rfl⟩) fun _ _ _ _ _ z => z
end K08

set_option Elab.async false
set_option linter.all false
namespace PySem.W.Fast
end PySem.W.Fast
open PySem PySem.W PyProof.Rows
set_option maxRecDepth 100000 in
set_option maxHeartbeats 0 in
theorem PySem.Challenge.cw_buildhall_k08_alarms_holds : PySem.Challenge.rw_buildhall_k08_alarms.Holds := by
  w_on; o_law; k_head; (case hw => w_witness2)
  k_fill
  refine K08.walk (l := PySem.Challenge.rw_buildhall_k08_alarms) rfl rfl (fun w h Y => PySem.W.kIn_of Y) ?F
  case F =>
    intro w mg fa h KX G hmg
    refine' K08.all_mk KX G hmg ?is_Alarms ?cls_Alarms ?n1 ?hn ?htk ?i_A ?m_put ?m_drop ?m_first ?m_take ?m_rows ?m_many ?m_spot ?d__law_cell_at ?d__law_mixed ?d__law_whole ?d__law_word ?d__law_alarm ?d__law_refused ?d__law_dropped ?d__law_taken ?d__law_deed ?d__law_asked ?d__law_looked ?lk ?ll ?lc ?lp ?b_isinstance ?b_len ?b_all ?b_int ?b_bool ?b_str ?b_list ?b_range ?b_enumerate ?b_tuple ?b_min ?b_sorted ?b_ValueError ?x_BadTerm ?x_Busy ?x_Gone ?x_NoAlarm ?x_BadName ?x_BadNumber ?x_BadNeeds ?x_BadPlan ?x_Twice ?x_NoJob ?x_Ring ?x_BadLine ?x_BadBook ?x_BadShot ?x_BadEvent ?x_BadStep ?x_BadState ?x_BadTurn ?x_BadBuilders ?x_HallError ?ga3 ?gh3 ?be3 ?hd3 ?ha3 ?hm3 ?kt3_0 ?kt3_1 ?kt3_2 ?kt3_3 ?kt3_4 ?kt3_5 ?kt3_6 ?kt3_7 ?kt3_8 ?kt3_9 ?kt3_10 ?kt3_11 ?kt3_12 ?kt3_13 ?kt3_14 ?kt3_15 ?kt3_16 ?kt3_17 ?kt3_18 ?kve3 ?exc3 ?exm3 ?exn3
    (case is_Alarms => k_is)
    (case cls_Alarms => refine' ⟨?_, ?_, ?_, ?_⟩ <;> k_is)
    (case n1 => k_is)
    (case hn => first | k_is | kernel_rfl)
    (case htk => first | k_is | kernel_rfl)
    case i_A =>
      refine' L2.init_mk ?a ?n ?l ?c ?k ?mk ?kC ?b
      (case a => k_is); (case n => k_is); (case l => k_is); (case c => k_is); (case k => k_is); (case mk => k_is); (case kC => k_is)
      (case b => exact fun _ _ _ _ _ _ us hl => match us, hl with | [_], _ => rfl)
    case m_put =>
      refine' L2.meth_mk ?a ?n ?l ?c ?k ?b
      (case a => k_is); (case n => k_is); (case l => k_is); (case c => k_is); (case k => k_is)
      (case b => exact fun _ _ _ _ _ _ us hl => match us, hl with | [_, _, _, _], _ => rfl)
    case m_drop =>
      refine' L2.meth_mk ?a ?n ?l ?c ?k ?b
      (case a => k_is); (case n => k_is); (case l => k_is); (case c => k_is); (case k => k_is)
      (case b => exact fun _ _ _ _ _ _ us hl => match us, hl with | [_, _, _, _], _ => rfl)
    case m_first =>
      refine' L2.meth_mk ?a ?n ?l ?c ?k ?b
      (case a => k_is); (case n => k_is); (case l => k_is); (case c => k_is); (case k => k_is)
      (case b => exact fun _ _ _ _ _ _ us hl => match us, hl with | [_], _ => rfl)
    case m_take =>
      refine' L2.meth_mk ?a ?n ?l ?c ?k ?b
      (case a => k_is); (case n => k_is); (case l => k_is); (case c => k_is); (case k => k_is)
      (case b => exact fun _ _ _ _ _ _ us hl => match us, hl with | [_], _ => rfl)
    case m_rows =>
      refine' L2.meth_mk ?a ?n ?l ?c ?k ?b
      (case a => k_is); (case n => k_is); (case l => k_is); (case c => k_is); (case k => k_is)
      (case b => exact fun _ _ _ _ _ _ us hl => match us, hl with | [_], _ => rfl)
    case m_many =>
      refine' L2.meth_mk ?a ?n ?l ?c ?k ?b
      (case a => k_is); (case n => k_is); (case l => k_is); (case c => k_is); (case k => k_is)
      (case b => exact fun _ _ _ _ _ _ us hl => match us, hl with | [_], _ => rfl)
    case m_spot =>
      refine' L2.meth_mk ?a ?n ?l ?c ?k ?b
      (case a => k_is); (case n => k_is); (case l => k_is); (case c => k_is); (case k => k_is)
      (case b => exact fun _ _ _ _ _ _ us hl => match us, hl with | [_, _], _ => rfl)
    case d__law_cell_at =>
      refine' L2.def_mk KX G ?a ?l ?c ?k ?b
      (case a => k_is); (case l => k_is); (case c => k_is); (case k => k_is)
      (case b => exact fun _ _ _ _ _ _ us hl => match us, hl with | [_, _], _ => rfl)
    case d__law_mixed =>
      refine' L2.def_mk KX G ?a ?l ?c ?k ?b
      (case a => k_is); (case l => k_is); (case c => k_is); (case k => k_is)
      (case b => exact fun _ _ _ _ _ _ us hl => match us, hl with | [_, _], _ => rfl)
    case d__law_whole =>
      refine' L2.def_mk KX G ?a ?l ?c ?k ?b
      (case a => k_is); (case l => k_is); (case c => k_is); (case k => k_is)
      (case b => exact fun _ _ _ _ _ _ us hl => match us, hl with | [_], _ => rfl)
    case d__law_word =>
      refine' L2.def_mk KX G ?a ?l ?c ?k ?b
      (case a => k_is); (case l => k_is); (case c => k_is); (case k => k_is)
      (case b => exact fun _ _ _ _ _ _ us hl => match us, hl with | [_], _ => rfl)
    case d__law_alarm =>
      refine' L2.def_mk KX G ?a ?l ?c ?k ?b
      (case a => k_is); (case l => k_is); (case c => k_is); (case k => k_is)
      (case b => exact fun _ _ _ _ _ _ us hl => match us, hl with | [_], _ => rfl)
    case d__law_refused =>
      refine' L2.def_mk KX G ?a ?l ?c ?k ?b
      (case a => k_is); (case l => k_is); (case c => k_is); (case k => k_is)
      (case b => exact fun _ _ _ _ _ _ us hl => match us, hl with | [_, _], _ => rfl)
    case d__law_dropped =>
      refine' L2.def_mk KX G ?a ?l ?c ?k ?b
      (case a => k_is); (case l => k_is); (case c => k_is); (case k => k_is)
      (case b => exact fun _ _ _ _ _ _ us hl => match us, hl with | [_, _, _], _ => rfl)
    case d__law_taken =>
      refine' L2.def_mk KX G ?a ?l ?c ?k ?b
      (case a => k_is); (case l => k_is); (case c => k_is); (case k => k_is)
      (case b => exact fun _ _ _ _ _ _ us hl => match us, hl with | [_, _], _ => rfl)
    case d__law_deed =>
      refine' L2.def_mk KX G ?a ?l ?c ?k ?b
      (case a => k_is); (case l => k_is); (case c => k_is); (case k => k_is)
      (case b => exact fun _ _ _ _ _ _ us hl => match us, hl with | [_, _, _], _ => rfl)
    case d__law_asked =>
      refine' L2.def_mk KX G ?a ?l ?c ?k ?b
      (case a => k_is); (case l => k_is); (case c => k_is); (case k => k_is)
      (case b => exact fun _ _ _ _ _ _ us hl => match us, hl with | [_, _, _, _], _ => rfl)
    case d__law_looked =>
      refine' L2.def_mk KX G ?a ?l ?c ?k ?b
      (case a => k_is); (case l => k_is); (case c => k_is); (case k => k_is)
      (case b => exact fun _ _ _ _ _ _ us hl => match us, hl with | [_, _, _, _], _ => rfl)
    (case lk => k_is)
    (case ll => k_is)
    (case lc => k_is)
    (case lp => k_is)
    (case b_isinstance => k_is)
    (case b_len => k_is)
    (case b_all => k_is)
    (case b_int => k_is)
    (case b_bool => k_is)
    (case b_str => k_is)
    (case b_list => k_is)
    (case b_range => k_is)
    (case b_enumerate => k_is)
    (case b_tuple => k_is)
    (case b_min => k_is)
    (case b_sorted => k_is)
    (case b_ValueError => k_is)
    (case x_BadTerm => k_is)
    (case x_Busy => k_is)
    (case x_Gone => k_is)
    (case x_NoAlarm => k_is)
    (case x_BadName => k_is)
    (case x_BadNumber => k_is)
    (case x_BadNeeds => k_is)
    (case x_BadPlan => k_is)
    (case x_Twice => k_is)
    (case x_NoJob => k_is)
    (case x_Ring => k_is)
    (case x_BadLine => k_is)
    (case x_BadBook => k_is)
    (case x_BadShot => k_is)
    (case x_BadEvent => k_is)
    (case x_BadStep => k_is)
    (case x_BadState => k_is)
    (case x_BadTurn => k_is)
    (case x_BadBuilders => k_is)
    (case x_HallError => k_is)
    (case ga3 => first | k_is | kernel_rfl)
    (case gh3 => first | k_is | kernel_rfl)
    (case be3 => first | k_is | kernel_rfl)
    (case hd3 => first | k_is | kernel_rfl)
    (case ha3 => first | k_is | kernel_rfl)
    (case hm3 => first | k_is | kernel_rfl)
    (case kt3_0 => first | kernel_rfl | k_is)
    (case kt3_1 => first | kernel_rfl | k_is)
    (case kt3_2 => first | kernel_rfl | k_is)
    (case kt3_3 => first | kernel_rfl | k_is)
    (case kt3_4 => first | kernel_rfl | k_is)
    (case kt3_5 => first | kernel_rfl | k_is)
    (case kt3_6 => first | kernel_rfl | k_is)
    (case kt3_7 => first | kernel_rfl | k_is)
    (case kt3_8 => first | kernel_rfl | k_is)
    (case kt3_9 => first | kernel_rfl | k_is)
    (case kt3_10 => first | kernel_rfl | k_is)
    (case kt3_11 => first | kernel_rfl | k_is)
    (case kt3_12 => first | kernel_rfl | k_is)
    (case kt3_13 => first | kernel_rfl | k_is)
    (case kt3_14 => first | kernel_rfl | k_is)
    (case kt3_15 => first | kernel_rfl | k_is)
    (case kt3_16 => first | kernel_rfl | k_is)
    (case kt3_17 => first | kernel_rfl | k_is)
    (case kt3_18 => first | kernel_rfl | k_is)
    (case kve3 => first | kernel_rfl | k_is)
    (case exc3 => first | k_is | kernel_rfl)
    (case exm3 => first | k_is | kernel_rfl)
    (case exn3 => first | k_is | kernel_rfl)
#print axioms PySem.Challenge.cw_buildhall_k08_alarms_holds
