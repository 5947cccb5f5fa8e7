import PyProof.Rows.All
import Wide.All
import OpenK.AllK
import Wide.FinOn
import Lean
import PyProof.EqAt
import PyProof.EqKinds
import PyProof.TupleCall
import PyProof.ExcBaseAll.ValueError
import KE.KDictList
import PyProof.WalkInts
import PyProof.SeqI3
import PyProof.Rows.SetFrom
import PyProof.CompUse
import PyProof.ZipIter
import PyProof.ListRange
import PyProof.Rows.SumAny
import PyProof.Rows.SetObj
import PyProof.SetRoads
import KE.KIsAll
import PyProof.AttrMissSeq
import KE.KDictOf
import PyProof.Rows.SortShell
import PyProof.Rows.SortWalk
import KE.KIsNot
import PyProof.ExcArgs
import PyProof.Seq
import PyProof.Rows.TupIter
import PyProof.RulesAs
import PyProof.DictWalks
import PyProof.Rows.FStr
import KE.KEqDict
import KE.KDictSum
import PyProof.StrBlock2
import PySem.Challenge.RW_buildhall_k03_job_lines
set_option Elab.async false
set_option linter.all false
set_option maxRecDepth 100000
set_option maxHeartbeats 40000000
namespace PySem.W.Fast
def tw1718368987026400256 : Unit := ()
def tw3585610849343285344 : Unit := ()
def tw11065934650545405024 : Unit := ()
def tw6789338203837378784 : Unit := ()
def tw15137029059782465888 : Unit := ()
def tw333365034337495392 : Unit := ()
def tw12478085830416103808 : Unit := ()
def tw15333292079354460576 : Unit := ()
def tw12605077379133980064 : Unit := ()
def tw3327712898451766752 : Unit := ()
def tw6337308615165356640 : Unit := ()
def tw1634170231836425824 : Unit := ()
def tw10506389919665232512 : Unit := ()
def tw10967009542448672384 : Unit := ()
def tw6064410663504301728 : Unit := ()
def tw4134282582222338880 : Unit := ()
def tw5250908248064926624 : Unit := ()
def tw30453290638585760 : Unit := ()
def tw6461891216775294944 : Unit := ()
def tw7762702364280309761 : Unit := ()
def tw8044844280446421025 : Unit := ()
def tw2433557280012699681 : Unit := ()
def tw17175504813592242273 : Unit := ()
def tw10265905143140436193 : Unit := ()
def tw16512421092071693537 : Unit := ()
def tw18416674766103422209 : Unit := ()
def tw11795172764177280289 : Unit := ()
def tw9590885133749440801 : Unit := ()
def tw4635802593402157441 : Unit := ()
def tw10223226956760121761 : Unit := ()
def tw9913251679506555329 : Unit := ()
def tw9926158985671414273 : Unit := ()
def tw1845988747207105089 : Unit := ()
def tw10111291867965257281 : Unit := ()
def tw13651393574486146625 : Unit := ()
def tw17334368395992537697 : Unit := ()
def tw5610831755879422625 : Unit := ()
def tw9625845926032591553 : Unit := ()
def tw14339219231941665569 : Unit := ()
def tw18227292592735504161 : Unit := ()
def tw2306584268599050049 : Unit := ()
def tw2880695891034516353 : Unit := ()
def tw1234878418212609122 : Unit := ()
def tw16843115882054078594 : Unit := ()
def tw8426408840115390658 : Unit := ()
def tw5074411402615150882 : Unit := ()
def tw5191011911014753602 : Unit := ()
def tw12685343532236264770 : Unit := ()
def tw3383209454683722082 : Unit := ()
def tw6635073055801438594 : Unit := ()
def tw11375916598081231266 : Unit := ()
def tw3054724764605736386 : Unit := ()
def tw13720133089227014626 : Unit := ()
def tw17948288180320494050 : Unit := ()
def tw7068546058093007362 : Unit := ()
def tw2274004317397434882 : Unit := ()
def tw10444498399029228034 : Unit := ()
def tw759731334112858658 : Unit := ()
def tw5684894299648433762 : Unit := ()
def tw7846506391912747650 : Unit := ()
def tw72115890790131330 : Unit := ()
def tw10594528690656605858 : Unit := ()
def tw5159302315906198338 : Unit := ()
def tw8396961514278975298 : Unit := ()
def tw9625894136077193058 : Unit := ()
def tw8929084267794506594 : Unit := ()
def tw2805704073329127266 : Unit := ()
def tw11004487587138479042 : Unit := ()
def tw8230215851191450562 : Unit := ()
def tw3396847314987442146 : Unit := ()
def tw6877971968007402466 : Unit := ()
def tw16900386317792102435 : Unit := ()
def tw16345135149229489379 : Unit := ()
def tw4381670812602823907 : Unit := ()
def tw2620838347727045891 : Unit := ()
def tw16190103554066505027 : Unit := ()
def tw219244794122499395 : Unit := ()
def tw6515327237351500195 : Unit := ()
def tw18071946021407366595 : Unit := ()
def tw13252438167281570339 : Unit := ()
def tw13020650299271245475 : Unit := ()
def tw11691514160313300707 : Unit := ()
def tw16852217158839510819 : Unit := ()
def tw3092627457315497763 : Unit := ()
def tw4599916412427340611 : Unit := ()
def tw7747432754637272899 : Unit := ()
def tw3018200390206649187 : Unit := ()
def tw13299294575253578627 : Unit := ()
def tw11371246200717513732 : Unit := ()
def tw18441806027938462820 : Unit := ()
def tw15181749725390446724 : Unit := ()
def tw6709345769226429572 : Unit := ()
def tw11473434809977257252 : Unit := ()
def tw15657379515613208932 : Unit := ()
def tw14094870352798710180 : Unit := ()
def tw12651603676378448356 : Unit := ()
def tw58046676114421284 : Unit := ()
def tw13005649667920750116 : Unit := ()
def tw9111366472684002884 : Unit := ()
def tw2828323840166557380 : Unit := ()
def tw5314715954124318564 : Unit := ()
def tw17861738132307701765 : Unit := ()
def tw8261580598913944613 : Unit := ()
def tw14631150582322993253 : Unit := ()
def tw4030752226188046469 : Unit := ()
def tw8249248692335981701 : Unit := ()
def tw740848014258526405 : Unit := ()
def tw18230967250085275941 : Unit := ()
def tw2500393225951509893 : Unit := ()
def tw4769944537955198469 : Unit := ()
def tw16861511496112085669 : Unit := ()
def tw1270062241267621541 : Unit := ()
def tw8767528736088173221 : Unit := ()
def tw5057476224912033573 : Unit := ()
def tw1135672918152124229 : Unit := ()
def tw9106145370074891173 : Unit := ()
def tw14526047517789328454 : Unit := ()
def tw7929933108367349926 : Unit := ()
def tw4625531566016454886 : Unit := ()
def tw14144639652773947622 : Unit := ()
def tw5735413527063740678 : Unit := ()
def tw10003011731592983878 : Unit := ()
def tw3759972032637886822 : Unit := ()
def tw14343607956039507366 : Unit := ()
def tw8386899282716248518 : Unit := ()
def tw2986136404912414310 : Unit := ()
def tw5336984194212342374 : Unit := ()
def tw17250179449349847718 : Unit := ()
def tw6119025682407671558 : Unit := ()
def tw11428272668990969638 : Unit := ()
def tw16701213736141520678 : Unit := ()
def tw11163829665754696550 : Unit := ()
def tw5053679169476665222 : Unit := ()
def tw2126401198188507014 : Unit := ()
def tw1562624545418830790 : Unit := ()
def tw8727630319809567686 : Unit := ()
def tw14799682512364978150 : Unit := ()
def tw6860497851772019719 : Unit := ()
def tw648107678957730919 : Unit := ()
def tw7262401117015739655 : Unit := ()
def tw17525082164752725351 : Unit := ()
def tw533517949895387591 : Unit := ()
def tw13944469681524156871 : Unit := ()
def tw6841956214000845351 : Unit := ()
def tw4929451809921468967 : Unit := ()
def tw3669191984549334631 : Unit := ()
def tw7135935826989899367 : Unit := ()
def tw2885453172298023623 : Unit := ()
def tw17778973551623803591 : Unit := ()
def tw14247519743178179367 : Unit := ()
def tw11297045475653556071 : Unit := ()
def tw10330367774164592551 : Unit := ()
def tw4249589886456378311 : Unit := ()
def tw6221733999961606216 : Unit := ()
def tw980557131263324232 : Unit := ()
def tw2874100697471890536 : Unit := ()
def tw12014869672613247144 : Unit := ()
def tw17739006408288728296 : Unit := ()
def tw445901821901536552 : Unit := ()
def tw2066249979241994600 : Unit := ()
def tw4968268851618014664 : Unit := ()
def tw17529940964312196584 : Unit := ()
def tw693068711668534760 : Unit := ()
def tw16657237261133339112 : Unit := ()
def tw6157604439448892936 : Unit := ()
def tw8692354094187733544 : Unit := ()
def tw6331244612233225768 : Unit := ()
def tw13928659222666284680 : Unit := ()
def tw9192172506316479112 : Unit := ()
def tw18103397887130648200 : Unit := ()
def tw6995218584379236104 : Unit := ()
def tw17298966112690253640 : Unit := ()
def tw471527465843964776 : Unit := ()
def tw13473031090127400808 : Unit := ()
def tw12276815079552040840 : Unit := ()
def tw18047320759446107016 : Unit := ()
def tw3627871865371274152 : Unit := ()
def tw3694447601582034888 : Unit := ()
def tw4389589653481378825 : Unit := ()
def tw9436189029943672873 : Unit := ()
def tw16716585687501989929 : Unit := ()
def tw7415191494888697001 : Unit := ()
def tw14624224129668693161 : Unit := ()
def tw7444215384417103049 : Unit := ()
def tw9855083857201352041 : Unit := ()
def tw17419166136063973769 : Unit := ()
def tw3079464652431070697 : Unit := ()
def tw14429875172435913225 : Unit := ()
def tw9276146614868088361 : Unit := ()
def tw14960254356686151209 : Unit := ()
def tw1121066255807477321 : Unit := ()
def tw18032023119753179817 : Unit := ()
def tw16734611689805962953 : Unit := ()
def tw8531223709700562793 : Unit := ()
def tw2700935222097636201 : Unit := ()
def tw12131382028983176137 : Unit := ()
def tw8868688093482440746 : Unit := ()
def tw15854504952268847178 : Unit := ()
def tw8922208594347379818 : Unit := ()
def tw13561995402486903978 : Unit := ()
def tw15750663554354146602 : Unit := ()
def tw12572307342110772554 : Unit := ()
def tw12406020953277276522 : Unit := ()
def tw2707570391942421898 : Unit := ()
def tw12434821266240002474 : Unit := ()
def tw7375046485763358218 : Unit := ()
def tw5716141796365483562 : Unit := ()
def tw4957356380139426410 : Unit := ()
def tw1662842922494783242 : Unit := ()
def tw11733732193832531722 : Unit := ()
def tw10167024764503705386 : Unit := ()
def tw15455443095720938314 : Unit := ()
def tw17359224218854176618 : Unit := ()
def tw3805655400059972619 : Unit := ()
def tw3654822984023149707 : Unit := ()
def tw734830625751582923 : Unit := ()
def tw14099495507304191275 : Unit := ()
def tw6448821627179960651 : Unit := ()
def tw17742689197408968043 : Unit := ()
def tw7322206180041189739 : Unit := ()
def tw6349299549714914699 : Unit := ()
def tw16390526150642641291 : Unit := ()
def tw15531611525523633547 : Unit := ()
def tw12014280661807908267 : Unit := ()
def tw6125625519836640907 : Unit := ()
def tw13956562808020138667 : Unit := ()
def tw12105519602417535755 : Unit := ()
def tw12353587395508975371 : Unit := ()
def tw13954289389015549707 : Unit := ()
def tw8490747265870142251 : Unit := ()
def tw13466657945643918155 : Unit := ()
def tw18023810799631904587 : Unit := ()
def tw5525613689467229035 : Unit := ()
def tw4202409198614611851 : Unit := ()
def tw18040475679590279051 : Unit := ()
def tw9263973697360115627 : Unit := ()
def tw13579216233444487115 : Unit := ()
def tw14563105107970451500 : Unit := ()
def tw15578834320701799532 : Unit := ()
def tw10532781395770780844 : Unit := ()
def tw18005693194056174828 : Unit := ()
def tw15380618278614581516 : Unit := ()
def tw15620500237481426252 : Unit := ()
def tw6854677102504963436 : Unit := ()
def tw8583964692315417996 : Unit := ()
def tw15520650601083201932 : Unit := ()
def tw9009788781378513356 : Unit := ()
def tw16257956126705696396 : Unit := ()
def tw15702976599853039308 : Unit := ()
def tw2457446370257783532 : Unit := ()
def tw4559571028174030604 : Unit := ()
def tw3382087996839403308 : Unit := ()
def tw14451018440947045196 : Unit := ()
def tw8970053782554856268 : Unit := ()
def tw2629079549502681964 : Unit := ()
def tw6740512509928838092 : Unit := ()
def tw12127579338321923052 : Unit := ()
def tw12470764293349917676 : Unit := ()
def tw11184916402669768717 : Unit := ()
def tw11132138284559159373 : Unit := ()
def tw12880981702051828909 : Unit := ()
def tw14221344187666673837 : Unit := ()
def tw16240899099401990349 : Unit := ()
def tw5206178251578114285 : Unit := ()
def tw4013137879909316845 : Unit := ()
def tw5033984531034310925 : Unit := ()
def tw8700394042113444205 : Unit := ()
def tw5789210774458545581 : Unit := ()
def tw3912147229202987629 : Unit := ()
def tw12974938066217110157 : Unit := ()
def tw16259455794819254029 : Unit := ()
def tw13229269963292596045 : Unit := ()
def tw5364381387173626861 : Unit := ()
def tw17584040040395189294 : Unit := ()
def tw4113856312991289486 : Unit := ()
def tw14387481342971588782 : Unit := ()
def tw14903794107365032142 : Unit := ()
def tw9049538610733696334 : Unit := ()
def tw5244701901653855598 : Unit := ()
def tw16176837891879287182 : Unit := ()
def tw16240672540585317774 : Unit := ()
def tw10777282967983553998 : Unit := ()
def tw8296203830124007950 : Unit := ()
def tw4602502642391150158 : Unit := ()
def tw3226959283775143534 : Unit := ()
def tw16199164342740777646 : Unit := ()
def tw12514701331704711886 : Unit := ()
def tw9875746384017071854 : Unit := ()
def tw2285819682909865742 : Unit := ()
def tw12450960372606080814 : Unit := ()
def tw8615979784700036014 : Unit := ()
def tw15272644642282289102 : Unit := ()
def tw11723974456411461614 : Unit := ()
def tw8112574155707987983 : Unit := ()
def tw14091581656172677135 : Unit := ()
def tw11416547091131949103 : Unit := ()
def tw15427394600522009679 : Unit := ()
def tw12173840565264609391 : Unit := ()
def tw4240813778461657231 : Unit := ()
def tw9497644264882009263 : Unit := ()
def tw13415205849830911279 : Unit := ()
def tw8775941553783261551 : Unit := ()
def tw14489100356415673711 : Unit := ()
def tw4325584620997799343 : Unit := ()
def tw6641453306891620815 : Unit := ()
def tw16218536881568044527 : Unit := ()
def tw4960699609303399951 : Unit := ()
def tw6570485384570128015 : Unit := ()
def tw5457315065198098095 : Unit := ()
def tw8069124965352319791 : Unit := ()
def tw6969352066381899567 : Unit := ()
def tw5701963249992602447 : Unit := ()
def tw10343118931274018639 : Unit := ()
def tw6475602495074080623 : Unit := ()
def tw16322401288912827311 : Unit := ()
def tw10424037993168496623 : Unit := ()
def tw7171820079079141424 : Unit := ()
def tw11922381459724205392 : Unit := ()
def tw18116067820298294640 : Unit := ()
def tw5140384178511157680 : Unit := ()
def tw11141681549346573776 : Unit := ()
def tw6143208483729781232 : Unit := ()
def tw15049596888355031536 : Unit := ()
def tw8122888694709662224 : Unit := ()
def tw15052412956364012048 : Unit := ()
def tw8340872764006065776 : Unit := ()
def tw4631602233088076400 : Unit := ()
def tw1108135116218992336 : Unit := ()
def tw17652348259308389104 : Unit := ()
def tw8868695185171099504 : Unit := ()
def tw4316224246148215664 : Unit := ()
def tw7340225676885192560 : Unit := ()
def tw850855086897464272 : Unit := ()
def tw1329020817317048272 : Unit := ()
def tw7559386104930037712 : Unit := ()
def tw16229989518965771248 : Unit := ()
def tw2842307244545097712 : Unit := ()
def tw17028407008220502000 : Unit := ()
def tw240447796896564241 : Unit := ()
def tw9208212606933746769 : Unit := ()
def tw3365594241652226129 : Unit := ()
def tw3396961414994720913 : Unit := ()
def tw328629220143910065 : Unit := ()
def tw5651475255740671185 : Unit := ()
def tw1114493693688743217 : Unit := ()
def tw12459071928150529361 : Unit := ()
def tw15362818212436652369 : Unit := ()
def tw16285449543554875793 : Unit := ()
def tw11724935559355605521 : Unit := ()
def tw13688712187053167121 : Unit := ()
def tw10909089630977402417 : Unit := ()
def tw1459518448733819441 : Unit := ()
def tw1531313651851889233 : Unit := ()
def tw719667301980510865 : Unit := ()
def tw13975102609312003729 : Unit := ()
def tw18151955262757008017 : Unit := ()
def tw18412036819118241489 : Unit := ()
def tw4876197195803330321 : Unit := ()
def tw17762983537079806865 : Unit := ()
def tw9158207436339239857 : Unit := ()
def tw6461480510901105617 : Unit := ()
def tw15025996992715005106 : Unit := ()
def tw11383032543302043826 : Unit := ()
def tw15822177198596508850 : Unit := ()
def tw9459342975714617586 : Unit := ()
def tw687765514652150002 : Unit := ()
def tw14852195790380471570 : Unit := ()
def tw15965267775634356498 : Unit := ()
def tw2050529751920035090 : Unit := ()
def tw15684107637446045970 : Unit := ()
def tw16482457974196641074 : Unit := ()
def tw11660261861413134674 : Unit := ()
def tw6857962945170785618 : Unit := ()
def tw8634630399521459570 : Unit := ()
def tw11210753975633565074 : Unit := ()
def tw10371046476374583826 : Unit := ()
def tw7338811897739318834 : Unit := ()
def tw16693561468039171666 : Unit := ()
def tw18101811789299348082 : Unit := ()
def tw3486115924941457042 : Unit := ()
def tw9933606708693738162 : Unit := ()
def tw1875594133493921554 : Unit := ()
def tw9162970398857085874 : Unit := ()
def tw16243891046307364883 : Unit := ()
def tw8555350251839510547 : Unit := ()
def tw344946269356526739 : Unit := ()
def tw3613813717082592403 : Unit := ()
def tw12656457701659818227 : Unit := ()
def tw15209316252965857587 : Unit := ()
def tw18350309687721563475 : Unit := ()
def tw13287043456681850195 : Unit := ()
def tw15918905481369549171 : Unit := ()
def tw13174759079443705235 : Unit := ()
def tw6740664020405586483 : Unit := ()
def tw6391310535659667187 : Unit := ()
def tw1408327150316198803 : Unit := ()
def tw11859617235665100755 : Unit := ()
def tw11539327954733682643 : Unit := ()
def tw4583328248725902516 : Unit := ()
def tw2663583294002038996 : Unit := ()
def tw7242217611439845588 : Unit := ()
def tw6313419003505033428 : Unit := ()
def tw10200846239447377204 : Unit := ()
def tw8358300861507229012 : Unit := ()
def tw18137391226320754036 : Unit := ()
def tw6327496789238146452 : Unit := ()
def tw9506371822895250996 : Unit := ()
def tw6202398892711438996 : Unit := ()
def tw5352151351679094484 : Unit := ()
def tw13547221750753080052 : Unit := ()
def tw18070640730497246964 : Unit := ()
def tw14599815715050363668 : Unit := ()
def tw4905425241963407124 : Unit := ()
def tw12655695215347242900 : Unit := ()
def tw1354169445433772980 : Unit := ()
def tw13608914634261430196 : Unit := ()
def tw11961199985656464372 : Unit := ()
def tw4777405870357905429 : Unit := ()
def tw5405455467143291925 : Unit := ()
def tw7282067385620919317 : Unit := ()
def tw6268365291921148981 : Unit := ()
def tw14198901094233536565 : Unit := ()
def tw15276459236351615125 : Unit := ()
def tw9097491697699718325 : Unit := ()
def tw11061141279366629621 : Unit := ()
def tw8723882073710355765 : Unit := ()
def tw10243699937497968981 : Unit := ()
def tw8829345357354893749 : Unit := ()
def tw14367196320309206485 : Unit := ()
def tw7612648397122323957 : Unit := ()
def tw12075652370507922997 : Unit := ()
def tw12822953517702636117 : Unit := ()
def tw2553327343972232821 : Unit := ()
def tw17796782725227862645 : Unit := ()
def tw1625347020700999317 : Unit := ()
def tw6559605301846884117 : Unit := ()
def tw4639547917300831061 : Unit := ()
def tw3032087404418383733 : Unit := ()
def tw13360878464351355765 : Unit := ()
def tw12004904371070974869 : Unit := ()
def tw7378675332276985781 : Unit := ()
def tw11205156536283786262 : Unit := ()
def tw198102215742669878 : Unit := ()
def tw3398034327198996566 : Unit := ()
def tw8437756874611827798 : Unit := ()
def tw18195511204069361782 : Unit := ()
def tw16991217799276917942 : Unit := ()
def tw14357260455827379478 : Unit := ()
def tw12234459359909604630 : Unit := ()
def tw1702818271235912022 : Unit := ()
def tw7932834187515232662 : Unit := ()
def tw9305296610310412726 : Unit := ()
def tw1931983151277405622 : Unit := ()
def tw11580371193588848150 : Unit := ()
def tw11826230746378823190 : Unit := ()
def tw436362602384696886 : Unit := ()
def tw623681483168203350 : Unit := ()
def tw299261930815600246 : Unit := ()
def tw1063003320337770134 : Unit := ()
def tw7466943569828353718 : Unit := ()
def tw4024716669602171670 : Unit := ()
def tw14226659296018426646 : Unit := ()
def tw12653325287429368598 : Unit := ()
def tw3406838080028608406 : Unit := ()
def tw14848823081041364982 : Unit := ()
def tw7198681047146301463 : Unit := ()
def tw14261280577566550039 : Unit := ()
def tw12418471019280347191 : Unit := ()
def tw3262671805426232439 : Unit := ()
def tw16874850503976333527 : Unit := ()
def tw8452963371757667575 : Unit := ()
def tw6659790386467903735 : Unit := ()
def tw635410785477564663 : Unit := ()
def tw13133797026438742391 : Unit := ()
def tw6983983345700391287 : Unit := ()
def tw6890261649228987767 : Unit := ()
def tw17531964536434262423 : Unit := ()
def tw8726085327437995415 : Unit := ()
def tw8581974193496139223 : Unit := ()
def tw13314924617986096631 : Unit := ()
def tw8144937319451217463 : Unit := ()
def tw15377383446757794391 : Unit := ()
def tw11348222271343049335 : Unit := ()
def tw5072213053535371895 : Unit := ()
def tw12401450623025619639 : Unit := ()
def tw9232487524701812407 : Unit := ()
def tw7195921718226638519 : Unit := ()
def tw16154758435066546903 : Unit := ()
def tw3532315930032807639 : Unit := ()
def tw13043728899073711831 : Unit := ()
def tw6527730326766188247 : Unit := ()
def tw12552902761841042167 : Unit := ()
def tw15463299630007354135 : Unit := ()
def tw8384521190558948119 : Unit := ()
def tw17274728452047047479 : Unit := ()
def tw2260611666492398487 : Unit := ()
def tw17518649413671480440 : Unit := ()
def tw17574013067337171160 : Unit := ()
def tw5993371054663279832 : Unit := ()
def tw4476939767624547576 : Unit := ()
def tw4958629207855476120 : Unit := ()
def tw11569338828847291800 : Unit := ()
def tw15347044083489843672 : Unit := ()
def tw4750509311544019448 : Unit := ()
def tw6283431444077724184 : Unit := ()
def tw2825746462838244024 : Unit := ()
def tw5882488277033694936 : Unit := ()
def tw14571072524524350168 : Unit := ()
def tw1474520828651706232 : Unit := ()
def tw15502631251039538201 : Unit := ()
def tw17810532427568671961 : Unit := ()
def tw2770693537550718233 : Unit := ()
def tw9461356270218666425 : Unit := ()
def tw6289666902535719385 : Unit := ()
def tw18250952771349320185 : Unit := ()
def tw4234612510518840889 : Unit := ()
def tw15796464366715002457 : Unit := ()
def tw17106348817419092665 : Unit := ()
def tw16583703697037350585 : Unit := ()
def tw8932879085314177753 : Unit := ()
def tw1143641331442024217 : Unit := ()
def tw11269400291957858105 : Unit := ()
def tw5563940940988143481 : Unit := ()
def tw13142113273180607481 : Unit := ()
def tw1527027852277587034 : Unit := ()
def tw9267941427913732186 : Unit := ()
def tw11326271357934090362 : Unit := ()
def tw11245311001046236282 : Unit := ()
def tw2724342149654091994 : Unit := ()
def tw2012493209844151546 : Unit := ()
def tw13630165435933528410 : Unit := ()
def tw11163212712012208538 : Unit := ()
def tw1816934176896270810 : Unit := ()
def tw2609678196581294554 : Unit := ()
def tw12771479647967758906 : Unit := ()
def tw13326608766831044186 : Unit := ()
def tw17767257041748247290 : Unit := ()
def tw18243882941764307738 : Unit := ()
def tw5078807078717055834 : Unit := ()
def tw8646428081073573754 : Unit := ()
def tw15305370605120293786 : Unit := ()
def tw14108372170251338714 : Unit := ()
def tw6896377880843328474 : Unit := ()
def tw4045594233458389051 : Unit := ()
def tw7491654049568532603 : Unit := ()
def tw1317401378480114811 : Unit := ()
def tw13501280053318856891 : Unit := ()
def tw6798014370212301083 : Unit := ()
def tw14410823814558009723 : Unit := ()
def tw15622735587130098075 : Unit := ()
def tw12809754918045800859 : Unit := ()
def tw4070030904802202107 : Unit := ()
def tw17106683515528217115 : Unit := ()
def tw2762209848862236283 : Unit := ()
def tw6483959164104537723 : Unit := ()
def tw6559654688746968923 : Unit := ()
def tw760458104926311291 : Unit := ()
def tw9014948952184387644 : Unit := ()
def tw7473186577606708316 : Unit := ()
def tw12068128342442148988 : Unit := ()
def tw8670112171261485180 : Unit := ()
def tw1350238345728465052 : Unit := ()
def tw15053234471138241756 : Unit := ()
def tw13198556209186450652 : Unit := ()
def tw1106239002703710460 : Unit := ()
def tw11564882317504768380 : Unit := ()
def tw12188644232885466524 : Unit := ()
def tw10003246783886825980 : Unit := ()
def tw9792099459914942012 : Unit := ()
def tw1053432212012973692 : Unit := ()
def tw11525342266760823484 : Unit := ()
def tw7628901715640486620 : Unit := ()
def tw6791134402120965884 : Unit := ()
def tw7232712636654404412 : Unit := ()
def tw9984320961492910972 : Unit := ()
def tw5649227295086089084 : Unit := ()
def tw1866095721035802524 : Unit := ()
def tw6823983756353029020 : Unit := ()
def tw6097469928048194460 : Unit := ()
def tw2769470677428362301 : Unit := ()
def tw12732545252455432285 : Unit := ()
def tw10580410635728493981 : Unit := ()
def tw14499993331051760093 : Unit := ()
def tw12751963251243561501 : Unit := ()
def tw2161425221369925181 : Unit := ()
def tw7104010397225156157 : Unit := ()
def tw10730104535066358461 : Unit := ()
def tw9740797914151040733 : Unit := ()
def tw213373498057404189 : Unit := ()
def tw15626494441595736989 : Unit := ()
def tw8596700854830772221 : Unit := ()
def tw4954422566601034814 : Unit := ()
def tw2067850854559353950 : Unit := ()
def tw10565450533358715998 : Unit := ()
def tw18204443988365994110 : Unit := ()
def tw1691801751119003006 : Unit := ()
def tw5010774890220096958 : Unit := ()
def tw13141533947654979038 : Unit := ()
def tw3661923991996560862 : Unit := ()
def tw14916089647602396670 : Unit := ()
def tw14591871591482100222 : Unit := ()
def tw7628392903764627998 : Unit := ()
def tw7543550646438669918 : Unit := ()
def tw2823505157494551134 : Unit := ()
def tw5686241917169949278 : Unit := ()
def tw14337609671382270654 : Unit := ()
def tw10780929942602191550 : Unit := ()
def tw14079054868049028830 : Unit := ()
def tw4267042202625934174 : Unit := ()
def tw11173034054094300126 : Unit := ()
def tw18319384596319207455 : Unit := ()
def tw14552655460659992735 : Unit := ()
def tw5938526698070608127 : Unit := ()
def tw315390155834073439 : Unit := ()
def tw11885323552966707583 : Unit := ()
def tw12476709552231411135 : Unit := ()
def tw2928968669045999071 : Unit := ()
def tw9561440200097037855 : Unit := ()
def tw6812258715123980863 : Unit := ()
def tw10272336347348353599 : Unit := ()
def tw13638851948600499839 : Unit := ()
def tw11108564792493823615 : Unit := ()
def tw7285872881176595103 : Unit := ()
def tw11198267811121580799 : Unit := ()
def tw14345777486075955967 : Unit := ()
def tw7685226338288992063 : Unit := ()
def tw12442332883717756767 : Unit := ()
def tw9606331533452783455 : Unit := ()
def tw14515385149838186335 : Unit := ()
def tw18385177486486009727 : Unit := ()
def tw4057377911565314015 : Unit := ()
def tw3909092103189080063 : Unit := ()
end PySem.W.Fast
namespace L2
open PySem PySem.Spec PyProof.Rows
abbrev Key := Sum Int Str
def keyIs : Key → Value → Bool
  | .inl k,v => Value.isInt k v
  | .inr x,v => Value.isStrOf x v
def keyH (w : World) : Key → Int
  | .inl k => hashInt k
  | .inr x => hashStr w x
theorem keyIs_shape : ∀ {k : Key} {v : Value},keyIs k v = true → (∃ i t,k = Sum.inl i ∧ v = Value.int i t) ∨ (∃ x t,k = Sum.inr x ∧ v = Value.str x t)
  | .inl i,v,h => by
    obtain ⟨t,e⟩ := Value.isInt_shape (k := i) (v := v) h
    exact .inl ⟨i,t,rfl,e⟩
  | .inr x,v,h => by
    obtain ⟨t,e⟩ := Value.isStrOf_shape (x := x) (v := v) h
    exact .inr ⟨x,t,rfl,e⟩
theorem keyIs_int (i : Int) (t : Tok) : keyIs (.inl i) (.int i t) = true := by simp [keyIs,Value.isInt]
theorem keyIs_str (x : Str) (t : Tok) : keyIs (.inr x) (.str x t) = true := by simp [keyIs,Value.isStrOf]
theorem key_ll (a b : Int) : decide ((Sum.inl a : Key) = Sum.inl b) = (a == b) := by
  by_cases e : a = b
  · subst e; simp
  · have h : ¬ (Sum.inl a : Key) = Sum.inl b := fun q => e (Sum.inl.inj q)
    rw [decide_eq_false h]
    exact (beq_eq_false_iff_ne.mpr e).symm
theorem key_rr (a b : Str) : decide ((Sum.inr a : Key) = Sum.inr b) = decide (a = b) := by
  by_cases e : a = b
  · subst e; simp
  · have h : ¬ (Sum.inr a : Key) = Sum.inr b := fun q => e (Sum.inr.inj q)
    rw [decide_eq_false h,decide_eq_false e]
theorem key_lr (a : Int) (b : Str) : decide ((Sum.inl a : Key) = Sum.inr b) = false := decide_eq_false (fun q => nomatch q)
theorem key_rl (a : Str) (b : Int) : decide ((Sum.inr a : Key) = Sum.inl b) = false := decide_eq_false (fun q => nomatch q)
def mixKind (prog : Program) (w : World) : PySem.KeyKind prog w Key where
  is := keyIs
  hash := keyH w
  inj := fun v a b ha hb => by
    rcases keyIs_shape ha with ⟨i,t,rfl,rfl⟩ | ⟨x,t,rfl,rfl⟩
    · rcases keyIs_shape hb with ⟨j,u,rfl,e⟩ | ⟨y,u,rfl,e⟩
      · injection e with e1 _; rw [e1]
      · exact nomatch e
    · rcases keyIs_shape hb with ⟨j,u,rfl,e⟩ | ⟨y,u,rfl,e⟩
      · exact nomatch e
      · injection e with e1 _; rw [e1]
  byValue := fun k v h => by
    rcases keyIs_shape h with ⟨i,t,rfl,rfl⟩ | ⟨x,t,rfl,rfl⟩ <;> rfl
  pyHash := fun hv h => by
    rcases keyIs_shape hv with ⟨i,t,rfl,rfl⟩ | ⟨x,t,rfl,rfl⟩
    · exact wpAny_pyHash_int h
    · exact wpAny_pyHash_str h
  eqBool := fun hu hv h => by
    rcases keyIs_shape hu with ⟨i,t,rfl,rfl⟩ | ⟨x,t,rfl,rfl⟩
    · rcases keyIs_shape hv with ⟨j,u,rfl,rfl⟩ | ⟨y,u,rfl,rfl⟩
      · rw [key_ll] at h; exact wpAny_eqBool_int h
      · rw [key_lr] at h; exact SeqAt.EqAt.int_str i t y u _ _ _ _ h
    · rcases keyIs_shape hv with ⟨j,u,rfl,rfl⟩ | ⟨y,u,rfl,rfl⟩
      · rw [key_rl] at h; exact SeqAt.EqAt.str_int x t j u _ _ _ _ h
      · rw [key_rr] at h; exact wpAny_eqBool_str h
  «strs» := fun k x t v h => by
    rcases keyIs_shape h with ⟨i,u,rfl,e⟩ | ⟨y,u,rfl,e⟩
    · exact nomatch e
    · injection e with e1 _
      subst e1
      cases v <;> rfl
theorem mixKind_int (prog : Program) (w : World) (i : Int) (t : Tok) : (mixKind prog w).is (.inl i) (.int i t) = true := keyIs_int i t
theorem mixKind_str (prog : Program) (w : World) (x : Str) (t : Tok) : (mixKind prog w).is (.inr x) (.str x t) = true := keyIs_str x t
end L2
namespace L2
open PySem PySem.Spec PyProof.Rows
inductive V where
  | non | bl (b : Bool) | int (i : Int) | str (x : Str) | byt (b : Array UInt8) | flt (b : UInt64) | ref (a : Addr) | ty (n : String)
  deriving DecidableEq
def RelV : V → Value → Prop
  | .non,u => u = Value.none
  | .bl b,u => u = Value.bool b
  | .int i,u => ∃ t,u = Value.int i t
  | .str x,u => ∃ t,u = Value.str x t
  | .byt b,u => ∃ t,u = Value.bytes b t
  | .flt b,u => ∃ t,u = Value.float b t
  | .ref a,u => u = Value.ref a
  | .ty n,u => u = Value.type n
abbrev Vals : List V → List Value → Prop := Paired RelV
theorem Vals.length {xs : List V} {us : List Value} (r : Vals xs us) : xs.length = us.length := Paired.length r
theorem Vals.get : ∀ {xs : List V} {us : List Value} {i : Nat} {x : V},Vals xs us → xs[i]? = some x → ∃ u,us[i]? = some u ∧ RelV x u
  | _,_,_,_,.nil,e => by simp at e
  | _,_,0,_,.cons r _,e => by simp at e; subst e; exact ⟨_,rfl,r⟩
  | _,_,i + 1,x,.cons _ t,e => by
    obtain ⟨u,h1,h2⟩ := Vals.get (i := i) (x := x) t (by simpa using e)
    exact ⟨u,by simpa using h1,h2⟩
theorem Vals.set {x : V} {u : Value} (r : RelV x u) : ∀ {xs : List V} {us : List Value} (i : Nat),Vals xs us → Vals (xs.set i x) (us.set i u)
  | _,_,_,.nil => .nil
  | _,_,0,.cons _ t => .cons r t
  | _,_,i + 1,.cons q t => .cons q (Vals.set r i t)
theorem Vals.append : ∀ {xs ys : List V} {us ws : List Value},Vals xs us → Vals ys ws → Vals (xs ++ ys) (us ++ ws)
  | _,_,_,_,.nil,s => s
  | _,_,_,_,.cons r t,s => .cons r (Vals.append t s)
theorem Vals.take : ∀ {xs : List V} {us : List Value} (n : Nat),Vals xs us → Vals (xs.take n) (us.take n)
  | _,_,0,_ => .nil
  | _,_,_ + 1,.nil => .nil
  | _,_,n + 1,.cons r t => .cons r (Vals.take n t)
theorem Vals.drop : ∀ {xs : List V} {us : List Value} (n : Nat),Vals xs us → Vals (xs.drop n) (us.drop n)
  | _,_,0,r => r
  | _,_,_ + 1,.nil => .nil
  | _,_,n + 1,.cons _ t => Vals.drop n t
def RelO : Option V → Option Value → Prop
  | some v,some u => RelV v u
  | none,none => True
  | _,_ => False
def KV {κ : Type} : List (κ × V) → List (κ × Value) → Prop := Paired fun (p : κ × V) (q : κ × Value) => p.1 = q.1 ∧ RelV p.2 q.2
def kV : Key → V
  | .inl i => .int i
  | .inr x => .str x
inductive HO where
  | lst (xs : List V)
  | tup (xs : List V)
  | dK (kvs : List (Key × V)) | dT (kvs : List (List Key × V))
  | set (S : Int → Bool) (n : Nat)
  | ins (C dx : Addr) (fs : List (Str × V))
  | own (x : Addr)
  | xd (fs : List (Str × V))
  | met (f x : Addr)
  | rng (lo hi : Int)
  | frz (o : Obj) (u : HO)
  | tbl (ps : Array Value)
  | ext (φ : Heap → Prop)
abbrev Hp := Addr → Option HO
def upd (H : Hp) (a : Addr) (o : HO) : Hp := fun b => if b = a then some o else H b
theorem upd_same {H : Hp} {a : Addr} {o : HO} : upd H a o a = some o := by unfold upd; rw [if_pos rfl]
theorem upd_ne {H : Hp} {a b : Addr} {o : HO} (h : b ≠ a) : upd H a o b = H b := by unfold upd; rw [if_neg h]
theorem ne_of_none {H : Hp} {a b : Addr} {o : HO} (h : H a = some o) (h' : H b = none) : a ≠ b := by
  intro e; subst e; rw [h] at h'; cases h'
section
variable (P : Program) (w : World)
def ObjOk (H : Hp) (h : Heap) (a : Addr) : HO → Prop
  | .lst xs => xs.length ≤ sizeLine ∧ ∃ (its : List Value) (n : Nat),Vals xs its ∧ h.get? a = some { cls := .type "list",data := .seq its.toArray n }
  | .tup xs => xs.length ≤ sizeLine ∧ ∃ its : List Value,Vals xs its ∧ IsTup h a its.toArray
  | .dK kvs => kvs.length ≤ sizeLine ∧ (a == sysModules) = false ∧ ∃ vs,KV kvs vs ∧ h.DictOf (mixKind P w) a vs
  | .dT kvs => kvs.length ≤ sizeLine ∧ (a == sysModules) = false ∧ ∃ xs : List (List Key × Addr × Value),
      Paired (fun (p : List Key × V) (q : List Key × Addr × Value) => p.1 = q.1 ∧ H q.2.1 = some (.tup (p.1.map kV)) ∧ RelV p.2 q.2.2) kvs xs ∧
      ∃ o es ep,h.get? a = some o ∧ o.ExactDict ∧ o.data = .dict es ep ∧ es.toList = xs.map (entryOfKey (tupleKind (mixKind P w))) ∧ (xs.map (·.1)).Nodup
  | .set S n => h.SetOf (intKind P w) a S n
  | .ins C dx fs => H dx = some (.own a) ∧ fs.length ≤ 1000 ∧ dx ≠ a ∧ h.get? a = some (PySem.W.instObj C dx) ∧
      ∃ mA,h.Ns1 dx mA ∧ (∀ f,RelO (fs.lookup f) (mA f)) ∧ PySem.Within mA (fs.map (·.1))
  | .own _ => ∃ o,h.get? a = some o
  | .xd fs => ∃ mA,h.Ns1 a mA ∧ ∀ f,RelO (fs.lookup f) (mA f)
  | .rng lo hi => ∃ t u v,h.get? a = some { cls := .type "range",data := .fields #[.int lo t,.int hi u,.int 1 v] }
  | .frz o u => h.get? a = some o ∧ ObjOk H h a u
  | .tbl ps => h.get? a = some { cls := .none,data := .fields ps }
  | .met f x => h.get? a = some (PySem.W.methodObj (.ref f) (.ref x))
  | .ext φ => φ h ∧ (∃ o,h.get? a = some o) ∧ ∀ h1 h2 : Heap,φ h1 → (∀ o,h1.get? a = some o → h2.get? a = some o) → φ h2
def HOk (H : Hp) (h : Heap) : Prop := ∀ a o,H a = some o → ObjOk P w H h a o
end
section
variable {P : Program} {w : World} {H H' : Hp} {h h' : Heap} {a : Addr} {o : HO}
theorem ObjOk.lt (x : ObjOk P w H h a o) : a < h.objs.size := by
  cases o with
  | lst xs => obtain ⟨_,_,_,_,e⟩ := x; exact Heap.lt_size e
  | tup xs => obtain ⟨_,_,_,p⟩ := x; exact p.lt
  | dK kvs => obtain ⟨_,_,_,_,o,_,_,e,_⟩ := x; exact Heap.lt_size e
  | dT kvs => obtain ⟨_,_,_,_,o,_,_,e,_⟩ := x; exact Heap.lt_size e
  | set S n => obtain ⟨o,_,_,_,e,_⟩ := x; exact Heap.lt_size e
  | ins C dx fs => obtain ⟨_,_,_,e,_⟩ := x; exact Heap.lt_size e
  | own y => obtain ⟨_,e⟩ := x; exact Heap.lt_size e
  | xd fs => obtain ⟨_,⟨_,_,_,e,_⟩,_⟩ := x; exact Heap.lt_size e
  | rng lo hi => obtain ⟨_,_,_,e⟩ := x; exact Heap.lt_size e
  | frz ob u => obtain ⟨e,_⟩ := x; exact Heap.lt_size e
  | tbl ps => exact Heap.lt_size (show h.get? a = some _ from x)
  | met f y => exact Heap.lt_size (show h.get? a = some _ from x)
  | ext φ => obtain ⟨_,⟨_,e⟩,_⟩ := x; exact Heap.lt_size e
theorem Paired.mapP {α β : Type} {F G : α → β → Prop} : ∀ {l₁ : List α} {l₂ : List β},Paired F l₁ l₂ → (∀ a b,F a b → G a b) → Paired G l₁ l₂
  | _,_,.nil,_ => .nil
  | _,_,.cons r t,f => .cons (f _ _ r) (Paired.mapP t f)
theorem ObjOk.stay (x : ObjOk P w H h a o) (k : ∀ b u,(b = a ∨ H b = some (.own a)) → h.get? b = some u → h'.get? b = some u)
    (ho : ∀ b,H b = some (.own a) → H' b = some (.own a)) (ht : ∀ b xs,H b = some (.tup xs) → H' b = some (.tup xs)) : ObjOk P w H' h' a o := by
  induction o with
  | lst xs => obtain ⟨z,its,n,r,e⟩ := x; exact ⟨z,its,n,r,k _ _ (.inl rfl) e⟩
  | tup xs => obtain ⟨z,its,r,ob,e,c⟩ := x; exact ⟨z,its,r,ob,k _ _ (.inl rfl) e,c⟩
  | dK kvs => obtain ⟨z,y,vs,r,ob,es,ep,e,c⟩ := x; exact ⟨z,y,vs,r,ob,es,ep,k _ _ (.inl rfl) e,c⟩
  | dT kvs =>
    obtain ⟨z,y,xs,r,ob,es,ep,e,c⟩ := x
    exact ⟨z,y,xs,Paired.mapP r fun p q z => ⟨z.1,ht _ _ z.2.1,z.2.2⟩,ob,es,ep,k _ _ (.inl rfl) e,c⟩
  | set S n => obtain ⟨ob,es,ep,t,e,c⟩ := x; exact ⟨ob,es,ep,t,k _ _ (.inl rfl) e,c⟩
  | ins C dx fs =>
    obtain ⟨d,z,ne,e,mA,⟨od,es,ep,e2,c⟩,r⟩ := x
    exact ⟨ho _ d,z,ne,k _ _ (.inl rfl) e,mA,⟨od,es,ep,k _ _ (.inr d) e2,c⟩,r⟩
  | own y => obtain ⟨ob,e⟩ := x; exact ⟨ob,k _ _ (.inl rfl) e⟩
  | xd fs => obtain ⟨mA,⟨od,es,ep,e,c⟩,r⟩ := x; exact ⟨mA,⟨od,es,ep,k _ _ (.inl rfl) e,c⟩,r⟩
  | rng lo hi => obtain ⟨t,u,v,e⟩ := x; exact ⟨t,u,v,k _ _ (.inl rfl) e⟩
  | frz ob u ih => obtain ⟨e,q⟩ := x; exact ⟨k _ _ (.inl rfl) e,ih q⟩
  | tbl ps =>
    have e : h.get? a = some { cls := .none,data := .fields ps } := x
    show h'.get? a = some { cls := .none,data := .fields ps }
    exact k a _ (.inl rfl) e
  | met f y =>
    have e : h.get? a = some (PySem.W.methodObj (.ref f) (.ref y)) := x
    show h'.get? a = some (PySem.W.methodObj (.ref f) (.ref y))
    exact k a _ (.inl rfl) e
  | ext φ => obtain ⟨p,⟨o,e⟩,st⟩ := x; exact ⟨st _ _ p fun o q => k _ _ (.inl rfl) q,⟨o,k _ _ (.inl rfl) e⟩,st⟩
theorem HOk.lt (x : HOk P w H h) (e : H a = some o) : a < h.objs.size := (x a o e).lt
theorem HOk.fresh (x : HOk P w H h) (e : h.objs.size ≤ a) : H a = none := by
  cases q : H a with
  | none => rfl
  | some u => exact absurd (Nat.lt_of_lt_of_le (x.lt q) e) (Nat.lt_irrefl _)
theorem HOk.kept (x : HOk P w H h) (k : ∀ b u,h.get? b = some u → h'.get? b = some u) : HOk P w H h' := fun a o e =>
  (x a o e).stay (fun b u _ q => k b u q) (fun _ q => q) fun _ _ q => q
theorem HOk.laid (x : HOk P w H h) (k : ∀ b u,h.get? b = some u → h'.get? b = some u) (hp : h.objs.size ≤ a) (new : ObjOk P w (upd H a o) h' a o) : HOk P w (upd H a o) h' := fun b u e => by
  have hn := x.fresh hp
  by_cases hb : b = a
  · subst hb; rw [upd_same] at e; cases e; exact new
  · rw [upd_ne hb] at e
    exact (x b u e).stay (fun c v _ q => k c v q) (fun c q => by rw [upd_ne (ne_of_none q hn)]; exact q) fun c xs q => by rw [upd_ne (ne_of_none q hn)]; exact q
end
def Rd (H : Hp) (a : Addr) (u : HO) : Prop := H a = some u ∨ ∃ o,H a = some (.frz o u)
theorem Rd.ok {P : Program} {w : World} {H : Hp} {h : Heap} {a : Addr} {u : HO} (r : Rd H a u) (x : HOk P w H h) : ObjOk P w H h a u := by
  rcases r with r | ⟨o,r⟩
  · exact x a u r
  · obtain ⟨_,q⟩ := x a _ r
    exact q
def Mut : Option HO → Prop
  | some (.lst _) => True
  | some (.dK _) => True
  | some (.dT _) => True
  | some (.set _ _) => True
  | some (.ins _ _ _) => True
  | some (.ext _) => True
  | _ => False
section
variable {P : Program} {w : World} {H : Hp} {h h' : Heap} {x e : Addr} {o' : HO}
theorem HOk.write (ok : HOk P w H h) (mu : Mut (H x)) (he : e = x ∨ H e = some (.own x)) (k : ∀ b u,b ≠ e → h.get? b = some u → h'.get? b = some u) (heo : ∃ u,h'.get? e = some u)
    (new : ObjOk P w (upd H x o') h' x o') : HOk P w (upd H x o') h' := fun b u q => by
  have nown : ∀ c y,H c = some (.own y) → c ≠ x := fun c y r z => by subst z; rw [r] at mu; exact mu
  have ntup : ∀ c xs,H c = some (.tup xs) → c ≠ x := fun c xs r z => by subst z; rw [r] at mu; exact mu
  by_cases hb : b = x
  · subst hb; rw [upd_same] at q; cases q; exact new
  · rw [upd_ne hb] at q
    by_cases hbe : b = e
    · have q' : H b = some (.own x) := by
        rcases he with z | z
        · exact absurd (hbe.trans z) hb
        · rw [hbe]; exact z
      rw [q] at q'; cases q'
      obtain ⟨v,hv⟩ := heo
      exact ⟨v,by rw [hbe]; exact hv⟩
    · refine (ok b u q).stay (fun c v hc r => k c v ?_ r) (fun c r => by rw [upd_ne (nown c b r)]; exact r) fun c xs r => by rw [upd_ne (ntup c xs r)]; exact r
      rcases hc with rfl | hc
      · exact hbe
      · rintro rfl
        rcases he with z | z
        · exact nown c b hc z
        · rw [hc] at z; cases z; exact hb rfl
end
structure Un (fs ex : List Addr) (H H' : Hp) (h h' : Heap) : Prop where
  keep : ∀ b o,h.get? b = some o → H b = none → b ∉ fs → b ∉ ex → h'.get? b = some o
  slot : ∀ b o,h.get? b = some o → H b = none → b ∈ fs → b ∉ ex → ∃ sl,h'.get? b = some { o with slots := sl }
  free : ∀ b o,h.get? b = some o → H b = none → b ∉ ex → H' b = none
  there : ∀ b o,h.get? b = some o → b ∉ ex → ∃ o',h'.get? b = some o'
  tups : ∀ b xs,H b = some (.tup xs) → H' b = some (.tup xs)
  frzs : ∀ b o u,H b = some (.frz o u) → H' b = some (.frz o u)
  tbls : ∀ b ps,H b = some (.tbl ps) → ∃ more,H' b = some (.tbl (ps ++ more))
section
variable {fs fs' ex ex' : List Addr} {H H1 H2 : Hp} {h h1 h2 h' : Heap} {a x e : Addr} {o : HO}
theorem Un.any (u : Un fs ex H H1 h h1) {b : Addr} {ob : Obj} (q : h.get? b = some ob) (n : H b = none) (hx : b ∉ ex) : ∃ sl,h1.get? b = some { ob with slots := sl } := by
  by_cases hb : b ∈ fs
  · exact u.slot b ob q n hb hx
  · exact ⟨ob.slots,u.keep b ob q n hb hx⟩
theorem Un.kept (k : ∀ b u,h.get? b = some u → h'.get? b = some u) : Un fs ex H H h h' :=
  ⟨fun b ob q _ _ _ => k b ob q,fun b ob q _ _ _ => ⟨ob.slots,k b ob q⟩,fun _ _ _ n _ => n,fun b ob q _ => ⟨ob,k b ob q⟩,fun _ _ q => q,fun _ _ _ q => q,fun _ ps q => ⟨#[],by rw [q]; simp⟩⟩
theorem Un.refl : Un fs ex H H h h := Un.kept fun _ _ q => q
theorem Un.laid (k : ∀ b u,h.get? b = some u → h'.get? b = some u) (hp : h.objs.size ≤ a) (hn : H a = none) : Un fs ex H (upd H a o) h h' where
  keep := fun b u q _ _ _ => k b u q
  slot := fun b u q _ _ _ => ⟨u.slots,k b u q⟩
  free := fun b u q n _ => by rw [upd_ne (Nat.ne_of_lt (Nat.lt_of_lt_of_le (Heap.lt_size q) hp))]; exact n
  there := fun b u q _ => ⟨u,k b u q⟩
  tups := fun b xs q => by rw [upd_ne (ne_of_none q hn)]; exact q
  frzs := fun b u xs q => by rw [upd_ne (ne_of_none q hn)]; exact q
  tbls := fun b ps q => ⟨#[],by rw [upd_ne (ne_of_none q hn),q]; simp⟩
theorem Un.write (mu : Mut (H x)) (he : e = x ∨ H e = some (.own x)) (k : ∀ b u,b ≠ e → h.get? b = some u → h'.get? b = some u) (heo : ∃ u,h'.get? e = some u) : Un fs ex H (upd H x o) h h' := by
  have hx : ∀ b,H b = none → b ≠ x := fun b n z => by subst z; rw [n] at mu; exact mu
  have hb : ∀ b,H b = none → b ≠ e := fun b n z => by
    subst z
    rcases he with r | r
    · exact hx b n r
    · rw [n] at r; cases r
  have hm : ∀ b u,H b = some u → ¬ Mut (some u) → b ≠ x := fun b u q nm z => by subst z; rw [q] at mu; exact nm mu
  refine ⟨fun b u q n _ _ => k b u (hb b n) q,fun b u q n _ _ => ⟨u.slots,k b u (hb b n) q⟩,fun b u q n _ => by rw [upd_ne (hx b n)]; exact n,fun b u q _ => ?_,
    fun b xs q => by rw [upd_ne (hm b _ q fun z => z)]; exact q,fun b u xs q => by rw [upd_ne (hm b _ q fun z => z)]; exact q,fun b ps q => ⟨#[],by rw [upd_ne (hm b _ q fun z => z),q]; simp⟩⟩
  by_cases hbe : b = e
  · subst hbe; exact heo
  · exact ⟨u,k b u hbe q⟩
end
def trk (h : Heap) (H : Hp) : List Addr := (List.range h.objs.size).filter fun a => (H a).isSome
def hidT (h : Heap) (H : Hp) : Heap := PySem.W.hideAll h (trk h H)
theorem hidT_size (h : Heap) (H : Hp) : (hidT h H).objs.size = h.objs.size := PySem.W.hideAll_size _ _
theorem hidT_get {h : Heap} {H : Hp} {b : Addr} {o : Obj} (e : h.get? b = some o) (n : H b = none) : (hidT h H).get? b = some o :=
  PySem.W.hideAll_get _ e fun hm => by
    have q : (H b).isSome = true := (List.mem_filter.mp hm).2
    rw [n] at q; simp at q
theorem of_hidT {h : Heap} {H : Hp} {b : Addr} {o : Obj} (e : (hidT h H).get? b = some o) : h.get? b = some o ∧ H b = none := by
  have e' : h.get? b = some o := PySem.W.of_hideAll (trk h H) e
  refine ⟨e', ?_⟩
  cases q : H b with
  | none => rfl
  | some x =>
    have hm : b ∈ trk h H := List.mem_filter.mpr ⟨List.mem_range.mpr (Heap.lt_size e'),by simp [q]⟩
    have z : (hidT h H).get? b = none := PySem.W.hideAll_none (trk h H) hm
    rw [z] at e; cases e
end L2
namespace L2
open PySem PySem.Spec PyProof.Rows
structure Mod (K : PySem.W.Frag) (mg : Str → Option Value) (base : Heap) : Prop where
  kin : K.In base
  glob : base.Ns mainGlobals mg
  blt : ∃ mb,base.Ns builtinsNs mb ∧ ∀ x : Str,x ≠ "__name__" → mb x = bootBuiltins x
  nolimit : base.NoLimit
structure Cx where
  prog : Program
  w : World
  K : PySem.W.Frag
  mg : Str → Option Value
  base : Heap
  A : Around
  N : List Str
  s₀ : Shared
  H₀ : Hp
  env : Env
  outer : List Env
  stack : List Env
  ex : List Addr
  fn : Str → Bool
  calm : Bool
  pn : List (Addr × Obj)
  xe : Value → Shared → Prop
def frs (l : List Env) : List Addr := l.filterMap (·.frame)
abbrev Cx.fs (X : Cx) : List Addr := frs X.outer
def Vis (sc : Scope) (x : Str) : Prop := sc.names.lookup x = some .local ∨ sc.names.lookup x = some .cell ∨ sc.names.lookup x = some .free
def Loc (sc : Scope) (x : Str) : Prop := sc.names.lookup x = some .local ∨ sc.names.lookup x = some .cell
def Look (env : Env) (h : Heap) (m : Str → Option Value) (x : Str) (u : Value) : Prop :=
  (env.kindOf x = some .local ∧ m x = some u) ∨ ((env.kindOf x = some .cell ∨ env.kindOf x = some .free) ∧ ∃ c,env.cells.lookup x = some c ∧ h.IsCell c (some u))
structure Cx.Ok (X : Cx) : Prop where
  mod : Mod X.K X.mg X.base
  kind : X.env.scope.kind = .function
  glob : X.env.globals = mainGlobals
  blt : X.env.builtins = builtinsNs
  above : X.s₀.heap.objs.size ≤ X.env.locals
  inj : ∀ x y c,X.env.cells.lookup x = some c → X.env.cells.lookup y = some c → x = y
  has : ∀ x,(X.env.kindOf x = some .cell ∨ X.env.kindOf x = some .free) → ∃ c,X.env.cells.lookup x = some c
  cab : ∀ x c,X.fn x = true → X.env.cells.lookup x = some c → X.s₀.heap.objs.size ≤ c
  hd : X.calm = true → X.A.handled = none
  frames : X.A.frames = some X.stack
  stk : X.stack = X.outer ∨ (X.stack = X.env :: X.outer ∧ X.env.frame = some X.env.locals)
  exf : ∀ b ∈ X.ex,b ≠ X.env.locals ∧ ∀ x c,X.env.cells.lookup x = some c → c ≠ b
  bs : ∀ b o,X.base.get? b = some o → X.s₀.heap.get? b = some o ∧ X.H₀ b = none
  bsz : X.base.objs.size ≤ X.s₀.heap.objs.size
  noex : ∀ b o,X.base.get? b = some o → b ∉ X.ex
  exfs : ∀ b ∈ X.ex,b ∉ X.fs
  funs : X.s₀.heap.FunFrames X.base X.outer
  frf : ∀ b ∈ X.fs,X.H₀ b = none
structure Inv (X : Cx) (pins : List (Addr × Obj)) (σ : List (Option V)) (H : Hp) (s : Shared) : Prop where
  ok : X.Ok
  os : s.os = X.s₀.os
  bare : AllBare s.gens
  base : Un X.fs X.ex X.H₀ H X.s₀.heap s.heap
  loc : ∃ m,s.heap.Ns X.env.locals m ∧ ∀ (i : Nat) (x : Str) (v : V),X.N[i]? = some x → σ[i]? = some (some v) → Vis X.env.scope x → ∃ u,RelV v u ∧ Look X.env s.heap m x u
  cell : ∀ x c,X.env.cells.lookup x = some c → ∃ v,s.heap.IsCell c v
  free : H X.env.locals = none
  freeC : ∀ x c,X.env.cells.lookup x = some c → H c = none
  pin : ∀ p ∈ X.pn ++ pins,s.heap.get? p.1 = some p.2 ∧ H p.1 = none ∧ p.1 ≠ X.env.locals ∧ p.1 ∉ X.fs ∧ ∀ v,p.2.data ≠ .cell v
  hok : HOk X.prog X.w H s.heap
  len : σ.length = X.N.length
section
variable {X : Cx} {pins : List (Addr × Obj)} {σ : List (Option V)} {H H' : Hp} {s : Shared} {h' : Heap}
theorem Cx.Ok.nofr (ok : X.Ok) {b : Addr} {o : Obj} (e : X.base.get? b = some o) : b ∉ X.fs := fun hb => by
  have := (ok.funs.mem hb).1
  rw [e] at this; cases this
theorem Inv.bs (I : Inv X pins σ H s) : ∀ b o,X.base.get? b = some o → s.heap.get? b = some o ∧ H b = none := fun b o e =>
  ⟨I.base.keep b o (I.ok.bs b o e).1 (I.ok.bs b o e).2 (I.ok.nofr e) (I.ok.noex b o e),I.base.free b o (I.ok.bs b o e).1 (I.ok.bs b o e).2 (I.ok.noex b o e)⟩
theorem Inv.bk (I : Inv X pins σ H s) : ∀ b o,X.base.get? b = some o → s.heap.get? b = some o := fun b o e => (I.bs b o e).1
theorem Inv.mod (I : Inv X pins σ H s) : Mod X.K X.mg X.base := I.ok.mod
theorem Inv.kIn (I : Inv X pins σ H s) : X.K.In s.heap := I.ok.mod.kin.keeps I.bk
theorem Inv.lt (I : Inv X pins σ H s) : X.env.locals < s.heap.objs.size := let ⟨_,hn,_⟩ := I.loc; hn.lt
theorem Inv.sz (I : Inv X pins σ H s) : X.s₀.heap.objs.size ≤ s.heap.objs.size := Nat.le_trans I.ok.above (Nat.le_of_lt I.lt)
theorem Inv.nofs (I : Inv X pins σ H s) {a : Addr} (h : s.heap.objs.size ≤ a) : a ∉ X.fs := fun hb => by
  obtain ⟨_,o,ho,_⟩ := I.ok.funs.mem hb
  exact absurd (Nat.lt_of_lt_of_le (Heap.lt_size ho) (Nat.le_trans I.sz h)) (Nat.lt_irrefl _)
theorem Inv.cne (I : Inv X pins σ H s) : ∀ x c,X.env.cells.lookup x = some c → c ≠ X.env.locals := fun x c e z => by
  obtain ⟨v,o,ho,hd⟩ := I.cell x c e
  obtain ⟨m,⟨o',es,ep,ho',hd',_⟩,_⟩ := I.loc
  rw [z,ho'] at ho; cases ho; rw [hd'] at hd; cases hd
theorem Inv.funs (I : Inv X pins σ H s) : s.heap.FunFrames X.base X.outer := by
  have all : ∀ (l : List Env),(∀ b ∈ frs l,b ∈ X.fs) → X.s₀.heap.FunFrames X.base l → s.heap.FunFrames X.base l := by
    intro l
    induction l with
    | nil => intro _ _; trivial
    | cons env r ih =>
      intro hs hl
      obtain ⟨hk,⟨L,o,hf,hn,ho,hd⟩,hr⟩ := hl
      have hL : L ∈ X.fs := hs L (by unfold frs; rw [List.filterMap_cons,hf]; exact List.mem_cons_self)
      obtain ⟨sl,e⟩ := I.base.slot L o ho (I.ok.frf L hL) hL fun z => I.ok.exfs L z hL
      exact ⟨hk,⟨L,_,hf,hn,e,hd⟩,ih (fun b hb => hs b (by unfold frs; rw [List.filterMap_cons,hf]; exact List.mem_cons_of_mem _ hb)) hr⟩
  exact all X.outer (fun _ hb => hb) I.ok.funs
theorem Inv.stack (I : Inv X pins σ H s) : s.heap.FunFrames X.base X.stack := by
  rcases I.ok.stk with e | ⟨e,hf⟩
  · rw [e]; exact I.funs
  · rw [e]
    obtain ⟨m,hn,_⟩ := I.loc
    refine .cons (by rw [I.ok.kind]; decide) hf hn ?_ I.funs
    exact Heap.get?_none_of_le (Nat.le_trans I.ok.bsz I.ok.above)
theorem Inv.stkSub (I : Inv X pins σ H s) : ∀ b ∈ frs X.stack,b ∈ X.env.locals :: X.fs := fun b hb => by
  rcases I.ok.stk with e | ⟨e,hf⟩
  · rw [e] at hb; exact List.mem_cons_of_mem _ hb
  · rw [e] at hb
    unfold frs at hb
    rw [List.filterMap_cons,hf] at hb
    exact hb
theorem Inv.stkFree (I : Inv X pins σ H s) : ∀ b ∈ frs X.stack,H b = none := fun b hb => by
  rcases List.mem_cons.mp (I.stkSub b hb) with e | hb
  · rw [e]; exact I.free
  · obtain ⟨_,o,ho,_⟩ := I.ok.funs.mem hb
    exact I.base.free b o ho (I.ok.frf b hb) fun z => I.ok.exfs b z hb
theorem Inv.step {g' : Array GenState} {t' : Nat} {d' : Drawn} {ch : List Addr} (I : Inv X pins σ H s)
    (hch : ∀ b ∈ ch,(b ∈ X.ex ∨ X.s₀.heap.objs.size ≤ b) ∧ b ≠ X.env.locals ∧ (∀ x c,X.env.cells.lookup x = some c → c ≠ b) ∧ ∀ p ∈ X.pn ++ pins,p.1 ≠ b)
    (keep : ∀ b o,b ≠ X.env.locals → b ∉ X.fs → b ∉ ch → s.heap.get? b = some o → H b = none → h'.get? b = some o)
    (slot : ∀ b o,b ≠ X.env.locals → b ∈ X.fs → b ∉ ch → s.heap.get? b = some o → H b = none → ∃ sl,h'.get? b = some { o with slots := sl }) (free : ∀ b o,b ∉ ch → s.heap.get? b = some o → H b = none → H' b = none)
    (there : ∀ b o,b ∉ ch → s.heap.get? b = some o → ∃ o',h'.get? b = some o')
    (tups : ∀ b xs,H b = some (.tup xs) → H' b = some (.tup xs)) (frzs : ∀ b o u,H b = some (.frz o u) → H' b = some (.frz o u)) (tbls : ∀ b ps,H b = some (.tbl ps) → ∃ more,H' b = some (.tbl (ps ++ more)))
    (ns : ∀ m,s.heap.Ns X.env.locals m → h'.Ns X.env.locals m) (hok : HOk X.prog X.w H' h') (hg : AllBare g') :
    Inv X pins σ H' { s with heap := h',gens := g',drawn := d',toks := t' } := by
  have neL : ∀ b o,X.s₀.heap.get? b = some o → b ≠ X.env.locals := fun b o e => Nat.ne_of_lt (Nat.lt_of_lt_of_le (Heap.lt_size e) I.ok.above)
  have neC : ∀ b o,X.s₀.heap.get? b = some o → b ∉ X.ex → b ∉ ch := fun b o e hx hb => by
    rcases (hch b hb).1 with z | z
    · exact hx z
    · exact absurd (Nat.lt_of_lt_of_le (Heap.lt_size e) z) (Nat.lt_irrefl _)
  have cellK : ∀ x c,X.env.cells.lookup x = some c → ∀ v,s.heap.IsCell c v → h'.IsCell c v := fun x c e v ⟨o,ho,hd⟩ => by
    have nch : c ∉ ch := fun z => (hch c z).2.2.1 x c e rfl
    by_cases hc : c ∈ X.fs
    · obtain ⟨sl,q⟩ := slot c o (I.cne x c e) hc nch ho (I.freeC x c e)
      exact ⟨_,q,hd⟩
    · exact ⟨o,keep c o (I.cne x c e) hc nch ho (I.freeC x c e),hd⟩
  refine ⟨I.ok,I.os,hg,⟨fun b o e n hb hx => ?_,fun b o e n hb hx => ?_,fun b o e n hx => ?_,fun b o e hx => ?_,fun b xs e => tups b xs (I.base.tups b xs e),fun b o xs e => frzs b o xs (I.base.frzs b o xs e),fun b ps e => ?_⟩, ?_,fun x c e => ?_, ?_,fun x c e => ?_,fun p hp => ?_,hok,I.len⟩
  · exact keep b o (neL b o e) hb (neC b o e hx) (I.base.keep b o e n hb hx) (I.base.free b o e n hx)
  · obtain ⟨sl,e1⟩ := I.base.slot b o e n hb hx
    obtain ⟨sl',e2⟩ := slot b _ (neL b o e) hb (neC b o e hx) e1 (I.base.free b o e n hx)
    exact ⟨sl',e2⟩
  · obtain ⟨o',e1⟩ := I.base.there b o e hx
    exact free b o' (neC b o e hx) e1 (I.base.free b o e n hx)
  · obtain ⟨o',e1⟩ := I.base.there b o e hx
    exact there b o' (neC b o e hx) e1
  · obtain ⟨m1,e1⟩ := I.base.tbls b ps e
    obtain ⟨m2,e2⟩ := tbls b _ e1
    exact ⟨m1 ++ m2,by rw [e2,Array.append_assoc]⟩
  · obtain ⟨m,hn,hl⟩ := I.loc
    refine ⟨m,ns m hn,fun i x v e1 e2 e3 => ?_⟩
    obtain ⟨u,r,l⟩ := hl i x v e1 e2 e3
    refine ⟨u,r, ?_⟩
    rcases l with l | ⟨k,c,e,z⟩
    · exact .inl l
    · exact .inr ⟨k,c,e,cellK x c e _ z⟩
  · obtain ⟨v,z⟩ := I.cell x c e
    exact ⟨v,cellK x c e v z⟩
  · obtain ⟨m,⟨o,_,_,ho,_⟩,_⟩ := I.loc
    exact free _ o (fun z => (hch _ z).2.1 rfl) ho I.free
  · obtain ⟨v,o,ho,hd⟩ := I.cell x c e
    exact free c o (fun z => (hch c z).2.2.1 x c e rfl) ho (I.freeC x c e)
  · obtain ⟨e,n,ne,nf,d⟩ := I.pin p hp
    have nch : p.1 ∉ ch := fun z => (hch p.1 z).2.2.2 p hp rfl
    exact ⟨keep p.1 p.2 ne nf nch e n,free p.1 p.2 nch e n,ne,nf,d⟩
theorem Inv.un {t' : Nat} (I : Inv X pins σ H s) (u : Un X.fs [] H H' s.heap h') (hok : HOk X.prog X.w H' h') : Inv X pins σ H' { s with heap := h',toks := t' } := by
  obtain ⟨m,⟨o,es,ep,ho,r⟩,_⟩ := id I.loc
  obtain ⟨sl,hL⟩ := u.any ho I.free (by simp)
  exact I.step (g' := s.gens) (d' := s.drawn) (ch := []) (fun _ z => nomatch z) (fun b o _ hb _ e n => u.keep b o e n hb (by simp)) (fun b o _ hb _ e n => u.slot b o e n hb (by simp)) (fun b o _ e n => u.free b o e n (by simp)) (fun b o _ e => u.there b o e (by simp)) u.tups u.frzs u.tbls (fun m' hm => by
    obtain ⟨o',es',ep',ho',r'⟩ := hm
    rw [ho] at ho'; cases ho'
    exact ⟨_,es',ep',hL,r'⟩) hok I.bare
theorem Inv.call {g' : Array GenState} {t' : Nat} {d' : Drawn} {ch : List Addr} (I : Inv X pins σ H s) (u : Un (frs X.stack) ch H H' s.heap h') (hok : HOk X.prog X.w H' h') (hg : AllBare g')
    (hch : ∀ b ∈ ch,(b ∈ X.ex ∨ X.s₀.heap.objs.size ≤ b) ∧ b ≠ X.env.locals ∧ (∀ x c,X.env.cells.lookup x = some c → c ≠ b) ∧ ∀ p ∈ X.pn ++ pins,p.1 ≠ b) :
    Inv X pins σ H' { s with heap := h',gens := g',drawn := d',toks := t' } := by
  obtain ⟨m,⟨o,es,ep,ho,r⟩,_⟩ := id I.loc
  obtain ⟨sl,hL⟩ := u.any ho I.free fun z => (hch _ z).2.1 rfl
  exact I.step (ch := ch) hch (fun b o hL hb hc e n => u.keep b o e n (fun z => (List.mem_cons.mp (I.stkSub b z)).elim hL hb) hc) (fun b o _ _ hc e n => u.any e n hc) (fun b o hc e n => u.free b o e n hc) (fun b o hc e => u.there b o e hc) u.tups u.frzs u.tbls (fun m' hm => by
    obtain ⟨o',es',ep',ho',r'⟩ := hm
    rw [ho] at ho'; cases ho'
    exact ⟨_,es',ep',hL,r'⟩) hok hg
theorem Inv.turned {t' : Nat} {it : Addr} (I : Inv X pins σ H s) (k : ∀ b o,b ≠ it → s.heap.get? b = some o → h'.get? b = some o) (hn : H it = none) (hL : it ≠ X.env.locals)
    (h1 : it ∈ X.ex ∨ X.s₀.heap.objs.size ≤ it) (h2 : ∀ x c,X.env.cells.lookup x = some c → c ≠ it) (h3 : ∀ p ∈ X.pn ++ pins,p.1 ≠ it) : Inv X pins σ H { s with heap := h',toks := t' } := by
  have nit : ∀ b u,H b = some u → b ≠ it := fun b u e z => by rw [z,hn] at e; cases e
  refine I.step (g' := s.gens) (d' := s.drawn) (ch := [it]) (fun b hb => ?_) (fun b o _ _ hc e _ => k b o (fun z => hc (by simp [z])) e) (fun b o _ _ hc e _ => ⟨o.slots,k b o (fun z => hc (by simp [z])) e⟩) (fun _ _ _ _ n => n)
    (fun b o hc e => ⟨o,k b o (fun z => hc (by simp [z])) e⟩) (fun _ _ e => e) (fun _ _ _ e => e) (fun b ps e => ⟨#[],by rw [e]; simp⟩) (fun m hm => ?_) (fun b u e => ?_) I.bare
  · have e : b = it := by simpa using hb
    subst e
    exact ⟨h1,hL,h2,h3⟩
  · obtain ⟨o,es,ep,ho,r⟩ := hm
    exact ⟨o,es,ep,k _ o (Ne.symm hL) ho,r⟩
  · refine (I.hok b u e).stay (fun c v hc q => k c v ?_ q) (fun _ q => q) fun _ _ q => q
    rcases hc with z | z
    · rw [z]; exact nit b u e
    · exact nit c _ z
theorem Inv.tok (I : Inv X pins σ H s) (t : Nat) : Inv X pins σ H { s with toks := t } := I.un (h' := s.heap) (t' := t) Un.refl I.hok
theorem Inv.kept {t' : Nat} (I : Inv X pins σ H s) (k : ∀ b u,s.heap.get? b = some u → h'.get? b = some u) : Inv X pins σ H { s with heap := h',toks := t' } := I.un (Un.kept k) (I.hok.kept k)
theorem Inv.laid {a : Addr} {o : HO} {t' : Nat} (I : Inv X pins σ H s) (k : ∀ b u,s.heap.get? b = some u → h'.get? b = some u) (hp : s.heap.objs.size ≤ a) (new : ObjOk X.prog X.w (upd H a o) h' a o) :
    Inv X pins σ (upd H a o) { s with heap := h',toks := t' } := I.un (Un.laid k hp (I.hok.fresh hp)) (I.hok.laid k hp new)
theorem Inv.write {x e : Addr} {o : HO} {t' : Nat} (I : Inv X pins σ H s) (mu : Mut (H x)) (he : e = x ∨ H e = some (.own x)) (k : ∀ b u,b ≠ e → s.heap.get? b = some u → h'.get? b = some u) (heo : ∃ u,h'.get? e = some u)
    (new : ObjOk X.prog X.w (upd H x o) h' x o) : Inv X pins σ (upd H x o) { s with heap := h',toks := t' } := I.un (Un.write mu he k heo) (I.hok.write mu he k heo new)
theorem Inv.pins_of {pins' : List (Addr × Obj)} (I : Inv X pins σ H s) (h : ∀ p ∈ pins',s.heap.get? p.1 = some p.2 ∧ H p.1 = none ∧ p.1 ≠ X.env.locals ∧ p.1 ∉ X.fs ∧ ∀ v,p.2.data ≠ .cell v) : Inv X pins' σ H s :=
  ⟨I.ok,I.os,I.bare,I.base,I.loc,I.cell,I.free,I.freeC,fun p hp => (List.mem_append.mp hp).elim (fun z => I.pin p (List.mem_append_left _ z)) (h p),I.hok,I.len⟩
theorem nodup_ix {N : List Str} (hN : N.Nodup) {i j : Nat} {x : Str} (a : N[i]? = some x) (b : N[j]? = some x) : i = j := by
  obtain ⟨h1,e1⟩ := List.getElem?_eq_some_iff.mp a
  obtain ⟨h2,e2⟩ := List.getElem?_eq_some_iff.mp b
  exact (List.getElem_inj hN).mp (e1.trans e2.symm)
theorem store_ok2 {M : Model} {A : Around} {E : Value → Shared → Prop} {i : Nat} {x : Str} {v : V} {u : Value} {Q : Unit → Shared → Prop} (I : Inv X pins σ H s) (hN : X.N.Nodup) (hi : X.N[i]? = some x) (hx : Loc X.env.scope x) (r : RelV v u)
    (h : ∀ s',Inv X pins (σ.set i (some v)) H s' → (∃ a,Heap.SameBut a s.heap s'.heap ∧ (a = X.env.locals ∨ X.env.cells.lookup x = some a)) → Q () s') (hf : X.fn x = true ∨ X.env.scope.names.lookup x = some .local := by first | exact .inl rfl | exact .inr rfl | assumption) : wpAny M A (storeName X.env x u) Q E s := by
  obtain ⟨m,hn,hl⟩ := id I.loc
  have hcls : (X.env.scope.kind == .class || (X.env.scope.kind == .module && X.env.locals != X.env.globals)) = false := by rw [I.ok.kind]; rfl
  have hiσ : i < σ.length := by rw [I.len]; exact (List.getElem?_eq_some_iff.mp hi).1
  have cne := I.cne
  have tracked : ∀ {a : Addr} {h' : Heap},(∃ o,s.heap.get? a = some o ∧ H a = none) → Heap.SameBut a s.heap h' → HOk X.prog X.w H h' := fun {a h'} ha hs b ob e => by
    obtain ⟨_,_,hfree⟩ := ha
    refine (I.hok b ob e).stay (fun c w' hc q => (hs.2 c ?_).trans q) (fun _ q => q) fun _ _ q => q
    rintro rfl
    rcases hc with rfl | hc
    · rw [hfree] at e; cases e
    · rw [hfree] at hc; cases hc
  rcases hx with hk | hk
  · refine wpAny_storeName_local hk hn (fun h' hn' hs => ?_) hcls
    obtain ⟨oL,_,_,hoL,_⟩ := id hn
    refine h _ ⟨I.ok,I.os,I.bare,⟨fun b o e n hb hx => ?_,fun b o e n hb hx => ?_,I.base.free,fun b o e hx => ?_,I.base.tups,I.base.frzs,I.base.tbls⟩,⟨_,hn',fun j y v' e1 e2 e3 => ?_⟩,fun y c e => ?_,I.free,I.freeC,fun p hp => ?_,tracked ⟨oL,hoL,I.free⟩ hs,by simpa using I.len⟩ ⟨_,hs,.inl rfl⟩
    · exact (hs.2 b (Nat.ne_of_lt (Nat.lt_of_lt_of_le (Heap.lt_size e) I.ok.above))).trans (I.base.keep b o e n hb hx)
    · obtain ⟨sl,e1⟩ := I.base.slot b o e n hb hx
      exact ⟨sl,(hs.2 b (Nat.ne_of_lt (Nat.lt_of_lt_of_le (Heap.lt_size e) I.ok.above))).trans e1⟩
    · obtain ⟨o',e1⟩ := I.base.there b o e hx
      exact ⟨o',(hs.2 b (Nat.ne_of_lt (Nat.lt_of_lt_of_le (Heap.lt_size e) I.ok.above))).trans e1⟩
    · by_cases hj : j = i
      · subst hj
        rw [hi] at e1; cases e1
        rw [List.getElem?_set_self hiσ] at e2
        cases e2
        exact ⟨u,r,.inl ⟨hk,by simp⟩⟩
      · rw [List.getElem?_set_ne (Ne.symm hj)] at e2
        obtain ⟨u',r',q⟩ := hl j y v' e1 e2 e3
        refine ⟨u',r', ?_⟩
        rcases q with ⟨k,e⟩ | ⟨k,c,e,z⟩
        · refine .inl ⟨k, ?_⟩
          have : y ≠ x := fun e => hj (nodup_ix hN e1 (e ▸ hi))
          simp [this,e]
        · exact .inr ⟨k,c,e,z.sameBut hs (cne y c e)⟩
    · obtain ⟨w',z⟩ := I.cell y c e
      exact ⟨w',z.sameBut hs (cne y c e)⟩
    · obtain ⟨e,n,ne,nf,d⟩ := I.pin p hp
      exact ⟨(hs.2 p.1 ne).trans e,n,ne,nf,d⟩
  · have hfn : X.fn x = true := by
      rcases hf with z | z
      · exact z
      · rw [z] at hk; cases hk
    obtain ⟨c,hc⟩ := I.ok.has x (.inl hk)
    obtain ⟨w',z⟩ := I.cell x c hc
    refine wpAny_storeName_cell I.ok.kind hk hc z (fun h' hc' hs => ?_)
    obtain ⟨oc,hoc,hocd⟩ := id z
    refine h { s with heap := h' } ⟨I.ok,I.os,I.bare,⟨fun b o e n hb hx => ?_,fun b o e n hb hx => ?_,I.base.free,fun b o e hx => ?_,I.base.tups,I.base.frzs,I.base.tbls⟩,⟨m,hn.sameBut hs (Ne.symm (cne x c hc)),fun j y v' e1 e2 e3 => ?_⟩,fun y c' e => ?_,I.free,I.freeC,fun p hp => ?_,tracked ⟨oc,hoc,I.freeC x c hc⟩ hs,by simpa using I.len⟩ ⟨c,hs,.inr hc⟩
    · exact (hs.2 b (Nat.ne_of_lt (Nat.lt_of_lt_of_le (Heap.lt_size e) (I.ok.cab x c hfn hc)))).trans (I.base.keep b o e n hb hx)
    · obtain ⟨sl,e1⟩ := I.base.slot b o e n hb hx
      exact ⟨sl,(hs.2 b (Nat.ne_of_lt (Nat.lt_of_lt_of_le (Heap.lt_size e) (I.ok.cab x c hfn hc)))).trans e1⟩
    · obtain ⟨o',e1⟩ := I.base.there b o e hx
      exact ⟨o',(hs.2 b (Nat.ne_of_lt (Nat.lt_of_lt_of_le (Heap.lt_size e) (I.ok.cab x c hfn hc)))).trans e1⟩
    · by_cases hj : j = i
      · subst hj
        rw [hi] at e1; cases e1
        rw [List.getElem?_set_self hiσ] at e2
        cases e2
        exact ⟨u,r,.inr ⟨.inl hk,c,hc,hc'⟩⟩
      · rw [List.getElem?_set_ne (Ne.symm hj)] at e2
        obtain ⟨u',r',q⟩ := hl j y v' e1 e2 e3
        refine ⟨u',r', ?_⟩
        rcases q with q | ⟨k,c',e,z'⟩
        · exact .inl q
        · refine .inr ⟨k,c',e,z'.sameBut hs ?_⟩
          rintro rfl
          exact hj (nodup_ix hN e1 (I.ok.inj _ _ _ e hc ▸ hi))
    · by_cases hcc : c' = c
      · subst hcc; exact ⟨_,hc'⟩
      · obtain ⟨w2,z2⟩ := I.cell y c' e
        exact ⟨w2,z2.sameBut hs hcc⟩
    · obtain ⟨e,n,ne,nf,d⟩ := I.pin p hp
      refine ⟨(hs.2 p.1 ?_).trans e,n,ne,nf,d⟩
      intro q
      rw [q,hoc] at e
      have q' : oc = p.2 := Option.some.inj e
      exact d w' (by rw [← q']; exact hocd)
theorem store_ok {M : Model} {A : Around} {E : Value → Shared → Prop} {i : Nat} {x : Str} {v : V} {u : Value} {Q : Unit → Shared → Prop} (I : Inv X pins σ H s) (hN : X.N.Nodup) (hi : X.N[i]? = some x) (hx : Loc X.env.scope x) (r : RelV v u)
    (h : ∀ s',Inv X pins (σ.set i (some v)) H s' → Q () s') (hf : X.fn x = true ∨ X.env.scope.names.lookup x = some .local := by first | exact .inl rfl | exact .inr rfl | assumption) : wpAny M A (storeName X.env x u) Q E s :=
  store_ok2 I hN hi hx r (fun s' I' _ => h s' I') hf
theorem Inv.call' {s' : Shared} {ch : List Addr} (I : Inv X pins σ H s) (ho : s'.os = s.os) (u : Un (frs X.stack) ch H H' s.heap s'.heap) (hok : HOk X.prog X.w H' s'.heap) (hg : AllBare s'.gens)
    (hch : ∀ b ∈ ch,(b ∈ X.ex ∨ X.s₀.heap.objs.size ≤ b) ∧ b ≠ X.env.locals ∧ (∀ x c,X.env.cells.lookup x = some c → c ≠ b) ∧ ∀ p ∈ X.pn ++ pins,p.1 ≠ b) : Inv X pins σ H' s' := by
  obtain ⟨h',g',d',t',o'⟩ := s'
  have e : o' = s.os := ho
  subst e
  exact I.call (g' := g') (t' := t') (d' := d') u hok hg hch
end
abbrev XK := Value → Option Addr → Hp → Prop
abbrev St := List (Option V)
abbrev VK := V → Hp → Prop
abbrev TE := St → Hp → VK → Prop
abbrev TT := St → Hp → (Bool → Hp → Prop) → Prop
abbrev TA := St → Hp → (List V → Hp → Prop) → Prop
structure Ends where
  nx : St → Hp → Prop
  rt : VK
  bk : St → Hp → Prop := fun _ _ => False
  ct : St → Hp → Prop := fun _ _ => False
abbrev TS := Ends → St → Hp → Prop
def EP (X : Cx) (pins : List (Addr × Obj)) (σ : St) (Q : VK) (u : Value) (s' : Shared) : Prop := ∃ v H',Inv X pins σ H' s' ∧ RelV v u ∧ Q v H'
def TP (X : Cx) (pins : List (Addr × Obj)) (σ : St) (Q : Bool → Hp → Prop) (b : Bool) (s' : Shared) : Prop := ∃ H',Inv X pins σ H' s' ∧ Q b H'
def AP (X : Cx) (pins : List (Addr × Obj)) (σ : St) (Q : List V → Hp → Prop) (us : List Value) (s' : Shared) : Prop := ∃ vs H',Inv X pins σ H' s' ∧ Vals vs us ∧ Q vs H'
def SP (X : Cx) (pins : List (Addr × Obj)) (D : Ends) (f : Flow) (s' : Shared) : Prop :=
  match f with
  | .next => ∃ σ' H',Inv X pins σ' H' s' ∧ D.nx σ' H'
  | .brk => ∃ σ' H',Inv X pins σ' H' s' ∧ D.bk σ' H'
  | .cont => ∃ σ' H',Inv X pins σ' H' s' ∧ D.ct σ' H'
  | .ret u => ∃ v σ' H',Inv X pins σ' H' s' ∧ RelV v u ∧ D.rt v H'
def PE (X : Cx) (e : Expr) (t : TE) : Prop :=
  ∀ (pins : List (Addr × Obj)) (s : Shared) (σ : St) (H : Hp) (Q : VK),Inv X pins σ H s → t σ H Q → wpAny (model X.prog X.w) X.A (eval e X.env) (EP X pins σ Q) X.xe s
def PT (X : Cx) (e : Expr) (t : TT) : Prop :=
  ∀ (pins : List (Addr × Obj)) (s : Shared) (σ : St) (H : Hp) (Q : Bool → Hp → Prop),Inv X pins σ H s → t σ H Q → wpAny (model X.prog X.w) X.A (isTrue e X.env (eval e X.env)) (TP X pins σ Q) X.xe s
def PW (X : Cx) (e : Expr) (t : TT) : Prop :=
  ∀ (whole : Sem Value) (pins : List (Addr × Obj)) (s : Shared) (σ : St) (H : Hp) (Q : Bool → Hp → Prop),Inv X pins σ H s → t σ H Q → wpAny (model X.prog X.w) X.A (isTrue e X.env whole) (TP X pins σ Q) X.xe s
theorem PW.pt {X : Cx} {e : Expr} {t : TT} (h : PW X e t) : PT X e t := h _
def PA (X : Cx) (es : List Expr) (t : TA) : Prop :=
  ∀ (pos : Pos) (pins : List (Addr × Obj)) (s : Shared) (σ : St) (H : Hp) (Q : List V → Hp → Prop),Inv X pins σ H s → t σ H Q → wpAny (model X.prog X.w) X.A (spliced (backTo pos (starEach es X.env))) (AP X pins σ Q) X.xe s
def PS (X : Cx) (st : Stmt) (t : TS) : Prop :=
  ∀ (pins : List (Addr × Obj)) (s : Shared) (σ : St) (H : Hp) (D : Ends),Inv X pins σ H s → t D σ H → wpAny (model X.prog X.w) X.A (exec st X.env) (SP X pins D) X.xe s
def PSs (X : Cx) (st : List Stmt) (t : TS) : Prop :=
  ∀ (pins : List (Addr × Obj)) (s : Shared) (σ : St) (H : Hp) (D : Ends),Inv X pins σ H s → t D σ H → wpAny (model X.prog X.w) X.A (execs st X.env) (SP X pins D) X.xe s
theorem thn {α : Type} {t : Sem α} {Q Q' : α → Shared → Prop} {M : Model} {A : Around} {E : Value → Shared → Prop} {s : Shared} (h : wpAny M A t Q E s) (hQ : ∀ a s,Q a s → Q' a s) : wpAny M A t Q' E s := wpAny_mono h hQ fun _ _ x => x
end L2
namespace L2
open PySem PySem.Spec PyProof.Rows
section
variable {X : Cx}
def tVar (i : Nat) : TE := fun σ H Q => ∃ v,σ[i]? = some (some v) ∧ Q v H
def tC (v : V) : TE := fun _ H Q => Q v H
theorem pe_var {i : Nat} {x : Str} {pos : Pos} (hN : X.N[i]? = some x) (hv : Vis X.env.scope x) (hd : (x == ("__debug__" : Str)) = false := by decide) (hcd : (x == ("__classdict__" : Str)) = false := by decide) : PE X (.Name x pos) (tVar i) := by
  intro pins s σ H Q I h
  obtain ⟨v,e,h⟩ := h
  obtain ⟨m,hn,hl⟩ := I.loc
  obtain ⟨u,r,l⟩ := hl i x v hN e hv
  have fin : EP X pins σ Q u s := ⟨v,H,I,r,h⟩
  rcases l with ⟨hk,hm⟩ | ⟨hk,c,hc,hcell⟩
  · exact wpAny_Name (wpAny_loadName_local I.ok.kind hk hn hm fin) hd
  · rcases hk with hk | hk
    · exact wpAny_Name (wpAny_loadName_cell I.ok.kind hk hc hcell fin) hd
    · exact wpAny_Name (wpAny_loadName_free I.ok.kind hk hc hcell fin hcd) hd
theorem pe_int {i j pos} : PE X (.Constant (.int i) j pos) (tC (.int i)) := fun _ _ _ H _ I h => wpAny_Constant_int ⟨.int i,H,I.tok _,⟨_,rfl⟩,h⟩
theorem pe_bl {b j pos} : PE X (.Constant (.bool b) j pos) (tC (.bl b)) := fun _ _ _ H _ I h => Constant_bool ⟨.bl b,H,I,rfl,h⟩
theorem pe_non {j pos} : PE X (.Constant .none j pos) (tC .non) := fun _ _ _ H _ I h => Constant_none ⟨.non,H,I,rfl,h⟩
theorem pe_str {x j pos} : PE X (.Constant (.str x) j pos) (tC (.str x)) := fun _ _ _ H _ I h => Calls.Constant_str ⟨.str x,H,I.tok _,⟨_,rfl⟩,h⟩
def Gl (X : Cx) (x : Str) : Prop := X.env.kindOf x = some .globalImplicit
theorem ld_glob {E : Value → Shared → Prop} {pins : List (Addr × Obj)} {s : Shared} {σ : St} {H : Hp} {x : Str} {u : Value} {pos : Pos} {Q : Value → Shared → Prop} (I : Inv X pins σ H s) (hg : Gl X x) (hm : X.mg x = some u) (h : Q u s)
    (hd : (x == ("__debug__" : Str)) = false := by decide) : wpAny (model X.prog X.w) X.A (eval (.Name x pos) X.env) Q E s :=
  Calls.Name_function_global I.ok.kind hg (Calls.loadGlobal_global (by rw [I.ok.glob]; exact I.mod.glob.keeps I.bk) hm h) hd
theorem ld_blt {E : Value → Shared → Prop} {pins : List (Addr × Obj)} {s : Shared} {σ : St} {H : Hp} {x : Str} {u : Value} {pos : Pos} {Q : Value → Shared → Prop} (I : Inv X pins σ H s) (hg : Gl X x) (hm : X.mg x = none) (hv : bootBuiltins x = some u) (h : Q u s)
    (hn : x ≠ "__name__" := by decide) (hd : (x == ("__debug__" : Str)) = false := by decide) : wpAny (model X.prog X.w) X.A (eval (.Name x pos) X.env) Q E s := by
  obtain ⟨mb,h1,h2⟩ := I.mod.blt
  exact Calls.Name_function_global I.ok.kind hg (Calls.loadGlobal_builtin (by rw [I.ok.glob]; exact I.mod.glob.keeps I.bk) hm (by rw [I.ok.blt]; exact h1.keeps I.bk) ((h2 x hn).trans hv) h) hd
theorem pe_glob {x : Str} {v : V} {u : Value} {pos : Pos} (hg : Gl X x) (hm : X.mg x = some u) (r : RelV v u) (hd : (x == ("__debug__" : Str)) = false := by decide) : PE X (.Name x pos) (tC v) :=
  fun _ _ _ H _ I h => ld_glob I hg hm ⟨v,H,I,r,h⟩ hd
theorem pe_bltn {x : Str} {v : V} {u : Value} {pos : Pos} (hg : Gl X x) (hm : X.mg x = none) (hv : bootBuiltins x = some u) (r : RelV v u) (hn : x ≠ "__name__" := by decide) (hd : (x == ("__debug__" : Str)) = false := by decide) : PE X (.Name x pos) (tC v) :=
  fun _ _ _ H _ I h => ld_blt I hg hm hv ⟨v,H,I,r,h⟩ hn hd
variable {a b : Expr} {ta tb : TE} {pos : Pos}
def PC (X : Cx) (op : CmpOp) (a b : Expr) (t : TE) : Prop :=
  ∀ (pins : List (Addr × Obj)) (s : Shared) (σ : St) (H : Hp) (Q : VK),Inv X pins σ H s → t σ H Q →
    wpAny (model X.prog X.w) X.A (eval a X.env) (fun v s₁ => wpAny (model X.prog X.w) X.A (eval b X.env) (fun u s₂ => wpAny (model X.prog X.w) X.A (compareOp op v u) (EP X pins σ Q) X.xe s₂) X.xe s₁) X.xe s
def tB (t : TE) : TT := fun σ H Q => t σ H fun x H1 => ∃ c,x = .bl c ∧ Q c H1
theorem pt_val {e : Expr} {t : TE} (h : PE X e t) (he : ∀ whole,isTrue e X.env whole = (do let v ← whole; standAt e.pos; holding [v] (truthy v)) := by intro _; rfl) : PT X e (tB t) := by
  intro pins s σ H Q I hw
  refine isTrue_plain (thn (h pins s σ H _ I hw) fun v s1 ⟨x,H1,I1,r1,q1⟩ => ?_) (he _)
  obtain ⟨d,rfl,q⟩ := q1
  cases r1
  exact wpAny_truthy_bool ⟨H1,I1,q⟩
variable {tA tB' : TT} {rest : List Expr}
def tAnd (t u : TT) : TT := fun σ H Q => t σ H fun c H1 => if c = true then u σ H1 Q else Q false H1
def tOr (t u : TT) : TT := fun σ H Q => t σ H fun c H1 => if c = true then Q true H1 else u σ H1 Q
def tNot (t : TT) : TT := fun σ H Q => t σ H fun c H1 => Q (!c) H1
theorem pw_and1 (ha : PT X a tA) : PW X (.BoolOp .And [a] pos) tA := by
  intro wh pins s σ H Q I h
  refine isTrue_and (thn (ha pins s σ H Q I h) fun c s1 e => ?_)
  cases c with
  | true => exact isTrue_and_nil e
  | false => exact e
theorem pw_or1 (ha : PT X a tA) : PW X (.BoolOp .Or [a] pos) tA := by
  intro wh pins s σ H Q I h
  refine isTrue_or (thn (ha pins s σ H Q I h) fun c s1 e => ?_)
  cases c with
  | false => exact isTrue_or_nil e
  | true => exact e
theorem pw_and (ha : PT X a tA) (hb : PW X (.BoolOp .And (b :: rest) pos) tB') : PW X (.BoolOp .And (a :: b :: rest) pos) (tAnd tA tB') := by
  intro wh pins s σ H Q I h
  refine isTrue_and (thn (ha pins s σ H _ I h) fun c s1 ⟨H1,I1,q1⟩ => ?_)
  cases c with
  | true => exact hb wh pins s1 σ H1 Q I1 q1
  | false => exact ⟨H1,I1,q1⟩
theorem pw_or (ha : PT X a tA) (hb : PW X (.BoolOp .Or (b :: rest) pos) tB') : PW X (.BoolOp .Or (a :: b :: rest) pos) (tOr tA tB') := by
  intro wh pins s σ H Q I h
  refine isTrue_or (thn (ha pins s σ H _ I h) fun c s1 ⟨H1,I1,q1⟩ => ?_)
  cases c with
  | true => exact ⟨H1,I1,q1⟩
  | false => exact hb wh pins s1 σ H1 Q I1 q1
theorem pt_not (ha : PT X a tA) : PT X (.UnaryOp .Not a pos) (tNot tA) := by
  intro pins s σ H Q I h
  exact isTrue_not (ha pins s σ H (fun c H1 => Q (!c) H1) I h)
def tAndV (ta tb : TE) : TE := fun σ H Q => ta σ H fun x H1 => ∃ c,x = .bl c ∧ if c = true then tb σ H1 Q else Q (.bl false) H1
def tNotV (ta : TE) : TE := fun σ H Q => ta σ H fun x H1 => ∃ c,x = .bl c ∧ Q (.bl (!c)) H1
theorem pe_one {op} {t : TE} (h : PE X a t) : PE X (.BoolOp op [a] pos) t := fun pins s σ H Q I hw => BoolOp_one (h pins s σ H Q I hw)
theorem pe_and (ha : PE X a ta) (hb : PE X (.BoolOp .And (b :: rest) pos) tb) : PE X (.BoolOp .And (a :: b :: rest) pos) (tAndV ta tb) := by
  intro pins s σ H Q I h
  refine BoolOp_and (thn (ha pins s σ H _ I h) fun v s1 ⟨x,H1,I1,r1,q1⟩ => ?_)
  obtain ⟨c,rfl,q1⟩ := q1
  cases r1
  refine wpAny_truthy_bool ?_
  cases c with
  | true => exact hb pins s1 σ H1 Q I1 q1
  | false => exact ⟨.bl false,H1,I1,rfl,q1⟩
theorem pe_not (ha : PE X a ta) : PE X (.UnaryOp .Not a pos) (tNotV ta) := by
  intro pins s σ H Q I h
  refine UnaryOp_ (thn (ha pins s σ H _ I h) fun v s1 ⟨x,H1,I1,r1,q1⟩ => ?_)
  obtain ⟨c,rfl,q1⟩ := q1
  cases r1
  exact not_of (wpAny_truthy_bool ⟨.bl (!c),H1,I1,rfl,q1⟩)
def tIf (t : TT) (ta tb : TE) : TE := fun σ H Q => t σ H fun c H1 => if c = true then ta σ H1 Q else tb σ H1 Q
theorem pe_ifExp {c : Expr} (hc : PT X c tA) (ha : PE X a ta) (hb : PE X b tb) : PE X (.IfExp c a b pos) (tIf tA ta tb) := by
  intro pins s σ H Q I h
  refine wpAny_IfExp (thn (hc pins s σ H _ I h) fun d s1 ⟨H1,I1,q1⟩ => ?_)
  cases d with
  | true => exact ha pins s1 σ H1 Q I1 q1
  | false => exact hb pins s1 σ H1 Q I1 q1
end
end L2
namespace L2
open PySem PySem.Spec PyProof.Rows
def SqL (K : PySem.W.Frag) (H : Hp) (a : Addr) (xs : List V) : Prop :=
  Rd H a (.lst xs) ∨
    ∃ (o : Obj) (its : Array Value) (n : Nat),K.lookup a = some o ∧ o.cls = .type "list" ∧ o.dict = none ∧ o.data = .seq its n ∧ its.size ≤ sizeLine ∧ Vals xs its.toList
def SqT (K : PySem.W.Frag) (H : Hp) (a : Addr) (xs : List V) : Prop :=
  Rd H a (.tup xs) ∨
    ∃ (o : Obj) (its : Array Value) (n : Nat),K.lookup a = some o ∧ o.cls = .type "tuple" ∧ o.data = .seq its n ∧ its.size ≤ sizeLine ∧ Vals xs its.toList
def absV : Value → Option V
  | .none => some .non
  | .bool b => some (.bl b)
  | .int i _ => some (.int i)
  | .str x _ => some (.str x)
  | .bytes b _ => some (.byt b)
  | .float b _ => some (.flt b)
  | .ref a => some (.ref a)
  | .type n => some (.ty n)
  | _ => none
theorem RelV.abs {x : V} {u : Value} (r : RelV x u) : absV u = some x := by
  cases x with
  | non => cases r; rfl
  | bl _ => cases r; rfl
  | int _ => obtain ⟨t,rfl⟩ := r; rfl
  | str _ => obtain ⟨t,rfl⟩ := r; rfl
  | byt _ => obtain ⟨t,rfl⟩ := r; rfl
  | flt _ => obtain ⟨t,rfl⟩ := r; rfl
  | ref _ => cases r; rfl
  | ty _ => cases r; rfl
theorem RelV.inj {x y : V} {u : Value} (r : RelV x u) (q : RelV y u) : x = y := Option.some.inj (r.abs.symm.trans q.abs)
theorem Vals.inj : ∀ {xs ys : List V} {us : List Value},Vals xs us → Vals ys us → xs = ys
  | _,_,_,.nil,.nil => rfl
  | _,_,_,.cons r t,.cons r' t' => by rw [r.inj r',Vals.inj t t']
section
variable {X : Cx} {pins : List (Addr × Obj)} {σ : St} {H : Hp} {s : Shared} {a : Addr} {xs ys : List V}
theorem SqL.of {K : PySem.W.Frag} (h : H a = some (.lst xs)) : SqL K H a xs := .inl (.inl h)
theorem SqT.of {K : PySem.W.Frag} (h : H a = some (.tup xs)) : SqT K H a xs := .inl (.inl h)
theorem Inv.list (I : Inv X pins σ H s) (h : SqL X.K H a xs) : ∃ its : List Value,Vals xs its ∧ PlainL s.heap a its.toArray ∧ xs.length ≤ sizeLine := by
  rcases h with h | ⟨o,its,n,hk,hc,hd,hs,hz,r⟩
  · obtain ⟨z,its,n,r,e⟩ := h.ok I.hok
    exact ⟨its,r,⟨_,n,e,rfl,rfl,rfl⟩,z⟩
  · refine ⟨its.toList,r,⟨o,n,I.kIn a o hk,hc,hd,by simpa using hs⟩, ?_⟩
    have e := r.length
    simp only [Array.length_toList] at e
    omega
theorem Inv.tuple (I : Inv X pins σ H s) (h : SqT X.K H a xs) : ∃ its : List Value,Vals xs its ∧ IsTup s.heap a its.toArray ∧ xs.length ≤ sizeLine := by
  rcases h with h | ⟨o,its,n,hk,hc,hs,hz,r⟩
  · obtain ⟨z,its,r,p⟩ := h.ok I.hok
    exact ⟨its,r,p,z⟩
  · refine ⟨its.toList,r,⟨o,I.kIn a o hk,hc,n,by simpa using hs⟩, ?_⟩
    have e := r.length
    simp only [Array.length_toList] at e
    omega
theorem Inv.list_inj (I : Inv X pins σ H s) (h : SqL X.K H a xs) (h' : SqL X.K H a ys) : xs = ys := by
  obtain ⟨its,r,⟨o,n,e,_,_,d⟩,_⟩ := I.list h
  obtain ⟨its',r',⟨o',n',e',_,_,d'⟩,_⟩ := I.list h'
  rw [e] at e'; cases e'
  rw [d] at d'
  injection d' with d1 _
  have : its = its' := by simpa using congrArg Array.toList d1
  subst this
  exact r.inj r'
theorem Inv.tuple_inj (I : Inv X pins σ H s) (h : SqT X.K H a xs) (h' : SqT X.K H a ys) : xs = ys := by
  obtain ⟨its,r,⟨o,e,_,n,d⟩,_⟩ := I.tuple h
  obtain ⟨its',r',⟨o',e',_,n',d'⟩,_⟩ := I.tuple h'
  rw [e] at e'; cases e'
  rw [d] at d'
  injection d' with d1 _
  have : its = its' := by simpa using congrArg Array.toList d1
  subst this
  exact r.inj r'
end
abbrev Cx.wish (X : Cx) (E : Value → Shared → Prop) : Cx := { X with xe := E }
abbrev Cx.nox (X : Cx) : Cx := X.wish fun _ _ => False
theorem Cx.Ok.wish {X : Cx} (ok : X.Ok) (E : Value → Shared → Prop) : (X.wish E).Ok :=
  ⟨ok.mod,ok.kind,ok.glob,ok.blt,ok.above,ok.inj,ok.has,ok.cab,ok.hd,ok.frames,ok.stk,ok.exf,ok.bs,ok.bsz,ok.noex,ok.exfs,ok.funs,ok.frf⟩
theorem Cx.Ok.unwish {X : Cx} {E : Value → Shared → Prop} (ok : (X.wish E).Ok) : X.Ok :=
  ⟨ok.mod,ok.kind,ok.glob,ok.blt,ok.above,ok.inj,ok.has,ok.cab,ok.hd,ok.frames,ok.stk,ok.exf,ok.bs,ok.bsz,ok.noex,ok.exfs,ok.funs,ok.frf⟩
section
variable {X : Cx} {pins : List (Addr × Obj)} {σ : St} {H : Hp} {s : Shared} {E : Value → Shared → Prop}
theorem Inv.wish (I : Inv X pins σ H s) (E : Value → Shared → Prop) : Inv (X.wish E) pins σ H s := ⟨I.ok.wish E,I.os,I.bare,I.base,I.loc,I.cell,I.free,I.freeC,I.pin,I.hok,I.len⟩
theorem Inv.unwish (I : Inv (X.wish E) pins σ H s) : Inv X pins σ H s := ⟨I.ok.unwish,I.os,I.bare,I.base,I.loc,I.cell,I.free,I.freeC,I.pin,I.hok,I.len⟩
theorem SP.unwish {D : Ends} {f : Flow} {s' : Shared} (h : SP (X.wish E) pins D f s') : SP X pins D f s' := by
  cases f with
  | next => obtain ⟨σ',H',I,q⟩ := h; exact ⟨σ',H',I.unwish,q⟩
  | brk => obtain ⟨σ',H',I,q⟩ := h; exact ⟨σ',H',I.unwish,q⟩
  | cont => obtain ⟨σ',H',I,q⟩ := h; exact ⟨σ',H',I.unwish,q⟩
  | ret u => obtain ⟨v,σ',H',I,r,q⟩ := h; exact ⟨v,σ',H',I.unwish,r,q⟩
theorem PSs.nox {st : List Stmt} {t : TS} (h : PSs X.nox st t) : PSs X st t := fun pins s σ H D I hw =>
  wpAny_mono (h pins s σ H D (I.wish _) hw) (fun _ _ q => q.unwish) fun _ _ z => False.elim z
end
section
variable {X : Cx} {st : Stmt} {rest : List Stmt} {t u : TS} {e : Expr} {te : TE} {pos : Pos}
def tNext : TS := fun D σ H => D.nx σ H
def tSeq (t u : TS) : TS := fun D σ H => t { D with nx := u D } σ H
theorem pss_nil : PSs X [] tNext := fun _ _ σ H _ I h => wpAny_execs_nil ⟨σ,H,I,h⟩
theorem pss_cons (h1 : PS X st t) (h2 : PSs X rest u) : PSs X (st :: rest) (tSeq t u) := by
  intro pins s σ H D I h
  refine wpAny_execs_cons (thn (h1 pins s σ H { D with nx := u D } I h) fun f s1 q => ?_)
  cases f with
  | next =>
    obtain ⟨σ',H',I',q⟩ := q
    exact h2 pins s1 σ' H' D I' q
  | ret v => exact q
  | brk => exact q
  | cont => exact q
theorem pss_one (h1 : PS X st t) : PSs X [st] t := by
  intro pins s σ H D I h
  refine wpAny_execs_cons (thn (h1 pins s σ H D I h) fun f s1 q => ?_)
  cases f with
  | next => exact wpAny_execs_nil q
  | ret v => exact q
  | brk => exact q
  | cont => exact q
theorem Inv.quiet {pins : List (Addr × Obj)} {σ : St} {H : Hp} {s : Shared} (I : Inv X pins σ H s) : interactive X.env = false := by simp [interactive,I.ok.kind]
def tDrop (te : TE) : TS := fun D σ H => te σ H fun _ H1 => D.nx σ H1
theorem ps_expr (he : PE X e te) (hs : swapsWith e none pos.line X.env = pure false := by rfl) : PS X (.Expr e pos) (tDrop te) := by
  intro pins s σ H D I h
  exact wpAny_Expr_any (thn (he pins s σ H _ I h) fun v s1 ⟨x,H1,I1,r1,q1⟩ => ⟨σ,H1,I1,q1⟩) I.quiet hs
def tRet (te : TE) : TS := fun D σ H => te σ H D.rt
theorem ps_ret (he : PE X e te) : PS X (.Return (some e) pos) (tRet te) := by
  intro pins s σ H D I h
  exact wpAny_Return_some (thn (he pins s σ H _ I h) fun v s1 ⟨x,H1,I1,r1,q1⟩ => ⟨x,σ,H1,I1,r1,q1⟩)
def tIfS (c : TT) (t u : TS) : TS := fun D σ H => c σ H fun b H1 => if b = true then t D σ H1 else u D σ H1
theorem ps_if {c : Expr} {a b : List Stmt} {tc : TT} (hc : PT X c tc) (ha : PSs X a t) (hb : PSs X b u) : PS X (.If c a b pos) (tIfS tc t u) := by
  intro pins s σ H D I h
  refine wpAny_If (thn (hc pins s σ H _ I h) fun d s1 ⟨H1,I1,q1⟩ => ?_)
  cases d with
  | true => exact ha pins s1 σ H1 D I1 q1
  | false => exact hb pins s1 σ H1 D I1 q1
end
abbrev TG := V → St → Hp → (St → Hp → Prop) → Prop
abbrev TGs := List V → St → Hp → (St → Hp → Prop) → Prop
def PG (X : Cx) (target : Expr) (t : TG) : Prop :=
  ∀ (pins : List (Addr × Obj)) (s : Shared) (σ : St) (H : Hp) (v : V) (u : Value) (Q : St → Hp → Prop),Inv X pins σ H s → RelV v u → t v σ H Q →
    wpAny (model X.prog X.w) X.A (assign target X.env u) (fun _ s' => ∃ σ' H',Inv X pins σ' H' s' ∧ Q σ' H') X.xe s
def PGs (X : Cx) (ts : List Expr) (t : TGs) : Prop :=
  ∀ (pins : List (Addr × Obj)) (s : Shared) (σ : St) (H : Hp) (vs : List V) (us : List Value) (Q : St → Hp → Prop),Inv X pins σ H s → Vals vs us → t vs σ H Q →
    wpAny (model X.prog X.w) X.A (assignInOrder ((assignEach ts X.env).map (·.2)) us) (fun _ s' => ∃ σ' H',Inv X pins σ' H' s' ∧ Q σ' H') X.xe s
abbrev TSet := V → V → V → Hp → (Hp → Prop) → Prop
def PSet (X : Cx) (t : TSet) : Prop :=
  ∀ (pins : List (Addr × Obj)) (s : Shared) (σ : St) (H : Hp) (o i v : V) (ov iv u : Value) (Q : Hp → Prop),Inv X pins σ H s → RelV o ov → RelV i iv → RelV v u → t o i v H Q →
    wpAny (model X.prog X.w) X.A (setItem ov iv u) (fun _ s' => ∃ H',Inv X pins σ H' s' ∧ Q H') X.xe s
abbrev TIp := V → V → Hp → VK → Prop
def PIp (X : Cx) (op : Operator) (t : TIp) : Prop :=
  ∀ (pins : List (Addr × Obj)) (s : Shared) (σ : St) (H : Hp) (x y : V) (v u : Value) (Q : VK),Inv X pins σ H s → RelV x v → RelV y u → t x y H Q →
    wpAny (model X.prog X.w) X.A (inplaceOp op v u) (EP X pins σ Q) X.xe s
section
variable {X : Cx} {pos : Pos}
def gName (i : Nat) : TG := fun v σ H Q => Q (σ.set i (some v)) H
theorem pg_name {i : Nat} {x : Str} (hN : X.N.Nodup) (hi : X.N[i]? = some x) (hx : Loc X.env.scope x) (hf : X.fn x = true ∨ X.env.scope.names.lookup x = some .local := by first | exact .inl rfl | exact .inr rfl | assumption) : PG X (.Name x pos) (gName i) := by
  intro pins s σ H v u Q I r h
  exact wpAny_assign_Name (store_ok I hN hi hx r (fun s' I' => ⟨_,H,I',h⟩) hf)
def gNil : TGs := fun vs σ H Q => vs = [] ∧ Q σ H
def gCons (t : TG) (u : TGs) : TGs := fun vs σ H Q => ∃ v r,vs = v :: r ∧ t v σ H fun σ' H' => u r σ' H' Q
theorem pgs_nil : PGs X [] gNil := by
  intro pins s σ H vs us Q I r h
  obtain ⟨e,h⟩ := h
  subst e
  cases r
  exact assignInOrder_nil ⟨σ,H,I,h⟩
theorem pgs_cons {e : Expr} {es : List Expr} {t : TG} {u : TGs} (h1 : PG X e t) (h2 : PGs X es u)
    (hs : (assignEach (e :: es) X.env).map (·.2) = assign e X.env :: (assignEach es X.env).map (·.2) := by rfl) : PGs X (e :: es) (gCons t u) := by
  intro pins s σ H vs us Q I r h
  obtain ⟨v,vr,e1,h⟩ := h
  subst e1
  cases r with
  | cons r rr =>
    rw [hs]
    refine assignInOrder_cons (thn (h1 pins s σ H _ _ _ I r h) fun _ s1 ⟨σ1,H1,I1,q1⟩ => ?_)
    exact h2 pins s1 σ1 H1 _ _ Q I1 rr q1
def gTup (K : PySem.W.Frag) (n : Nat) (t : TGs) : TG := fun v σ H Q => ∃ a xs,v = .ref a ∧ SqT K H a xs ∧ xs.length = n ∧ t xs σ H Q
theorem pg_tup {es : List Expr} {k : Nat} {t : TGs} {n : Nat} (hc : X.calm = true) (h : PGs X es t)
    (hn : (assignEach es X.env).length = n := by rfl) (hst : (assignEach es X.env).findIdx? (·.1) = none := by rfl) : PG X (.Tuple es k pos) (gTup X.K n t) := by
  intro pins s σ H v u Q I r hw
  obtain ⟨a,xs,e1,hq,hl,hw⟩ := hw
  subst e1
  cases r
  obtain ⟨its,rv,ht,hz⟩ := I.tuple hq
  refine assign_Tuple_tuple (I.ok.hd hc) ht (by simp [hn,← hl,rv.length]) hst fun h' hx => ?_
  have I1 : Inv X pins σ H { s with heap := h' } := I.kept (t' := s.toks) fun b o e => hx b o (Nat.ne_of_lt (Heap.lt_size e)) e
  exact h pins _ σ H xs _ Q I1 (by simpa using rv) hw
def gSub (to ti : TE) (t : TSet) : TG := fun v σ H Q => to σ H fun o H1 => ti σ H1 fun i H2 => t o i v H2 fun H3 => Q σ H3
theorem pg_sub {o i : Expr} {to ti : TE} {t : TSet} (ho : PE X o to) (hi : PE X i ti) (hs : PSet X t)
    (ha : ∀ v,assign (.Subscript o i pos) X.env v = (do
      let ov ← holding [v] (eval o X.env)
      let iv ← holding [v,ov] (eval i X.env)
      standAt pos
      holding [v,ov,iv] (setItem ov iv v)
      release [v,ov,iv] []) := by intro _; rfl) : PG X (.Subscript o i pos) (gSub to ti t) := by
  intro pins s σ H v u Q I r h
  rw [ha]
  refine wpAny_bind (wpAny_holding (thn (ho pins s σ H _ I h) fun ov s1 ⟨x,H1,I1,r1,q1⟩ => ?_))
  refine wpAny_bind (wpAny_holding (thn (hi pins s1 σ H1 _ I1 q1) fun iv s2 ⟨y,H2,I2,r2,q2⟩ => ?_))
  refine wpAny_bind (wpAny_standAt (wpAny_bind (wpAny_holding (thn (hs pins s2 σ H2 x y v ov iv u _ I2 r1 r2 r q2) fun _ s3 ⟨H3,I3,q3⟩ => ?_))))
  exact wpAny_release ⟨σ,H3,I3,q3⟩
def tAsg (te : TE) (g : TG) : TS := fun D σ H => te σ H fun x H1 => g x σ H1 D.nx
theorem ps_asg {tg e : Expr} {te : TE} {g : TG} (he : PE X e te) (hg : PG X tg g) (hs : swapsWithSole [tg] e pos.line X.env = pure false := by rfl) (hw : swappedStores [tg] e X.env = pure none := by rfl)
    (h1 : (assignEach [tg] X.env).map (·.2) = [assign tg X.env] := by rfl) : PS X (.Assign [tg] e pos) (tAsg te g) := by
  intro pins s σ H D I h
  refine wpAny_Assign_stores (thn (he pins s σ H _ I h) fun v s1 ⟨x,H1,I1,r1,q1⟩ => ?_) hs hw
  rw [h1]
  exact thn (hg pins s1 σ H1 x v _ I1 r1 q1) fun _ s2 q => q
theorem ps_set {i : Nat} {x : Str} {e : Expr} {te : TE} {pos' : Pos} (hN : X.N.Nodup) (hi : X.N[i]? = some x) (hx : Loc X.env.scope x) (he : PE X e te) (hs : swapsWith e (some (.Name x pos')) pos.line X.env = pure false := by rfl) (hf : X.fn x = true ∨ X.env.scope.names.lookup x = some .local := by first | exact .inl rfl | exact .inr rfl | assumption) :
    PS X (.Assign [.Name x pos'] e pos) (tAsg te (gName i)) := by
  intro pins s σ H D I h
  refine wpAny_Assign_Name (thn (he pins s σ H _ I h) fun v s1 ⟨y,H1,I1,r1,q1⟩ => ?_) hs
  exact store_ok I1 hN hi hx r1 (fun s2 I2 => ⟨_,H1,I2,q1⟩) hf
def PGet (X : Cx) (t : V → V → Hp → VK → Prop) : Prop :=
  ∀ (pins : List (Addr × Obj)) (s : Shared) (σ : St) (H : Hp) (o i : V) (ov iv : Value) (Q : VK),Inv X pins σ H s → RelV o ov → RelV i iv → t o i H Q →
    wpAny (model X.prog X.w) X.A (getItem ov iv) (EP X pins σ Q) X.xe s
end
section
variable {X : Cx} {pos : Pos}
end
structure It where
  go : Nat → Hp → Prop
  yld : Nat → Hp → V → Hp → Prop
  stop : Nat → Hp → Prop
def FpOk (X : Cx) (pins : List (Addr × Obj)) (H : Hp) (b : Addr) : Prop :=
  H b = none ∧ b ≠ X.env.locals ∧ b ∉ X.fs ∧ (b ∈ X.ex ∨ X.s₀.heap.objs.size ≤ b) ∧ (∀ x c,X.env.cells.lookup x = some c → c ≠ b) ∧ ∀ p ∈ X.pn ++ pins,p.1 ≠ b
theorem Inv.fpOk {X : Cx} {pins : List (Addr × Obj)} {σ : St} {H H' : Hp} {s : Shared} {b : Addr} (I : Inv X pins σ H s) (hb : s.heap.objs.size ≤ b) (hn : H' b = none) : FpOk X pins H' b := by
  refine ⟨hn,Nat.ne_of_gt (Nat.lt_of_lt_of_le I.lt hb),I.nofs hb,.inr (Nat.le_trans I.sz hb),fun x c e z => ?_,fun p hp z => ?_⟩
  · obtain ⟨v,q⟩ := I.cell x c e
    exact absurd (Nat.lt_of_lt_of_le q.lt (by rw [z]; exact hb)) (Nat.lt_irrefl _)
  · exact absurd (Nat.lt_of_lt_of_le (Heap.lt_size (I.pin p hp).1) (by rw [z]; exact hb)) (Nat.lt_irrefl _)
structure Turn (P : Program) (w : World) (K : PySem.W.Frag) (tg : Expr) (J : It) (fp : List Addr) (it : Addr) (tn : Nat → Heap → Prop) : Prop where
  mem : it ∈ fp
  obj : ∀ i h,tn i h → ∀ b ∈ fp,∃ o,h.get? b = some o ∧ ∀ v,o.data ≠ .cell v
  keep : ∀ i h h',tn i h → (∀ b ∈ fp,∀ o,h.get? b = some o → h'.get? b = some o) → tn i h'
  item : ∀ (X : Cx),X.prog = P → X.w = w → X.K = K → X.calm = true → ∀ (i : Nat) (pins : List (Addr × Obj)) (s : Shared) (σ : St) (H : Hp) (E : Value → Shared → Prop),Inv X pins σ H s → (∀ b ∈ fp,FpOk X pins H b) → tn i s.heap → J.go i H →
    wpAny (model P w) X.A (pyNext (.ref it)) (fun r s1 => ∃ u,r = some u ∧
      wpAny (model P w) X.A (letOwnedTupleGo tg (.ref it) u) (fun _ s2 => ∃ x H',Inv X pins σ H' s2 ∧ RelV x u ∧ J.yld i H x H' ∧ tn (i + 1) s2.heap ∧ ∀ b ∈ fp,H' b = none) E s1) E s
  done : ∀ (X : Cx),X.prog = P → X.w = w → X.K = K → X.calm = true → ∀ (i : Nat) (pins : List (Addr × Obj)) (s : Shared) (σ : St) (H : Hp) (E : Value → Shared → Prop),Inv X pins σ H s → (∀ b ∈ fp,FpOk X pins H b) → tn i s.heap → J.stop i H →
    wpAny (model P w) X.A (pyNext (.ref it)) (fun r s1 => r = none ∧ Inv X pins σ H s1) E s
  self : ∀ (A : Around) (i : Nat) (s : Shared) (Q : Value → Shared → Prop) (E : Value → Shared → Prop),tn i s.heap → Q (.ref it) s → wpAny (model P w) A (pyIter (.ref it)) Q E s
abbrev TI := St → Hp → (It → Hp → Prop) → Prop
def PIE (X : Cx) (pins : List (Addr × Obj)) (σ : St) (tg : Expr) (R : It → Hp → Prop) (itv : Value) (s2 : Shared) : Prop :=
  ∃ (it : Addr) (fp : List Addr) (tn : Nat → Heap → Prop) (J : It) (H' : Hp),itv = .ref it ∧ Inv X pins σ H' s2 ∧ Turn X.prog X.w X.K tg J fp it tn ∧ tn 0 s2.heap ∧ (∀ b ∈ fp,FpOk X pins H' b) ∧ R J H'
def PI (X : Cx) (tg iter : Expr) (wi : TI) : Prop :=
  ∀ (pins : List (Addr × Obj)) (s : Shared) (σ : St) (H : Hp) (R : It → Hp → Prop),Inv X pins σ H s → wi σ H R →
    wpAny (model X.prog X.w) X.A (eval iter X.env) (fun v s1 => wpAny (model X.prog X.w) X.A (pyIter v) (PIE X pins σ tg R) X.xe s1) X.xe s
theorem go_of {M : Model} {A : Around} {E : Value → Shared → Prop} {s : Shared} {tg : Expr} {it : Addr} {u : Value} {o : Obj} {n : String} {vs : Array Value} {Q : Unit → Shared → Prop} (ho : s.heap.get? it = some o) (hc : o.cls = .type n) (hd : o.data = .fields vs)
    (hn : ["enumerate","zip","dict_itemiterator","dict_reverseitemiterator","odict_iterator","itertools.zip_longest","itertools.pairwise"].contains n = false) (hQ : Q () s) : wpAny M A (letOwnedTupleGo tg (.ref it) u) Q E s := by
  unfold letOwnedTupleGo
  cases tg <;> first
    | exact wpAny_pure hQ
    | (cases u <;> first
        | exact wpAny_pure hQ
        | (refine wpAny_bind (wpAny_load ho ?_)
           rw [hc,hd]
           show wpAny M A (if (["enumerate","zip","dict_itemiterator","dict_reverseitemiterator","odict_iterator","itertools.zip_longest","itertools.pairwise"].contains n && vs[0]? == some (rawInt _)) = true then _ else _) Q E s
           rw [if_neg (by intro h; rw [hn,Bool.false_and] at h; cases h)]
           exact wpAny_pure hQ))
def Itl (K : PySem.W.Frag) (a : Addr) : It :=
  ⟨fun i H => ∃ xs x,SqL K H a xs ∧ xs[i]? = some x,fun i H x H' => H' = H ∧ ∀ xs,SqL K H a xs → xs[i]? = some x,fun i H => ∃ xs,SqL K H a xs ∧ xs.length ≤ i⟩
def Itt (K : PySem.W.Frag) (a : Addr) : It :=
  ⟨fun i H => ∃ xs x,SqT K H a xs ∧ xs[i]? = some x,fun i H x H' => H' = H ∧ ∀ xs,SqT K H a xs → xs[i]? = some x,fun i H => ∃ xs,SqT K H a xs ∧ xs.length ≤ i⟩
def Itr (lo : Int) (n : Nat) : It := ⟨fun i _ => i < n,fun i H x H' => H' = H ∧ x = .int (lo + i),fun i _ => n ≤ i⟩
theorem turn_list {P : Program} {w : World} {K : PySem.W.Frag} {tg : Expr} (a it : Addr) : Turn P w K tg (Itl K a) [it] it (fun i h => h.IsListIter it a i) where
  mem := by simp
  obj := fun i h st b hb => by
    have e : b = it := by simpa using hb
    subst e
    obtain ⟨o,e,c,d⟩ := st
    exact ⟨o,e,fun v z => by rw [d] at z; cases z⟩
  keep := fun i h h' st k => st.at fun o e => k it (by simp) o e
  item := by
    intro X hP hw hK hc i pins s σ H E I hf st hg
    subst hP hw hK
    obtain ⟨xs,x,hq,hx⟩ := hg
    obtain ⟨its,rv,p,hz⟩ := I.list hq
    obtain ⟨u,hu,ru⟩ := rv.get hx
    obtain ⟨f0,f1,f2,f3,f4,f5⟩ := hf it (by simp)
    refine wpAny_pyNext_list_item st p.isList (x := u) (by simpa using hu) fun h' st' sb => ?_
    have I1 : Inv X pins σ H { s with heap := h' } := I.turned (t' := s.toks) (fun b o hb e => (sb.2 b hb).trans e) f0 f1 f3 f4 f5
    obtain ⟨o,e,c,d⟩ := id st'
    exact ⟨u,rfl,go_of (s := { s with heap := h' }) e c d (by decide) ⟨x,H,I1,ru,⟨rfl,fun ys hy => by rw [I.list_inj hy hq]; exact hx⟩,st',fun b hb => (hf b hb).1⟩⟩
  done := by
    intro X hP hw hK hc i pins s σ H E I hf st hg
    subst hP hw hK
    obtain ⟨xs,hq,hx⟩ := hg
    obtain ⟨its,rv,p,hz⟩ := I.list hq
    obtain ⟨f0,f1,f2,f3,f4,f5⟩ := hf it (by simp)
    have hl := rv.length
    exact wpAny_pyNext_list_end (I.ok.hd hc) st p.isList (by simp; omega) fun h' eb => ⟨rfl,I.turned (t' := s.toks) (fun b o hb e => eb b o hb e) f0 f1 f3 f4 f5⟩
  self := fun _ _ _ _ _ st h => wpAny_pyIter_listiter st h
theorem turn_tuple {P : Program} {w : World} {K : PySem.W.Frag} {tg : Expr} (a it : Addr) : Turn P w K tg (Itt K a) [it] it (fun i h => h.IsTupleIter it a i) where
  mem := by simp
  obj := fun i h st b hb => by
    have e : b = it := by simpa using hb
    subst e
    obtain ⟨o,e,c,d⟩ := st
    exact ⟨o,e,fun v z => by rw [d] at z; cases z⟩
  keep := fun i h h' st k => st.at fun o e => k it (by simp) o e
  item := by
    intro X hP hw hK hc i pins s σ H E I hf st hg
    subst hP hw hK
    obtain ⟨xs,x,hq,hx⟩ := hg
    obtain ⟨its,rv,p,hz⟩ := I.tuple hq
    obtain ⟨u,hu,ru⟩ := rv.get hx
    obtain ⟨f0,f1,f2,f3,f4,f5⟩ := hf it (by simp)
    refine wpAny_pyNext_tuple_item st (show s.heap.IsTuple a its.toArray from p) (x := u) (by simpa using hu) fun h' st' sb => ?_
    have I1 : Inv X pins σ H { s with heap := h' } := I.turned (t' := s.toks) (fun b o hb e => (sb.2 b hb).trans e) f0 f1 f3 f4 f5
    obtain ⟨o,e,c,d⟩ := id st'
    exact ⟨u,rfl,go_of (s := { s with heap := h' }) e c d (by decide) ⟨x,H,I1,ru,⟨rfl,fun ys hy => by rw [I.tuple_inj hy hq]; exact hx⟩,st',fun b hb => (hf b hb).1⟩⟩
  done := by
    intro X hP hw hK hc i pins s σ H E I hf st hg
    subst hP hw hK
    obtain ⟨xs,hq,hx⟩ := hg
    obtain ⟨its,rv,p,hz⟩ := I.tuple hq
    obtain ⟨f0,f1,f2,f3,f4,f5⟩ := hf it (by simp)
    have hl := rv.length
    exact wpAny_pyNext_tuple_end (I.ok.hd hc) st (show s.heap.IsTuple a its.toArray from p) (by simp; omega) fun h' eb => ⟨rfl,I.turned (t' := s.toks) (fun b o hb e => eb b o hb e) f0 f1 f3 f4 f5⟩
  self := fun _ _ _ _ _ st h => wpAny_pyIter_tupleiter st h
theorem turn_range {P : Program} {w : World} {K : PySem.W.Frag} {tg : Expr} (it : Addr) (lo : Int) (n : Nat) : Turn P w K tg (Itr lo n) [it] it (fun i h => IsRangeIter h it (lo + (i : Nat) * 1) ((n : Int) - (i : Nat)) 1) where
  mem := by simp
  obj := fun i h st b hb => by
    have e : b = it := by simpa using hb
    subst e
    exact ⟨_,st,fun v z => by
      have z' : Data.fields _ = Data.cell v := z
      cases z'⟩
  keep := fun i h h' st k => k it (by simp) _ st
  item := by
    intro X hP hw hK hc i pins s σ H E I hf st hg
    subst hP hw hK
    obtain ⟨f0,f1,f2,f3,f4,f5⟩ := hf it (by simp)
    have W := Walks.range (prog := X.prog) (w := X.w) (I.ok.hd hc) it lo 1 n
    refine W.item i s _ _ hg st fun v h' tk hv st' kk => ?_
    obtain ⟨t,rfl⟩ := hv
    have I1 : Inv X pins σ H { s with heap := h',toks := tk } := I.turned (fun b o hb e => kk b o (by simpa using hb) e) f0 f1 f3 f4 f5
    refine ⟨_,rfl,go_of (s := { s with heap := h',toks := tk }) (n := "range_iterator") st' rfl rfl (by decide) ⟨.int (lo + i),H,I1,⟨t, ?_⟩,⟨rfl,rfl⟩,st',fun b hb => (hf b hb).1⟩⟩
    rw [Int.mul_one]
  done := by
    intro X hP hw hK hc i pins s σ H E I hf st hg
    subst hP hw hK
    obtain ⟨f0,f1,f2,f3,f4,f5⟩ := hf it (by simp)
    exact wpAny_pyNext_range_end (I.ok.hd hc) st (by have : n ≤ i := hg; omega) fun h' eb => ⟨rfl,I.turned (t' := s.toks) (fun b o hb e => eb b o hb e) f0 f1 f3 f4 f5⟩
  self := fun _ _ _ _ _ st h => wpAny_pyIter_rangeiter st h
end L2
namespace L2
open PySem PySem.Spec PyProof.Rows
section
variable {X : Cx} {tg : Expr}
def iList (K : PySem.W.Frag) (tl : TE) : TI := fun σ H R => tl σ H fun x H1 => ∃ a,x = .ref a ∧ (∃ xs,SqL K H1 a xs) ∧ R (Itl K a) H1
def iTup (K : PySem.W.Frag) (tl : TE) : TI := fun σ H R => tl σ H fun x H1 => ∃ a,x = .ref a ∧ (∃ xs,SqT K H1 a xs) ∧ R (Itt K a) H1
theorem pi_list {l : Expr} {tl : TE} (hl : PE X l tl) : PI X tg l (iList X.K tl) := by
  intro pins s σ H R I h
  refine thn (hl pins s σ H _ I h) fun v s1 ⟨x,H1,I1,r1,q1⟩ => ?_
  obtain ⟨a,e,⟨xs,hq⟩,q⟩ := q1
  subst e
  cases r1
  obtain ⟨its,rv,p,hz⟩ := I1.list hq
  refine wpAny_pyIter_list p.isList ?_
  refine ⟨s1.heap.objs.size,[s1.heap.objs.size],_,_,H1,rfl,I1.kept (t' := s1.toks) fun b o e => Heap.get?_push_of_some _ e,turn_list a _,⟨_,Heap.get?_push_size _ rfl,rfl,rfl⟩,fun b hb => ?_,q⟩
  have e : b = s1.heap.objs.size := by simpa using hb
  subst e
  exact I1.fpOk (Nat.le_refl _) (I1.hok.fresh (Nat.le_refl _))
theorem pi_tup {l : Expr} {tl : TE} (hl : PE X l tl) : PI X tg l (iTup X.K tl) := by
  intro pins s σ H R I h
  refine thn (hl pins s σ H _ I h) fun v s1 ⟨x,H1,I1,r1,q1⟩ => ?_
  obtain ⟨a,e,⟨xs,hq⟩,q⟩ := q1
  subst e
  cases r1
  obtain ⟨its,rv,p,hz⟩ := I1.tuple hq
  refine wpAny_pyIter_tuple (show s1.heap.IsTuple a its.toArray from p) ?_
  refine ⟨s1.heap.objs.size,[s1.heap.objs.size],_,_,H1,rfl,I1.kept (t' := s1.toks) fun b o e => Heap.get?_push_of_some _ e,turn_tuple a _,⟨_,Heap.get?_push_size _ rfl,rfl,rfl⟩,fun b hb => ?_,q⟩
  have e : b = s1.heap.objs.size := by simpa using hb
  subst e
  exact I1.fpOk (Nat.le_refl _) (I1.hok.fresh (Nat.le_refl _))
theorem range_it {pins : List (Addr × Obj)} {σ : St} {H : Hp} {s : Shared} {R : It → Hp → Prop} {E : Value → Shared → Prop} {lo hi : Int} {t u v : Tok} {tk : Nat} (I : Inv X pins σ H s) (h1 : -(2 ^ 62) ≤ lo) (h2 : lo < 2 ^ 62) (h3 : -(2 ^ 62) ≤ hi) (h4 : hi < 2 ^ 62)
    (q : R (Itr lo (hi - lo).toNat) H) : wpAny (model X.prog X.w) X.A (pyIter (.ref s.heap.objs.size)) (PIE X pins σ tg R) E { s with heap := s.heap.push { cls := .type "range",data := .fields #[.int lo t,.int hi u,.int 1 v] },toks := tk } := by
  refine wpAny_pyIter_range (IsRange.new ..) (small_one h1 h2 h3 h4) ?_
  have I1 : Inv X pins σ H { s with heap := s.heap.push { cls := .type "range",data := .fields #[.int lo t,.int hi u,.int 1 v] },toks := tk } := I.kept fun b o e => Heap.get?_push_of_some _ e
  refine ⟨(s.heap.push { cls := .type "range",data := .fields #[.int lo t,.int hi u,.int 1 v] }).objs.size,[(s.heap.push { cls := .type "range",data := .fields #[.int lo t,.int hi u,.int 1 v] }).objs.size],_,_,H,rfl,
    I1.kept (t' := tk) fun b o e => Heap.get?_push_of_some _ e,turn_range _ lo (hi - lo).toNat, ?_,fun b hb => ?_,q⟩
  · have e1 : lo + ((0 : Nat) : Int) * 1 = lo := by simp
    have e2 : (((hi - lo).toNat : Nat) : Int) - ((0 : Nat) : Int) = Builtin.Range.rangeSize lo hi 1 := by rw [rangeSize_one]; split <;> omega
    show IsRangeIter _ _ (lo + ((0 : Nat) : Int) * 1) ((((hi - lo).toNat : Nat) : Int) - ((0 : Nat) : Int)) 1
    rw [e1,e2]
    exact Heap.get?_push_size _ rfl
  · have e : b = (s.heap.push { cls := .type "range",data := .fields #[.int lo t,.int hi u,.int 1 v] }).objs.size := by simpa using hb
    subst e
    exact I1.fpOk (Nat.le_refl _) (I1.hok.fresh (Nat.le_refl _))
def iRng1 (ta : TA) : TI := fun σ H R => ta σ H fun vs H1 => ∃ j : Int,vs = [.int j] ∧ -(2 ^ 62) ≤ j ∧ j < 2 ^ 62 ∧ R (Itr 0 j.toNat) H1
def iRng2 (ta : TA) : TI := fun σ H R => ta σ H fun vs H1 => ∃ i j : Int,vs = [.int i,.int j] ∧ (-(2 ^ 62) ≤ i ∧ i < 2 ^ 62 ∧ -(2 ^ 62) ≤ j ∧ j < 2 ^ 62) ∧ R (Itr i (j - i).toNat) H1
theorem pi_range1 {a : Expr} {ta : TA} {p pos : Pos} (hg : Gl X "range") (hm : X.mg "range" = none) (ha : PA X [a] ta) (hs : starEach [a] X.env = [(false,eval a X.env)] := by rfl) : PI X tg (.Call (.Name "range" p) [a] [] pos) (iRng1 ta) := by
  intro pins s σ H R I h
  refine Call_ (ld_blt I hg hm boot_range (PyProof.Rows.callWith_type1 (thn (ha pos pins s σ H _ I h) fun us s1 ⟨vs,H1,I1,r1,q1⟩ => ?_) hs rfl))
  obtain ⟨j,e,q1,q2,q⟩ := q1
  subst e
  cases r1 with
  | cons r rr =>
    cases rr
    obtain ⟨t,rfl⟩ := r
    exact call_range_1 (range_it I1 (by omega) (by omega) q1 q2 (by simpa using q))
theorem pi_range2 {a b : Expr} {ta : TA} {p pos : Pos} (hg : Gl X "range") (hm : X.mg "range" = none) (ha : PA X [a,b] ta) (hs : starEach [a,b] X.env = [(false,eval a X.env),(false,eval b X.env)] := by rfl) (hs2 : starEach [b] X.env = [(false,eval b X.env)] := by rfl) :
    PI X tg (.Call (.Name "range" p) [a,b] [] pos) (iRng2 ta) := by
  intro pins s σ H R I h
  refine Call_ (ld_blt I hg hm boot_range (PyProof.Rows.callWith_type1 (thn (ha pos pins s σ H _ I h) fun us s1 ⟨vs,H1,I1,r1,q1⟩ => ?_) (by rw [hs,hs2]) (by rw [hs2]; rfl)))
  obtain ⟨i,j,e,⟨q1,q2,q3,q4⟩,q⟩ := q1
  subst e
  cases r1 with
  | cons r rr =>
    cases rr with
    | cons r' rr =>
      cases rr
      obtain ⟨t,rfl⟩ := r
      obtain ⟨t',rfl⟩ := r'
      exact call_range_2 (range_it I1 q1 q2 q3 q4 q)
def tFor (wi : TI) (g : TG) (tb : TS) : TS := fun D σ H => wi σ H fun J H1 => ∃ W : Nat → Nat → St → Hp → Prop,(∃ m,W 0 m σ H1) ∧ ∀ i m σ H,W i m σ H →
  (J.stop i H ∧ D.nx σ H) ∨ (J.go i H ∧ ∃ N : St → Hp → Prop,(∀ σ' H',N σ' H' → ∃ m',m' < m ∧ W (i + 1) m' σ' H') ∧ ∀ x H',J.yld i H x H' → g x σ H' fun σ2 H2 => tb { D with nx := N,ct := N,bk := D.nx } σ2 H2)
def pinsAt (fp : List Addr) (h : Heap) : List (Addr × Obj) := fp.filterMap fun b => (h.get? b).map fun o => (b,o)
theorem mem_pinsAt {fp : List Addr} {h : Heap} {b : Addr} {o : Obj} (hb : b ∈ fp) (e : h.get? b = some o) : (b,o) ∈ pinsAt fp h := List.mem_filterMap.mpr ⟨b,hb,by rw [e]; rfl⟩
theorem of_pinsAt {fp : List Addr} {h : Heap} {p : Addr × Obj} (hp : p ∈ pinsAt fp h) : p.1 ∈ fp ∧ h.get? p.1 = some p.2 := by
  obtain ⟨b,hb,e⟩ := List.mem_filterMap.mp hp
  cases q : h.get? b with
  | none => rw [q] at e; cases e
  | some o =>
    rw [q] at e
    have e' : (b,o) = p := Option.some.inj e
    subst e'
    exact ⟨hb,q⟩
theorem Inv.pinned {pins : List (Addr × Obj)} {σ : St} {H : Hp} {s : Shared} {fp : List Addr} (I : Inv X pins σ H s) (hf : ∀ b ∈ fp,FpOk X pins H b) (ho : ∀ b ∈ fp,∃ o,s.heap.get? b = some o ∧ ∀ v,o.data ≠ .cell v) : Inv X (pins ++ pinsAt fp s.heap) σ H s :=
  I.pins_of fun p hp => (List.mem_append.mp hp).elim (fun z => I.pin p (List.mem_append_right _ z)) fun z => by
    obtain ⟨hb,e⟩ := of_pinsAt z
    obtain ⟨f0,f1,f2,_⟩ := hf p.1 hb
    obtain ⟨o,e',d⟩ := ho p.1 hb
    rw [e] at e'; cases e'
    exact ⟨e,f0,f1,f2,d⟩
theorem Inv.unpinned {pins pl : List (Addr × Obj)} {σ : St} {H : Hp} {s : Shared} (I : Inv X (pins ++ pl) σ H s) : Inv X pins σ H s := I.pins_of fun p hp => I.pin p (List.mem_append_right _ (List.mem_append_left _ hp))
theorem ps_for {iter : Expr} {body : List Stmt} {wi : TI} {g : TG} {tb : TS} {pos : Pos} (hp : PassesOwn (model X.prog X.w) X.A X.env X.xe) (hc : X.calm = true) (hi : PI X tg iter wi) (hg : PG X tg g) (hb : PSs X body tb)
    (hs : ∀ x,foldedSetIterable iter X.env x = pure x := by intro _; rfl) : PS X (.For tg iter body [] pos) (tFor wi g tb) := by
  intro pins s σ H D I h
  refine wpAny_For (thn (hi pins s σ H _ I h) fun v s1 h1 => thn h1 fun itv s2 h2 => ?_) hs
  obtain ⟨it,fp,tn,J,H2,e,I2,T,st2,f2,W,⟨m0,w0⟩,turn⟩ := h2
  subst e
  have stat : ∀ {H' : Hp},(∀ b ∈ fp,H' b = none) → ∀ b ∈ fp,FpOk X pins H' b := fun hn b hb => ⟨hn b hb,(f2 b hb).2⟩
  refine codeAny_forLoop_any (fun n s' => ∃ i σ' H',Inv X pins σ' H' s' ∧ tn i s'.heap ∧ (∀ b ∈ fp,H' b = none) ∧ W i n σ' H') ?_ m0 ⟨0,σ,H2,I2,st2,fun b hb => (f2 b hb).1,w0⟩
  rintro n s3 ⟨i,σ3,H3,I3,st3,fr3,w3⟩
  rcases turn i n σ3 H3 w3 with ⟨stop,qn⟩ | ⟨go,N,hN,step⟩
  · refine wpAny_passesOwn hp (thn (T.done X rfl rfl rfl hc i pins s3 σ3 H3 X.xe I3 (stat fr3) st3 stop) fun r s4 ⟨hr,I4⟩ => ?_)
    subst hr
    exact wpAny_execs_nil ⟨σ3,H3,I4,qn⟩
  · refine wpAny_passesOwn hp (thn (T.item X rfl rfl rfl hc i pins s3 σ3 H3 X.xe I3 (stat fr3) st3 go) fun r s4 ⟨u,hr,h4⟩ => ?_)
    subst hr
    refine wpAny_passesOwn hp (thn h4 fun _ s5 ⟨x,H5,I5,r5,y5,st5,fr5⟩ => ?_)
    have I5' := I5.pinned (stat fr5) (T.obj _ _ st5)
    refine wpAny_passesOwn hp (thn (hg _ s5 σ3 H5 x u _ I5' r5 (step x H5 y5)) fun _ s6 ⟨σ6,H6,I6,q6⟩ => ?_)
    refine wpAny_passesOwn hp (thn (hb _ s6 σ6 H6 _ I6 q6) fun f s7 q7 => ?_)
    have again : ∀ {σ7 : St} {H7 : Hp},Inv X (pins ++ pinsAt fp s5.heap) σ7 H7 s7 → N σ7 H7 → ∃ m,m < n ∧ ∃ i σ' H',Inv X pins σ' H' s7 ∧ tn i s7.heap ∧ (∀ b ∈ fp,H' b = none) ∧ W i m σ' H' := fun {σ7 H7} I7 n7 => by
      obtain ⟨m',hm,w7⟩ := hN σ7 H7 n7
      refine ⟨m',hm,i + 1,σ7,H7,I7.unpinned,T.keep _ _ _ st5 fun b hb o e => (I7.pin (b,o) (List.mem_append_right _ (List.mem_append_right _ (mem_pinsAt hb e)))).1,fun b hb => ?_,w7⟩
      obtain ⟨o,e,d⟩ := T.obj _ _ st5 b hb
      exact (I7.pin (b,o) (List.mem_append_right _ (List.mem_append_right _ (mem_pinsAt hb e)))).2.1
    cases f with
    | next => obtain ⟨σ7,H7,I7,n7⟩ := q7; exact again I7 n7
    | cont => obtain ⟨σ7,H7,I7,n7⟩ := q7; exact again I7 n7
    | brk => obtain ⟨σ7,H7,I7,q7⟩ := q7; exact ⟨σ7,H7,I7.unpinned,q7⟩
    | ret v => obtain ⟨x7,σ7,H7,I7,r7,q7⟩ := q7; exact ⟨x7,σ7,H7,I7.unpinned,r7,q7⟩
end
theorem for_tup {K : PySem.W.Frag} {a : Addr} {xs : List V} {g : TG} {tb : TS} {D : Ends} {σ : St} {H : Hp} (Pv : Nat → St → Hp → Prop) (h0 : Pv 0 σ H) (hl : ∀ i σ H,i ≤ xs.length → Pv i σ H → SqT K H a xs)
    (hs : ∀ i x σ H,xs[i]? = some x → Pv i σ H → g x σ H fun σ2 H2 => tb { D with nx := Pv (i + 1),ct := Pv (i + 1),bk := D.nx } σ2 H2) (hd : ∀ σ H,Pv xs.length σ H → D.nx σ H) :
    ∃ W : Nat → Nat → St → Hp → Prop,(∃ m,W 0 m σ H) ∧ ∀ i m σ H,W i m σ H →
      ((Itt K a).stop i H ∧ D.nx σ H) ∨ ((Itt K a).go i H ∧ ∃ N : St → Hp → Prop,(∀ σ' H',N σ' H' → ∃ m',m' < m ∧ W (i + 1) m' σ' H') ∧ ∀ x H',(Itt K a).yld i H x H' → g x σ H' fun σ2 H2 => tb { D with nx := N,ct := N,bk := D.nx } σ2 H2) := by
  refine ⟨fun i m σ H => m = xs.length - i ∧ i ≤ xs.length ∧ Pv i σ H,⟨xs.length,by simp,Nat.zero_le _,h0⟩, ?_⟩
  rintro i m σ H ⟨rfl,hi,p⟩
  have q := hl i σ H hi p
  by_cases hlt : i < xs.length
  · refine .inr ⟨⟨xs,xs[i],q,by simp [hlt]⟩,Pv (i + 1),fun σ' H' p' => ⟨xs.length - (i + 1),by omega,rfl,hlt,p'⟩,fun x H' y => ?_⟩
    obtain ⟨e,y⟩ := y
    subst e
    exact hs i x σ _ (y xs q) p
  · have e : i = xs.length := by omega
    subst e
    exact .inl ⟨⟨xs,q,Nat.le_refl _⟩,hd σ H p⟩
theorem for_range {lo : Int} {n : Nat} {g : TG} {tb : TS} {D : Ends} {σ : St} {H : Hp} (Pv : Nat → St → Hp → Prop) (h0 : Pv 0 σ H)
    (hs : ∀ i σ H,i < n → Pv i σ H → g (.int (lo + i)) σ H fun σ2 H2 => tb { D with nx := Pv (i + 1),ct := Pv (i + 1),bk := D.nx } σ2 H2) (hd : ∀ σ H,Pv n σ H → D.nx σ H) :
    ∃ W : Nat → Nat → St → Hp → Prop,(∃ m,W 0 m σ H) ∧ ∀ i m σ H,W i m σ H →
      ((Itr lo n).stop i H ∧ D.nx σ H) ∨ ((Itr lo n).go i H ∧ ∃ N : St → Hp → Prop,(∀ σ' H',N σ' H' → ∃ m',m' < m ∧ W (i + 1) m' σ' H') ∧ ∀ x H',(Itr lo n).yld i H x H' → g x σ H' fun σ2 H2 => tb { D with nx := N,ct := N,bk := D.nx } σ2 H2) := by
  refine ⟨fun i m σ H => m = n - i ∧ i ≤ n ∧ Pv i σ H,⟨n,by simp,Nat.zero_le _,h0⟩, ?_⟩
  rintro i m σ H ⟨rfl,hi,p⟩
  by_cases hlt : i < n
  · refine .inr ⟨hlt,Pv (i + 1),fun σ' H' p' => ⟨n - (i + 1),by omega,rfl,hlt,p'⟩,fun x H' y => ?_⟩
    obtain ⟨e,y⟩ := y
    subst e y
    exact hs i σ _ hlt p
  · have e : i = n := by omega
    subst e
    exact .inl ⟨Nat.le_refl _,hd σ H p⟩
end L2
namespace L2
open PySem PySem.Spec PyProof.Rows
abbrev R2 := V → V → Hp → VK → Prop
def OpR (X : Cx) (f : Value → Value → Sem Value) (r : R2) : Prop :=
  ∀ (pins : List (Addr × Obj)) (s : Shared) (σ : St) (H : Hp) (x y : V) (v u : Value) (Q : VK),Inv X pins σ H s → RelV x v → RelV y u → r x y H Q →
    wpAny (model X.prog X.w) X.A (f v u) (EP X pins σ Q) X.xe s
def UnR (X : Cx) (f : Value → Sem Value) (r : V → Hp → VK → Prop) : Prop :=
  ∀ (pins : List (Addr × Obj)) (s : Shared) (σ : St) (H : Hp) (x : V) (v : Value) (Q : VK),Inv X pins σ H s → RelV x v → r x H Q →
    wpAny (model X.prog X.w) X.A (f v) (EP X pins σ Q) X.xe s
def CallR (X : Cx) (f : Value) (r : List V → Hp → VK → Prop) : Prop :=
  ∀ (pins : List (Addr × Obj)) (s : Shared) (σ : St) (H : Hp) (xs : List V) (us : List Value) (Q : VK),Inv X pins σ H s → Vals xs us → r xs H Q →
    wpAny (model X.prog X.w) X.A (call f us) (EP X pins σ Q) X.xe s
def TruR (X : Cx) (r : V → Hp → (Bool → Hp → Prop) → Prop) : Prop :=
  ∀ (pins : List (Addr × Obj)) (s : Shared) (σ : St) (H : Hp) (x : V) (v : Value) (Q : Bool → Hp → Prop),Inv X pins σ H s → RelV x v → r x H Q →
    wpAny (model X.prog X.w) X.A (truthy v) (TP X pins σ Q) X.xe s
def tOp (r : R2) (ta tb : TE) : TE := fun σ H Q => ta σ H fun x H1 => tb σ H1 fun y H2 => r x y H2 Q
def tUn (r : V → Hp → VK → Prop) (ta : TE) : TE := fun σ H Q => ta σ H fun x H1 => r x H1 Q
def rI (C : Int → Int → Prop) (g : Int → Int → V) : R2 := fun x y H Q => ∃ i j,x = .int i ∧ y = .int j ∧ C i j ∧ Q (g i j) H
def rI0 (g : Int → Int → V) : R2 := fun x y H Q => ∃ i j,x = .int i ∧ y = .int j ∧ Q (g i j) H
def rU (g : Int → V) : V → Hp → VK → Prop := fun x H Q => ∃ i,x = .int i ∧ Q (g i) H
section
variable {X : Cx} {a b c : Expr} {ta tb tc : TE} {pos : Pos}
theorem binT (ha : PE X a ta) (hb : PE X b tb) {pins : List (Addr × Obj)} {s : Shared} {σ : St} {H : Hp} {R : V → V → Hp → Prop} (I : Inv X pins σ H s)
    (h : ta σ H fun x H1 => tb σ H1 fun y H2 => R x y H2) {Q : Value → Shared → Prop} {f : Value → Value → Sem Value}
    (hf : ∀ v u s2 x y H2,Inv X pins σ H2 s2 → RelV x v → RelV y u → R x y H2 → wpAny (model X.prog X.w) X.A (f v u) Q X.xe s2) :
    wpAny (model X.prog X.w) X.A (eval a X.env) (fun v s₁ => wpAny (model X.prog X.w) X.A (eval b X.env) (fun u s₂ => wpAny (model X.prog X.w) X.A (f v u) Q X.xe s₂) X.xe s₁) X.xe s := by
  refine thn (ha pins s σ H _ I h) fun v s1 ⟨x,H1,I1,r1,q1⟩ => ?_
  refine thn (hb pins s1 σ H1 _ I1 q1) fun u s2 ⟨y,H2,I2,r2,q2⟩ => ?_
  exact hf v u s2 x y H2 I2 r1 r2 q2
theorem pe_op {op : Operator} {r : R2} (ho : OpR X (binaryOp op) r) (ha : PE X a ta) (hb : PE X b tb) : PE X (.BinOp a op b pos) (tOp r ta tb) := by
  intro pins s σ H Q I h
  exact wpAny_BinOp (binT ha hb I h fun v u s2 x y H2 I2 rx ry q => ho pins s2 σ H2 x y v u Q I2 rx ry q)
theorem pe_un {op : UnaryOp} {r : V → Hp → VK → Prop} (ho : UnR X (unaryOp op) r) (ha : PE X a ta) : PE X (.UnaryOp op a pos) (tUn r ta) := by
  intro pins s σ H Q I h
  exact UnaryOp_ (thn (ha pins s σ H _ I h) fun v s1 ⟨x,H1,I1,r1,q1⟩ => ho pins s1 σ H1 x v Q I1 r1 q1)
theorem opI {f : Value → Value → Sem Value} {C : Int → Int → Prop} {g : Int → Int → Int}
    (rule : ∀ (i j : Int) (t u : Tok) (s : Shared) (Q : Value → Shared → Prop) (E : Value → Shared → Prop),C i j → Q (.int (g i j) s.toks) { s with toks := s.toks + 1 } → wpAny (model X.prog X.w) X.A (f (.int i t) (.int j u)) Q E s) :
    OpR X f (rI C fun i j => .int (g i j)) := by
  intro pins s σ H x y v u Q I rx ry h
  obtain ⟨i,j,rfl,rfl,hc,q⟩ := h
  obtain ⟨t,rfl⟩ := rx
  obtain ⟨t',rfl⟩ := ry
  exact rule i j t t' s _ _ hc ⟨.int (g i j),H,I.tok _,⟨_,rfl⟩,q⟩
theorem opI0 {f : Value → Value → Sem Value} {g : Int → Int → Int}
    (rule : ∀ (i j : Int) (t u : Tok) (s : Shared) (Q : Value → Shared → Prop) (E : Value → Shared → Prop),Q (.int (g i j) s.toks) { s with toks := s.toks + 1 } → wpAny (model X.prog X.w) X.A (f (.int i t) (.int j u)) Q E s) :
    OpR X f (rI0 fun i j => .int (g i j)) := by
  intro pins s σ H x y v u Q I rx ry h
  obtain ⟨i,j,rfl,rfl,q⟩ := h
  obtain ⟨t,rfl⟩ := rx
  obtain ⟨t',rfl⟩ := ry
  exact rule i j t t' s _ _ ⟨.int (g i j),H,I.tok _,⟨_,rfl⟩,q⟩
theorem opB0 {f : Value → Value → Sem Value} {g : Int → Int → Bool}
    (rule : ∀ (i j : Int) (t u : Tok) (s : Shared) (Q : Value → Shared → Prop) (E : Value → Shared → Prop),Q (.bool (g i j)) s → wpAny (model X.prog X.w) X.A (f (.int i t) (.int j u)) Q E s) :
    OpR X f (rI0 fun i j => .bl (g i j)) := by
  intro pins s σ H x y v u Q I rx ry h
  obtain ⟨i,j,rfl,rfl,q⟩ := h
  obtain ⟨t,rfl⟩ := rx
  obtain ⟨t',rfl⟩ := ry
  exact rule i j t t' s _ _ ⟨.bl (g i j),H,I,rfl,q⟩
def CDiv (i j : Int) : Prop := 0 < j ∧ j < 1073741824
def CMul (i j : Int) : Prop := (-(2 ^ 64) < i ∧ i < 2 ^ 64) ∨ (-(2 ^ 64) < j ∧ j < 2 ^ 64)
theorem CMul.ok {i j : Int} (h : CMul i j) : IntMulOk i j := by
  rcases h with ⟨h1,h2⟩ | ⟨h1,h2⟩
  · exact .of_left (intBits_le_64 h1 h2)
  · exact .of_right (intBits_le_64 h1 h2)
theorem op_add : OpR X (binaryOp .Add) (rI0 fun i j => .int (i + j)) := opI0 fun _ _ _ _ _ _ _ q => add_int q
theorem op_sub : OpR X (binaryOp .Sub) (rI0 fun i j => .int (i - j)) := opI0 fun _ _ _ _ _ _ _ q => sub_int q
theorem op_mul : OpR X (binaryOp .Mult) (rI CMul fun i j => .int (i * j)) := opI fun _ _ _ _ _ _ _ hc q => mul_int q hc.ok
theorem op_fdiv : OpR X (binaryOp .FloorDiv) (rI CDiv fun i j => .int (i / j)) := opI fun i j _ _ _ _ _ hc q => by
  have h1 : (0 : Int) < j := hc.1
  have h2 : j < 1073741824 := hc.2
  exact floordiv_int (by omega) (by rw [Int.fdiv_eq_ediv_of_nonneg i (by omega)]; exact q) (.inl (PyProof.noPylong_small (by omega)))
theorem op_mod : OpR X (binaryOp .Mod) (rI (fun _ j => 0 < j) fun i j => .int (i % j)) := opI fun i j _ _ _ _ _ hc q => by
  have h1 : (0 : Int) < j := hc
  exact mod_int' (by omega) (by rw [Int.fmod_eq_emod_of_nonneg i (by omega)]; exact q)
theorem unI {f : Value → Sem Value} {g : Int → Int}
    (rule : ∀ (i : Int) (t : Tok) (s : Shared) (Q : Value → Shared → Prop) (E : Value → Shared → Prop),Q (.int (g i) s.toks) { s with toks := s.toks + 1 } → wpAny (model X.prog X.w) X.A (f (.int i t)) Q E s) :
    UnR X f (rU fun i => .int (g i)) := by
  intro pins s σ H x v Q I rx h
  obtain ⟨i,rfl,q⟩ := h
  obtain ⟨t,rfl⟩ := rx
  exact rule i t s _ _ ⟨.int (g i),H,I.tok _,⟨_,rfl⟩,q⟩
theorem un_neg : UnR X (unaryOp .USub) (rU fun i => .int (-i)) := unI fun _ _ _ _ _ q => neg_int q
end
def scal : V → V → Bool
  | .non,.non => true | .non,.int _ => true | .int _,.non => true | .non,.bl _ => true | .bl _,.non => true | .non,.str _ => true | .str _,.non => true
  | .int _,.int _ => true | .bl _,.bl _ => true | .str _,.str _ => true | .byt _,.byt _ => true
  | .int _,.str _ => true | .str _,.int _ => true | .bl _,.str _ => true | .str _,.bl _ => true
  | _,_ => false
def rEq : R2 := fun x y H Q => scal x y = true ∧ Q (.bl (decide (x = y))) H
def rNe : R2 := fun x y H Q => scal x y = true ∧ Q (.bl (!decide (x = y))) H
theorem dec_int {i j : Int} : decide (V.int i = V.int j) = (i == j) := by
  rw [Bool.eq_iff_iff]
  simp
theorem dec_bl {i j : Bool} : decide (V.bl i = V.bl j) = (i == j) := by
  rw [Bool.eq_iff_iff]
  simp
theorem dec_str {i j : Str} : decide (V.str i = V.str j) = (i == j) := by
  rw [Bool.eq_iff_iff]
  simp
theorem dec_byt {i j : Array UInt8} : decide (V.byt i = V.byt j) = (i.toList == j.toList) := by
  rw [Bool.eq_iff_iff]
  cases i
  cases j
  simp
section
variable {X : Cx} {a b c : Expr} {ta tb tc : TE} {pos : Pos}
theorem fin_bl {pins : List (Addr × Obj)} {σ : St} {H : Hp} {s : Shared} {Q : VK} {k k' : Bool} (I : Inv X pins σ H s) (q : Q (.bl k) H) (e : k = k') : EP X pins σ Q (.bool k') s := by
  subst e
  exact ⟨.bl k,H,I,rfl,q⟩
theorem op_eq : OpR X (compareOp .Eq) rEq := by
  intro pins s σ H x y v u Q I rx ry h
  obtain ⟨hs,q⟩ := h
  cases x with
  | non =>
    cases rx
    cases y with
    | non => cases ry; exact PySem.EqNone.eq_none_none (fin_bl I q (by simp))
    | bl j => cases ry; exact PySem.EqNone.eq_none_bool (fin_bl I q (by simp))
    | int j => obtain ⟨t',rfl⟩ := ry; exact PySem.EqNone.eq_none_int (fin_bl I q (by simp))
    | str j => obtain ⟨t',rfl⟩ := ry; exact PySem.EqNone.eq_none_str (fin_bl I q (by simp))
    | _ => exact absurd (show false = true from hs) Bool.false_ne_true
  | bl i =>
    cases rx
    cases y with
    | non => cases ry; exact PySem.EqNone.eq_bool_none (fin_bl I q (by simp))
    | bl j => cases ry; exact eq_bool (fin_bl I q dec_bl)
    | str j => obtain ⟨t',rfl⟩ := ry; exact PySem.EqMixed.eq_bool_str (fin_bl I q (by simp))
    | _ => exact absurd (show false = true from hs) Bool.false_ne_true
  | int i =>
    obtain ⟨t,rfl⟩ := rx
    cases y with
    | non => cases ry; exact PySem.EqNone.eq_int_none (fin_bl I q (by simp))
    | int j => obtain ⟨t',rfl⟩ := ry; exact eq_int (fin_bl I q dec_int)
    | str j => obtain ⟨t',rfl⟩ := ry; exact PySem.EqMixed.eq_int_str (fin_bl I q (by simp))
    | _ => exact absurd (show false = true from hs) Bool.false_ne_true
  | str i =>
    obtain ⟨t,rfl⟩ := rx
    cases y with
    | non => cases ry; exact PySem.EqNone.eq_str_none (fin_bl I q (by simp))
    | bl j => cases ry; exact PySem.EqMixed.eq_str_bool (fin_bl I q (by simp))
    | int j => obtain ⟨t',rfl⟩ := ry; exact PySem.EqMixed.eq_str_int (fin_bl I q (by simp))
    | str j => obtain ⟨t',rfl⟩ := ry; exact eq_str (fin_bl I q dec_str)
    | _ => exact absurd (show false = true from hs) Bool.false_ne_true
  | byt i =>
    obtain ⟨t,rfl⟩ := rx
    cases y with
    | byt j => obtain ⟨t',rfl⟩ := ry; exact PySem.W.eq_bytes (fin_bl I q dec_byt)
    | _ => exact absurd (show false = true from hs) Bool.false_ne_true
  | _ => cases y <;> exact absurd (show false = true from hs) Bool.false_ne_true
theorem op_ne : OpR X (compareOp .NotEq) rNe := by
  intro pins s σ H x y v u Q I rx ry h
  obtain ⟨hs,q⟩ := h
  cases x with
  | non =>
    cases rx
    cases y with
    | non => cases ry; exact PySem.EqNone.ne_none_none (fin_bl I q (by simp))
    | bl j => cases ry; exact PySem.EqNone.ne_none_bool (fin_bl I q (by simp))
    | int j => obtain ⟨t',rfl⟩ := ry; exact PySem.EqNone.ne_none_int (fin_bl I q (by simp))
    | str j => obtain ⟨t',rfl⟩ := ry; exact PySem.EqNone.ne_none_str (fin_bl I q (by simp))
    | _ => exact absurd (show false = true from hs) Bool.false_ne_true
  | bl i =>
    cases rx
    cases y with
    | non => cases ry; exact PySem.EqNone.ne_bool_none (fin_bl I q (by simp))
    | bl j => cases ry; exact ne_bool (fin_bl I q (congrArg not dec_bl))
    | str j => obtain ⟨t',rfl⟩ := ry; exact PySem.EqMixed.ne_bool_str (fin_bl I q (by simp))
    | _ => exact absurd (show false = true from hs) Bool.false_ne_true
  | int i =>
    obtain ⟨t,rfl⟩ := rx
    cases y with
    | non => cases ry; exact PySem.EqNone.ne_int_none (fin_bl I q (by simp))
    | int j => obtain ⟨t',rfl⟩ := ry; exact ne_int (fin_bl I q (congrArg not dec_int))
    | str j => obtain ⟨t',rfl⟩ := ry; exact PySem.EqMixed.ne_int_str (fin_bl I q (by simp))
    | _ => exact absurd (show false = true from hs) Bool.false_ne_true
  | str i =>
    obtain ⟨t,rfl⟩ := rx
    cases y with
    | non => cases ry; exact PySem.EqNone.ne_str_none (fin_bl I q (by simp))
    | bl j => cases ry; exact PySem.EqMixed.ne_str_bool (fin_bl I q (by simp))
    | int j => obtain ⟨t',rfl⟩ := ry; exact PySem.EqMixed.ne_str_int (fin_bl I q (by simp))
    | str j => obtain ⟨t',rfl⟩ := ry; exact ne_str (fin_bl I q (congrArg not dec_str))
    | _ => exact absurd (show false = true from hs) Bool.false_ne_true
  | byt i =>
    obtain ⟨t,rfl⟩ := rx
    cases y with
    | byt j => obtain ⟨t',rfl⟩ := ry; exact PySem.W.ne_bytes (fin_bl I q (congrArg not dec_byt))
    | _ => exact absurd (show false = true from hs) Bool.false_ne_true
  | _ => cases y <;> exact absurd (show false = true from hs) Bool.false_ne_true
theorem op_lt : OpR X (compareOp .Lt) (rI0 fun i j => .bl (decide (i < j))) := opB0 fun _ _ _ _ _ _ _ q => lt_int q
theorem op_le : OpR X (compareOp .LtE) (rI0 fun i j => .bl (decide (i ≤ j))) := opB0 fun _ _ _ _ _ _ _ q => le_int q
theorem op_gt : OpR X (compareOp .Gt) (rI0 fun i j => .bl (decide (j < i))) := opB0 fun _ _ _ _ _ _ _ q => gt_int q
theorem op_in_str : OpR X (compareOp .In) (fun x y H Q => ∃ i j,x = .str i ∧ y = .str j ∧ Q (.bl (!(Builtin.Str.occurrences j i 0 j.length 1).isEmpty)) H) := by
  intro pins s σ H x y v u Q I rx ry h
  obtain ⟨i,j,rfl,rfl,q⟩ := h
  obtain ⟨t,rfl⟩ := rx
  obtain ⟨t',rfl⟩ := ry
  exact in_str (fin_bl I q rfl)
theorem op_isN : OpR X (compareOp .Is) (fun x y H Q => y = .non ∧ Q (.bl (decide (x = .non))) H) := by
  intro pins s σ H x y v u Q I rx ry h
  obtain ⟨rfl,q⟩ := h
  cases ry
  refine is_none_gen (fin_bl I q ?_)
  cases x <;> first
    | (cases rx; rfl)
    | (obtain ⟨t,rfl⟩ := rx; rfl)
theorem op_notN : OpR X (compareOp .IsNot) (fun x y H Q => y = .non ∧ Q (.bl (!decide (x = .non))) H) := by
  intro pins s σ H x y v u Q I rx ry h
  obtain ⟨rfl,q⟩ := h
  cases ry
  refine isnot_none_gen (fin_bl I q ?_)
  cases x <;> first
    | (cases rx; rfl)
    | (obtain ⟨t,rfl⟩ := rx; rfl)
theorem op_notin_str : OpR X (compareOp .NotIn) (fun x y H Q => ∃ i j,x = .str i ∧ y = .str j ∧ Q (.bl (!(!(Builtin.Str.occurrences j i 0 j.length 1).isEmpty))) H) := by
  intro pins s σ H x y v u Q I rx ry h
  obtain ⟨i,j,rfl,rfl,q⟩ := h
  obtain ⟨t,rfl⟩ := rx
  obtain ⟨t',rfl⟩ := ry
  exact notIn_str (fin_bl I q rfl)
theorem nomark (b : Expr) {op : CmpOp} (h : op ≠ .In := by decide) (h2 : op ≠ .NotIn := by decide) : behindInMarks op b = false := by
  have e1 : (op == CmpOp.In) = false := by cases op <;> first | rfl | exact absurd rfl h
  have e2 : (op == CmpOp.NotIn) = false := by cases op <;> first | rfl | exact absurd rfl h2
  cases b <;> simp [behindInMarks,e1,e2]
theorem pe_cmpR {op : CmpOp} {r : R2} (ho : OpR X (compareOp op) r) (ha : PE X a ta) (hb : PE X b tb) (hm : behindInMarks op b = false) : PE X (.Compare a [op] [b] pos) (tOp r ta tb) := by
  intro pins s σ H Q I h
  exact wpAny_Compare1 (binT ha hb I h fun v u s2 x y H2 I2 rx ry q => ho pins s2 σ H2 x y v u Q I2 rx ry q) hm
def tTest (t : TE) : TT := fun σ H Q => t σ H fun x H' => ∃ k,x = .bl k ∧ Q k H'
theorem pt_cmpR {op : CmpOp} {r : R2} (ho : OpR X (compareOp op) r) (ha : PE X a ta) (hb : PE X b tb) (hm : behindInMarks op b = false) : PT X (.Compare a [op] [b] pos) (tTest (tOp r ta tb)) := by
  intro pins s σ H Q I h
  refine wpAny_isTrue_Compare1 (thn (ha pins s σ H _ I h) fun v s1 ⟨x,H1,I1,r1,q1⟩ => thn (hb pins s1 σ H1 _ I1 q1) fun u s2 ⟨y,H2,I2,r2,q2⟩ =>
    thn (ho pins s2 σ H2 x y v u _ I2 r1 r2 q2) fun c s3 ⟨z,H3,I3,r3,k,e,q3⟩ => ?_) hm
  subst e
  cases r3
  exact wpAny_truthy_bool ⟨H3,I3,q3⟩
def tChain (r r' : R2) (ta tb tc : TE) : TE := fun σ H Q => ta σ H fun x H1 => tb σ H1 fun y H2 => r x y H2 fun z H3 => ∃ k,z = .bl k ∧
  (if k = true then tc σ H3 fun w' H4 => r' y w' H4 Q else Q (.bl false) H3)
theorem pe_chain {op op' : CmpOp} {r r' : R2} (ho : OpR X (compareOp op) r) (ho' : OpR X (compareOp op') r') (ha : PE X a ta) (hb : PE X b tb) (hc : PE X c tc)
    (hm : lastMarks [op,op'] [b,c] = false := by with_unfolding_all rfl) : PE X (.Compare a [op,op'] [b,c] pos) (tChain r r' ta tb tc) := by
  intro pins s σ H Q I h
  refine Compare_chain (thn (ha pins s σ H _ I h) fun v s1 ⟨x,H1,I1,r1,q1⟩ => chain_link (thn (hb pins s1 σ H1 _ I1 q1) fun u s2 ⟨y,H2,I2,r2,q2⟩ =>
    thn (ho pins s2 σ H2 x y v u _ I2 r1 r2 q2) fun d s3 ⟨z,H3,I3,r3,k,e,q3⟩ => ?_)) hm
  subst e
  cases r3
  refine wpAny_truthy_bool ?_
  cases k with
  | false => exact ite_ff ⟨.bl false,H3,I3,rfl,q3⟩
  | true => exact ite_tt (chain_last (thn (hc pins s3 σ H3 _ I3 q3) fun w' s4 ⟨z',H4,I4,r4,q4⟩ => ho' pins s4 σ H4 y z' u w' Q I4 r2 r4 q4))
theorem pt_chain {op op' : CmpOp} {r r' : R2} (ho : OpR X (compareOp op) r) (ho' : OpR X (compareOp op') r') (ha : PE X a ta) (hb : PE X b tb) (hc : PE X c tc)
    (hm : lastMarks [op,op'] [b,c] = false := by with_unfolding_all rfl) : PT X (.Compare a [op,op'] [b,c] pos) (tTest (tChain r r' ta tb tc)) := by
  intro pins s σ H Q I h
  refine isTrue_chain (thn (ha pins s σ H _ I h) fun v s1 ⟨x,H1,I1,r1,q1⟩ => test_link (thn (hb pins s1 σ H1 _ I1 q1) fun u s2 ⟨y,H2,I2,r2,q2⟩ =>
    thn (ho pins s2 σ H2 x y v u _ I2 r1 r2 q2) fun d s3 ⟨z,H3,I3,r3,k,e,q3⟩ => ?_)) hm
  subst e
  cases r3
  refine wpAny_truthy_bool ?_
  cases k with
  | false =>
    obtain ⟨k',e',q'⟩ := q3
    cases e'
    exact ite_ff ⟨H3,I3,q'⟩
  | true =>
    refine ite_tt (test_last (thn (hc pins s3 σ H3 _ I3 q3) fun w' s4 ⟨z',H4,I4,r4,q4⟩ => thn (ho' pins s4 σ H4 y z' u w' _ I4 r2 r4 q4) fun d' s5 ⟨z2,H5,I5,r5,k2,e2,q5⟩ => ?_))
    subst e2
    cases r5
    exact wpAny_truthy_bool ⟨H5,I5,q5⟩
def TruV (K : PySem.W.Frag) (x : V) (H : Hp) (k : Bool) : Prop :=
  match x with
  | .non => k = false
  | .bl b => k = b
  | .int i => k = (i != 0)
  | .str y => y.length ≤ sizeLine ∧ k = ((y.length : Int) != 0)
  | .byt y => y.size ≤ sizeLine ∧ k = ((y.size : Int) != 0)
  | .ref p => (∃ xs,SqL K H p xs ∧ k = !xs.isEmpty) ∨ (∃ xs,SqT K H p xs ∧ k = !xs.isEmpty) ∨ ∃ kvs,H p = some (.dK kvs) ∧ k = !kvs.isEmpty
  | _ => False
theorem isEmpty_kv {κ : Type} {kvs : List (κ × V)} {vs : List (κ × Value)} (r : KV kvs vs) : (!vs.isEmpty) = !kvs.isEmpty := by
  cases r <;> rfl
theorem isEmpty_of {xs : List V} {its : List Value} (r : Vals xs its) : (!its.toArray.isEmpty) = !xs.isEmpty := by
  cases r <;> simp
theorem line63 : (sizeLine : Nat) < 2 ^ 63 := by rw [sizeLine_eq]; decide
theorem tru_ok : TruR X (fun x H Q => ∃ k,TruV X.K x H k ∧ Q k H) := by
  intro pins s σ H x v Q I rx h
  obtain ⟨k,e,q⟩ := h
  have hl := line63
  have hs : sizeLine = 16777216 := sizeLine_eq
  cases x with
  | non =>
    cases rx
    have e' : k = false := e
    subst e'
    exact truthy_none ⟨H,I,q⟩
  | bl b =>
    cases rx
    have e' : k = b := e
    subst e'
    exact wpAny_truthy_bool ⟨H,I,q⟩
  | int i =>
    obtain ⟨t,rfl⟩ := rx
    have e' : k = (i != 0) := e
    subst e'
    exact PySem.P.truthy_int ⟨H,I,q⟩
  | str y =>
    obtain ⟨t,rfl⟩ := rx
    obtain ⟨hy,e'⟩ : y.length ≤ sizeLine ∧ k = ((y.length : Int) != 0) := e
    subst e'
    exact PySem.P.truthy_str (by omega) ⟨H,I.tok _,q⟩
  | byt y =>
    obtain ⟨t,rfl⟩ := rx
    obtain ⟨hy,e'⟩ : y.size ≤ sizeLine ∧ k = ((y.size : Int) != 0) := e
    subst e'
    exact PySem.W.truthy_bytes (by omega) ⟨H,I.tok _,q⟩
  | ref p =>
    cases rx
    have e' : (∃ xs,SqL X.K H p xs ∧ k = !xs.isEmpty) ∨ (∃ xs,SqT X.K H p xs ∧ k = !xs.isEmpty) ∨ ∃ kvs,H p = some (.dK kvs) ∧ k = !kvs.isEmpty := e
    rcases e' with ⟨xs,hx,e'⟩ | ⟨xs,hx,e'⟩ | ⟨kvs,hx,e'⟩
    · subst e'
      obtain ⟨its,r,pl,hz⟩ := I.list hx
      have hlen := r.length
      exact wpAny_truthy_list pl.isList (by simp only [List.size_toArray]; omega) ⟨H,I.tok _,by rw [isEmpty_of r]; exact q⟩
    · subst e'
      obtain ⟨its,r,pl,hz⟩ := I.tuple hx
      have hlen := r.length
      exact truthy_tuple pl (by simp only [List.size_toArray]; omega) ⟨H,I.tok _,by rw [isEmpty_of r]; exact q⟩
    · subst e'
      obtain ⟨hz,hS,vs,r,m⟩ : kvs.length ≤ sizeLine ∧ (p == sysModules) = false ∧ ∃ vs,KV kvs vs ∧ s.heap.DictOf (mixKind X.prog X.w) p vs := I.hok p _ hx
      have hlen : kvs.length = vs.length := Paired.length r
      exact wpAny_truthy_dict hS m (by omega) ⟨H,I.tok _,by rw [isEmpty_kv r]; exact q⟩
  | _ => exact (show False from e).elim
theorem pt_truth (ha : PE X a ta) (he : ∀ whole,isTrue a X.env whole = (do let v ← whole; standAt a.pos; holding [v] (truthy v))) :
    PT X a (fun σ H Q => ta σ H fun x H' => ∃ k,TruV X.K x H' k ∧ Q k H') := by
  intro pins s σ H Q I h
  exact isTrue_plain (thn (ha pins s σ H _ I h) fun v s1 ⟨x,H1,I1,r1,q1⟩ => tru_ok pins s1 σ H1 x v Q I1 r1 q1) (he _)
theorem op_add_str : OpR X (binaryOp .Add) (fun x y H Q => ∃ i j,x = .str i ∧ y = .str j ∧ i.length + j.length ≤ sizeLine ∧ Q (.str (i ++ j)) H) := by
  intro pins s σ H x y v u Q I rx ry h
  obtain ⟨i,j,rfl,rfl,hz,q⟩ := h
  obtain ⟨t,rfl⟩ := rx
  obtain ⟨t',rfl⟩ := ry
  exact add_str (fun t' tk => ⟨.str (i ++ j),H,I.tok _,⟨_,rfl⟩,q⟩) hz
theorem vals1 {x : V} {us : List Value} (r : Vals [x] us) : ∃ u,us = [u] ∧ RelV x u := by
  cases r with
  | cons r1 r2 => cases r2; exact ⟨_,rfl,r1⟩
theorem vals2 {x y : V} {us : List Value} (r : Vals [x,y] us) : ∃ u w',us = [u,w'] ∧ RelV x u ∧ RelV y w' := by
  cases r with
  | cons r1 r2 =>
    cases r2 with
    | cons r3 r4 => cases r4; exact ⟨_,_,rfl,r1,r3⟩
theorem call_max2 (hc : X.calm = true) : CallR X (.builtin "max") (fun xs H Q => ∃ i j,xs = [.int i,.int j] ∧ Q (.int (if j > i then j else i)) H) := by
  intro pins s σ H xs us Q I r h
  obtain ⟨i,j,rfl,q⟩ := h
  obtain ⟨u,w',rfl,⟨t,rfl⟩,⟨t',rfl⟩⟩ := vals2 r
  refine max_two_ints (I.ok.hd hc) fun h' tk k => ⟨_,H,I.kept k, ?_,q⟩
  by_cases hj : j > i
  · rw [if_pos hj,if_pos hj]; exact ⟨_,rfl⟩
  · rw [if_neg hj,if_neg hj]; exact ⟨_,rfl⟩
theorem call_str_int : CallR X (.type "str") (fun xs H Q => ∃ i,xs = [.int i] ∧ i.natAbs.log2 < 1920 ∧ Q (.str (toString i)) H) := by
  intro pins s σ H xs us Q I r h
  obtain ⟨i,rfl,hz,q⟩ := h
  obtain ⟨u,rfl,t,rfl⟩ := vals1 r
  exact PySem.P.str_of_int hz ⟨.str _,H,I.tok _,⟨_,rfl⟩,q⟩
end
end L2
namespace L2
open PySem PySem.Spec PyProof.Rows
structure ObjM (h : Heap) (x dx C : Addr) (mA : Str → Option Value) : Prop where
  obj : h.get? x = some (PySem.W.instObj C dx)
  ns : h.Ns1 dx mA
  ne : dx ≠ x
theorem lookIn_ns {h : Heap} {dx : Addr} {mA : Str → Option Value} (n : h.Ns1 dx mA) : ∃ od,h.get? dx = some od ∧ ∀ name,PySem.W.lookIn name od = some (mA name) := by
  obtain ⟨o,es,ep,ho,hd,hk,_,hm⟩ := n
  refine ⟨o,ho,fun name => ?_⟩
  have e := hm name
  unfold nsFind findBy at e
  rw [← Array.find?_toList] at e
  unfold PySem.W.lookIn
  rw [hd]
  dsimp only
  split
  · rename_i y q
    rw [q] at e
    exact congrArg some e
  · rename_i q
    rw [q] at e
    have a : es.toList.any (·.refKey) = false := by
      rw [List.any_eq_false]
      intro y hy
      obtain ⟨z,t,hkey⟩ := hk y (Array.mem_toList_iff.mp hy)
      simp [DictEntry.refKey,hkey]
    have a' : ¬ es.toList.any (·.refKey) = true := by rw [a]; exact Bool.false_ne_true
    rw [if_neg a']
    exact congrArg some e
theorem ObjM.look {h : Heap} {x dx C : Addr} {mA : Str → Option Value} (I : ObjM h x dx C mA) : ∃ od,PySem.W.InstAt h x (PySem.W.instObj C dx) C (some od) ∧ ∀ name,PySem.W.lookIn name od = some (mA name) :=
  let ⟨od,ho,hl⟩ := lookIn_ns I.ns
  ⟨od,⟨I.obj,rfl,rfl,ho⟩,hl⟩
section
variable {prog : Program} {w : World} {A : Around} {E : Value → Shared → Prop} {s : Shared} {K : PySem.W.Frag} {x dx C f : Addr} {mA : Str → Option Value} {name : Str} {v : Value}
theorem get_map {expr : Bool} {Q : Value → Shared → Prop} (X : K.In s.heap) (I : ObjM s.heap x dx C mA) (hg : PySem.W.plainGet K C name = true) (hh : PySem.W.hasDictIn K C = true)
    (ha : PySem.W.findIn K (.ref C) name = some none) (hv : mA name = some v) (hv' : PySem.W.handedIn v = true) (h : Q v { s with toks := s.toks + 1 }) :
    wpAny (model prog w) A (getAttr (.ref x) name expr) Q E s := by
  obtain ⟨od,J,hl⟩ := I.look
  exact PySem.W.get_value X J (PySem.W.plainGet_of hg).1 (PySem.W.findObj_own hh ha rfl (by rw [hl,hv])) hv' h
theorem set_map {ns : List Str} {Q : Unit → Shared → Prop} (X : K.In s.heap) (I : ObjM s.heap x dx C mA)
    (hs : PySem.W.findIn K (.ref C) "__setattr__" = some (some (.builtin "object.__setattr__"))) (hp : PySem.W.plainOver K C = true) (ht : PySem.W.takerIn K C name = some none) (hh : PySem.W.hasDictIn K C = true)
    (hw : PySem.Within mA ns) (hsz : ns.length ≤ sizeLine)
    (h : ∀ h',ObjM h' x dx C (fun y => if y = name then some v else mA y) → Heap.SameBut dx s.heap h' → Q () { s with heap := h',toks := s.toks + 2 }) :
    wpAny (model prog w) A (setAttr (.ref x) name v) Q E s := by
  obtain ⟨od,J,hl⟩ := I.look
  refine PySem.W.set_plain X J hs (PySem.W.osa_open (s := { s with toks := s.toks + 1 }) (r := none) X J hp ht fun b => ?_)
  obtain ⟨cd,hc,hd'⟩ := PySem.W.any_some hh
  have hx : s.heap.get? x = some ⟨.ref C,some dx,.plain,#[]⟩ := I.obj
  refine wpAny_bind (wpAny_pure (wpAny_bind (wpAny_bind (wpAny_loadPart hx (wpAny_bind (PySem.W.Looks.here (s := { s with toks := s.toks + 1 }) (PySem.W.looks_clsIn X hc) ?_))))))
  rw [hd']
  refine wpAny_pure (a := some dx) (wpAny_bind (wpAny_pure (wpAny_bind ?_)))
  refine wpAny_nsSet1 (s := { s with toks := s.toks + 1 }) I.ns fun h' hn2 hs2 => ?_
  obtain ⟨oD,esD,epD,hoD,hdD,hcD⟩ := hn2.count (PySem.Within.cons name v hw)
  refine wpAny_bind (wpAny_lookBehind hoD (by rw [hdD]; exact pastItsLine_dict (Nat.le_trans hcD (by rw [List.length_cons]; omega))) ?_)
  exact wpAny_pure (h _ ⟨(hs2.2 _ (Ne.symm I.ne)).trans I.obj,hn2,I.ne⟩ hs2)
theorem make_map {R : Result → Shared → Prop} {vs : List Value} {kw : List (Str × Value)} (X : K.In s.heap) (hm : PySem.W.makesIn K C = true)
    (hi : PySem.W.findIn K (.ref C) "__init__" = some (some (.ref f))) (hf : PySem.W.typeIn K (.ref f) = some (.type "function"))
    (h : codeAny (model prog w) (A.under (.builtin "type.__call__" ⟨.ref C :: vs,kw⟩)) (.call (.ref f) ⟨.ref (s.heap.objs.size + 1) :: vs,kw⟩) (PySem.W.InitBack (s.heap.objs.size + 1) R)
      { s with heap := (s.heap.push PySem.W.emptyDict).push (PySem.W.instObj C s.heap.objs.size) }) :
    codeAny (model prog w) A (.call (.ref C) ⟨vs,kw⟩) R s := by
  obtain ⟨hh,g,d,t,os⟩ := s
  exact PySem.W.make_core (PySem.W.makes_of X hm) (PySem.W.looks_findIn X hi) (fun self => PySem.W.bind_fn X self hf) (.inl rfl) h
end
def putF (f : Str) (v : V) : List (Str × V) → List (Str × V)
  | [] => [(f,v)]
  | (g,x) :: r => if g = f then (g,v) :: r else (g,x) :: putF f v r
theorem lookup_putF (f g : Str) (v : V) : ∀ fs : List (Str × V),(putF f v fs).lookup g = if g = f then some v else fs.lookup g
  | [] => by
    show List.lookup g [(f,v)] = _
    by_cases h : g = f
    · have hb : (g == f) = true := beq_iff_eq.mpr h
      simp only [List.lookup,hb,if_pos h]
    · have hb : (g == f) = false := beq_eq_false_iff_ne.mpr h
      simp only [List.lookup,hb,if_neg h]
  | (k,x) :: r => by
    have ih := lookup_putF f g v r
    rw [show putF f v ((k,x) :: r) = (if k = f then (k,v) :: r else (k,x) :: putF f v r) from rfl]
    by_cases hk : k = f
    · rw [if_pos hk]
      by_cases h : g = k
      · have hb : (g == k) = true := beq_iff_eq.mpr h
        simp only [List.lookup,hb,if_pos (h.trans hk)]
      · have hb : (g == k) = false := beq_eq_false_iff_ne.mpr h
        simp only [List.lookup,hb,if_neg (fun e : g = f => h (e.trans hk.symm))]
    · rw [if_neg hk]
      by_cases h : g = k
      · have hb : (g == k) = true := beq_iff_eq.mpr h
        simp only [List.lookup,hb,if_neg (fun e : g = f => hk (h.symm.trans e))]
      · have hb : (g == k) = false := beq_eq_false_iff_ne.mpr h
        simp only [List.lookup,hb]
        exact ih
theorem keys_putF (f : Str) (v : V) : ∀ fs : List (Str × V),f ∈ (putF f v fs).map (·.1) ∧ ∀ g,g ∈ fs.map (·.1) → g ∈ (putF f v fs).map (·.1)
  | [] => ⟨by simp [putF],fun g h => by simp at h⟩
  | (k,x) :: r => by
    obtain ⟨i1,i2⟩ := keys_putF f v r
    rw [show putF f v ((k,x) :: r) = (if k = f then (k,v) :: r else (k,x) :: putF f v r) from rfl]
    by_cases hk : k = f
    · rw [if_pos hk]
      subst hk
      exact ⟨by simp,fun g h => by simpa using h⟩
    · rw [if_neg hk]
      refine ⟨?_,fun g h => ?_⟩
      · rw [List.map_cons]
        exact List.mem_cons_of_mem _ i1
      · rw [List.map_cons] at h ⊢
        rcases List.mem_cons.mp h with e | e
        · exact List.mem_cons.mpr (.inl e)
        · exact List.mem_cons_of_mem _ (i2 g e)
theorem length_putF (f : Str) (v : V) : ∀ fs : List (Str × V),(putF f v fs).length ≤ fs.length + 1
  | [] => by simp [putF]
  | (k,x) :: r => by
    have ih := length_putF f v r
    rw [show putF f v ((k,x) :: r) = (if k = f then (k,v) :: r else (k,x) :: putF f v r) from rfl]
    by_cases hk : k = f
    · rw [if_pos hk,List.length_cons,List.length_cons]; omega
    · rw [if_neg hk,List.length_cons,List.length_cons]; omega
theorem RelO.some_of {v : V} {o : Option Value} (r : RelO (some v) o) : ∃ u,o = some u ∧ RelV v u := by
  cases o with
  | none => exact (show False from r).elim
  | some u => exact ⟨u,rfl,r⟩
theorem handed_of {v : V} {u : Value} (r : RelV v u) : PySem.W.handedIn u = true := by
  cases v with
  | non => cases (show u = Value.none from r); rfl
  | bl b => cases (show u = Value.bool b from r); rfl
  | int i => obtain ⟨t,e⟩ := (show ∃ t,u = Value.int i t from r); cases e; rfl
  | str x => obtain ⟨t,e⟩ := (show ∃ t,u = Value.str x t from r); cases e; rfl
  | byt b => obtain ⟨t,e⟩ := (show ∃ t,u = Value.bytes b t from r); cases e; rfl
  | flt b => obtain ⟨t,e⟩ := (show ∃ t,u = Value.float b t from r); cases e; rfl
  | ref a => cases (show u = Value.ref a from r); rfl
  | ty n => cases (show u = Value.type n from r); rfl
section
variable {P : Program} {w : World} {H H' : Hp} {h h' : Heap} {a C dx : Addr} {fs fs' : List (Str × V)}
theorem ins_get (hok : HOk P w H h) (e : H a = some (.ins C dx fs)) : ∃ mA,ObjM h a dx C mA ∧ (∀ f,RelO (fs.lookup f) (mA f)) ∧ PySem.Within mA (fs.map (·.1)) ∧ fs.length ≤ 1000 ∧ H dx = some (.own a) := by
  obtain ⟨d,z,ne,ob,mA,n,r,q⟩ := (show ObjOk P w H h a (.ins C dx fs) from hok a _ e)
  exact ⟨mA,⟨ob,n,ne⟩,r,q,z,d⟩
end
structure Cls (K : PySem.W.Frag) (C : Addr) : Prop where
  pg : PySem.W.plainGet K C Str.empty = true
  hd : PySem.W.hasDictIn K C = true
  po : PySem.W.plainOver K C = true
  sa : PySem.W.findIn K (.ref C) "__setattr__" = some (some (.builtin "object.__setattr__"))
theorem Cls.get {K : PySem.W.Frag} {C : Addr} (c : Cls K C) (f : Str) : PySem.W.plainGet K C f = true := c.pg
def NoAttr (K : PySem.W.Frag) (C : Addr) (f : Str) : Prop := PySem.W.findIn K (.ref C) f = some none
theorem NoAttr.taker {K : PySem.W.Frag} {C : Addr} {f : Str} (n : NoAttr K C f) : PySem.W.takerIn K C f = some none := by
  unfold PySem.W.takerIn
  rw [show PySem.W.findIn K (.ref C) f = some none from n]
  rfl
section
variable {X : Cx} {pins : List (Addr × Obj)} {σ : St} {H : Hp} {s : Shared} {a C dx : Addr} {fs : List (Str × V)} {f : Str} {v : V} {A : Around} {E : Value → Shared → Prop}
theorem getattr_ok {b : Bool} {Q : Value → Shared → Prop} (I : Inv X pins σ H s) (e : H a = some (.ins C dx fs)) (c : Cls X.K C) (n : NoAttr X.K C f) (l : fs.lookup f = some v)
    (h : ∀ u s',Inv X pins σ H s' → RelV v u → Q u s') : wpAny (model X.prog X.w) A (getAttr (.ref a) f b) Q E s := by
  obtain ⟨mA,O,r,_,_,_⟩ := ins_get I.hok e
  obtain ⟨u,hu,ru⟩ := RelO.some_of (v := v) (o := mA f) (by rw [← l]; exact r f)
  exact get_map I.kIn O (c.get f) c.hd n hu (handed_of ru) (h u _ (I.tok _) ru)
theorem setattr_ok {y : V} {u : Value} {Q : Unit → Shared → Prop} (I : Inv X pins σ H s) (e : H a = some (.ins C dx fs)) (c : Cls X.K C) (n : NoAttr X.K C f) (hl : fs.length < 1000) (ry : RelV y u)
    (h : ∀ s',Inv X pins σ (upd H a (.ins C dx (putF f y fs))) s' → Q () s') : wpAny (model X.prog X.w) A (setAttr (.ref a) f u) Q E s := by
  obtain ⟨mA,O,r,wi,_,ho⟩ := ins_get I.hok e
  have hz : (fs.map (·.1)).length ≤ sizeLine := by rw [List.length_map,sizeLine_eq]; omega
  refine set_map I.kIn O c.sa c.po n.taker c.hd wi hz fun h' O' sb => h _ ?_
  have hd : ∃ o,h'.get? dx = some o := let ⟨o,_,_,e',_⟩ := O'.ns; ⟨o,e'⟩
  refine I.write (x := a) (e := dx) (by rw [e]; exact True.intro) (.inr ho) (fun b q hb z => (sb.2 b hb).trans z) hd ?_
  refine ⟨by rw [upd_ne O.ne]; exact ho, ?_,O.ne,O'.obj,_,O'.ns,fun g => ?_,fun g hg => ?_⟩
  · have := length_putF f y fs; omega
  · show RelO ((putF f y fs).lookup g) (if g = f then some u else mA g)
    rw [lookup_putF]
    by_cases q : g = f
    · rw [if_pos q,if_pos q]; exact ry
    · rw [if_neg q,if_neg q]; exact r g
  · by_cases q : g = f
    · rw [q]; exact (keys_putF f y fs).1
    · refine (keys_putF f y fs).2 g (wi g fun z => hg ?_)
      show (if g = f then some u else mA g) = none
      rw [if_neg q]; exact z
theorem Inv.made (I : Inv X pins σ H s) : Inv X pins σ (upd (upd H s.heap.objs.size (.own (s.heap.objs.size + 1))) (s.heap.objs.size + 1) (.ins C s.heap.objs.size []))
    { s with heap := (s.heap.push PySem.W.emptyDict).push (PySem.W.instObj C s.heap.objs.size) } := by
  have e1 : (s.heap.push PySem.W.emptyDict).get? s.heap.objs.size = some PySem.W.emptyDict := Heap.get?_push_size s.heap rfl
  have e2 : ((s.heap.push PySem.W.emptyDict).push (PySem.W.instObj C s.heap.objs.size)).get? (s.heap.objs.size + 1) = some (PySem.W.instObj C s.heap.objs.size) := by
    have := Heap.get?_push_size (s.heap.push PySem.W.emptyDict) (o := PySem.W.instObj C s.heap.objs.size) rfl
    rwa [Heap.size_push] at this
  have e3 : (s.heap.push PySem.W.emptyDict).Ns s.heap.objs.size (fun _ => none) := ⟨PySem.W.emptyDict,#[],_,e1,rfl,(fun e he => absurd he (by simp)),fun _ => rfl⟩
  have I1 := I.laid (a := s.heap.objs.size) (o := .own (s.heap.objs.size + 1)) (h' := s.heap.push PySem.W.emptyDict) (t' := s.toks) (fun b u q => Heap.get?_push_of_some _ q) (Nat.le_refl _) ⟨_,e1⟩
  refine I1.laid (a := s.heap.objs.size + 1) (o := .ins C s.heap.objs.size []) (t' := s.toks) (fun b u q => Heap.get?_push_of_some _ q) (Nat.le_of_eq (Heap.size_push _ _)) ?_
  have ne : s.heap.objs.size ≠ s.heap.objs.size + 1 := Nat.ne_of_lt (Nat.lt_succ_self _)
  refine ⟨by rw [upd_ne ne,upd_same],Nat.zero_le _,ne,e2,fun _ => none,(Heap.Ns1.of_empty e3).at fun o q => Heap.get?_push_of_some _ q,fun _ => True.intro,fun y hy => absurd rfl hy⟩
theorem attr_of {prog : Program} {w : World} {env : Env} {e : Expr} {f : Str} {pos : Pos} {s : Shared} {Q : Value → Shared → Prop} (hb : attributeBase e f env (eval e env) = eval e env)
    (h : wpAny (model prog w) A (eval e env) (fun o s₁ => wpAny (model prog w) A (getAttr o f true) Q E s₁) E s) : wpAny (model prog w) A (eval (.Attribute e f pos) env) Q E s :=
  Attribute_any_ h (by rw [arm_eval_Attribute,hb])
end
def tFld (K : PySem.W.Frag) (ta : TE) (f : Str) : TE := fun σ H Q => ta σ H fun x H1 => ∃ a C dx fs v,x = .ref a ∧ H1 a = some (.ins C dx fs) ∧ Cls K C ∧ NoAttr K C f ∧ fs.lookup f = some v ∧ Q v H1
def sFld (K : PySem.W.Frag) (ta tv : TE) (f : Str) : TS := fun D σ H => tv σ H fun y H1 => ta σ H1 fun x H2 => ∃ a C dx fs,x = .ref a ∧ H2 a = some (.ins C dx fs) ∧ Cls K C ∧ NoAttr K C f ∧ fs.length < 1000 ∧
  D.nx σ (upd H2 a (.ins C dx (putF f y fs)))
def InOp (X : Cx) (op : Operator) (rd : V → V → Hp → VK → Prop) : Prop :=
  ∀ (pins : List (Addr × Obj)) (s : Shared) (σ : St) (H : Hp) (x y : V) (u v : Value) (Q : VK),Inv X pins σ H s → RelV x u → RelV y v → rd x y H Q → wpAny (model X.prog X.w) X.A (inplaceOp op u v) (EP X pins σ Q) X.xe s
section
variable {X : Cx} {o e value : Expr} {f : Str} {pos pos' tpos : Pos} {ta tv : TE}
theorem pe_fld (he : PE X e ta) (hb : attributeBase e f X.env (eval e X.env) = eval e X.env) : PE X (.Attribute e f pos) (tFld X.K ta f) := by
  intro pins s σ H Q I h
  refine attr_of hb (thn (he pins s σ H _ I h) fun u s1 ⟨x,H1,I1,rx,a,C,dx,fs,v,ex,ea,c,n,l,q⟩ => ?_)
  subst ex
  obtain rfl : u = Value.ref a := rx
  exact getattr_ok I1 ea c n l fun u' s2 I2 ru => ⟨v,H1,I2,ru,q⟩
theorem ps_fld (ha : PE X o ta) (hv : PE X value tv) (hs : swapsWith value (some (.Attribute o f pos')) pos.line X.env = pure false) : PS X (.Assign [.Attribute o f pos'] value pos) (sFld X.K ta tv f) := by
  intro pins s σ H D I h
  refine plainObj_wpAny_Assign_Attribute (thn (hv pins s σ H _ I h) fun u s1 ⟨y,H1,I1,ry,q⟩ => thn (ha pins s1 σ H1 _ I1 q) fun ov s2 ⟨x,H2,I2,rx,a,C,dx,fs,ex,ea,c,n,l,q2⟩ => ?_) hs
  subst ex
  obtain rfl : ov = Value.ref a := rx
  exact setattr_ok I2 ea c n l ry fun s3 I3 => ⟨σ,_,I3,q2⟩
end
section
variable {X : Cx} {pins : List (Addr × Obj)} {σ : St} {H : Hp} {s : Shared} {A : Around} {E : Value → Shared → Prop} {Q : Value → Shared → Prop} {c : Value} {b : Bool}
inductive TyOf (K : PySem.W.Frag) (H : Hp) : V → Value → Prop where
  | non : TyOf K H .non (.type "NoneType")
  | bl (x : Bool) : TyOf K H (.bl x) (.type "bool")
  | int (i : Int) : TyOf K H (.int i) (.type "int")
  | str (x : Str) : TyOf K H (.str x) (.type "str")
  | flt (x : UInt64) : TyOf K H (.flt x) (.type "float")
  | lst {a : Addr} {xs : List V} (e : H a = some (.lst xs)) : TyOf K H (.ref a) (.type "list")
  | frz {a : Addr} {o : Obj} {xs : List V} (e : H a = some (.frz o (.lst xs))) : TyOf K H (.ref a) (.type "list")
  | tup {a : Addr} {xs : List V} (e : H a = some (.tup xs)) : TyOf K H (.ref a) (.type "tuple")
  | dK {a : Addr} {kvs : List (Key × V)} (e : H a = some (.dK kvs)) : TyOf K H (.ref a) (.type "dict")
  | dT {a : Addr} {kvs : List (List Key × V)} (e : H a = some (.dT kvs)) : TyOf K H (.ref a) (.type "dict")
  | ins {a C dx : Addr} {fs : List (Str × V)} (e : H a = some (.ins C dx fs)) (cl : Cls K C) (ha : PySem.W.findIn K (.ref C) "__class__" = some (some (.builtin "object.__class__")))
      (hn : PySem.W.specialIn K (.builtin "object.__class__") "__get__" = some (some (.builtin "getset_descriptor.__get__"))) (htk : PySem.W.takesIn K (.builtin "object.__class__") = some true)
      (hm : PySem.W.mroIn K C (.type "object") = some true) : TyOf K H (.ref a) (.ref C)
theorem isinst_ok {x : V} {u t : Value} (I : Inv X pins σ H s) (rx : RelV x u) (ty : TyOf X.K H x t) (e : PySem.W.kitOne X.K t c = some b) (h : ∀ tk,Q (.bool b) { s with toks := tk }) :
    wpAny (model X.prog X.w) A (call (.builtin "isinstance") [u,c]) Q E s := by
  cases ty with
  | non => cases (show u = Value.none from rx); exact PySem.W.kia_one PySem.W.kitx_none I.kIn True.intro e (fun z => nomatch z) h
  | bl y => cases (show u = Value.bool y from rx); exact PySem.W.kia_one PySem.W.kitx_bool I.kIn True.intro e (fun z => nomatch z) h
  | int i => obtain ⟨t,q⟩ := (show ∃ t,u = Value.int i t from rx); cases q; exact PySem.W.kia_one PySem.W.kitx_int I.kIn True.intro e (fun z => nomatch z) h
  | str y => obtain ⟨t,q⟩ := (show ∃ t,u = Value.str y t from rx); cases q; exact PySem.W.kia_one PySem.W.kitx_str I.kIn True.intro e (fun z => nomatch z) h
  | flt y => obtain ⟨t,q⟩ := (show ∃ t,u = Value.float y t from rx); cases q; exact PySem.W.kia_one PySem.W.kitx_float I.kIn True.intro e (fun z => nomatch z) h
  | @lst a xs ea =>
    cases (show u = Value.ref a from rx)
    obtain ⟨_,_,n,_,h1⟩ := (show ObjOk X.prog X.w H s.heap a (.lst xs) from I.hok a _ ea)
    exact PySem.W.kia_one PySem.W.kitx_list I.kIn ⟨_,h1,rfl⟩ e (fun z => nomatch z) h
  | @frz a ob xs ea =>
    cases (show u = Value.ref a from rx)
    obtain ⟨_,_,_,n,_,h1⟩ := (show ObjOk X.prog X.w H s.heap a (.frz ob (.lst xs)) from I.hok a _ ea)
    exact PySem.W.kia_one PySem.W.kitx_list I.kIn ⟨_,h1,rfl⟩ e (fun z => nomatch z) h
  | @tup a xs ea =>
    cases (show u = Value.ref a from rx)
    obtain ⟨_,_,_,p⟩ := (show ObjOk X.prog X.w H s.heap a (.tup xs) from I.hok a _ ea)
    obtain ⟨o,h1,h2,_⟩ := p
    exact PySem.W.kia_one PySem.W.kitx_tuple I.kIn ⟨o,h1,h2⟩ e (fun z => nomatch z) h
  | @dK a kvs ea =>
    cases (show u = Value.ref a from rx)
    obtain ⟨_,_,vs,_,p⟩ := (show ObjOk X.prog X.w H s.heap a (.dK kvs) from I.hok a _ ea)
    obtain ⟨o,es,ep,h1,h2,_⟩ := p
    exact PySem.W.kia_one PySem.W.kitx_dict I.kIn ⟨o,h1,h2.1⟩ e (fun z => nomatch z) h
  | @dT a kvs ea =>
    cases (show u = Value.ref a from rx)
    obtain ⟨_,_,xs,_,o,es,ep,h1,h2,_⟩ := (show ObjOk X.prog X.w H s.heap a (.dT kvs) from I.hok a _ ea)
    exact PySem.W.kia_one PySem.W.kitx_dict I.kIn ⟨o,h1,h2.1⟩ e (fun z => nomatch z) h
  | @ins a C dx fs ea cl ha hn htk hm =>
    cases (show u = Value.ref a from rx)
    obtain ⟨mA,O,_⟩ := ins_get I.hok ea
    obtain ⟨od,J,_⟩ := O.look
    exact PySem.W.kia_one (PySem.W.kitx_own (cl.get _) cl.hd ha hn htk hm) I.kIn J e (fun z => nomatch z) h
end
end L2
namespace L2
open PySem PySem.Spec PyProof.Rows
structure Room (k : Nat) (A : Around) : Prop where
  hd : A.handled = none
  dp : A.depth + 3 * k + 5 < recursionLimit
  un : A.units + 16 * k + 200 < cLine
theorem Room.mono {j k : Nat} {A : Around} (r : Room k A) (h : j ≤ k) : Room j A := ⟨r.hd,by have := r.dp; omega,by have := r.un; omega⟩
theorem Room.deeper {k : Nat} {A : Around} (r : Room (k + 1) A) (env : Env) : Room k (A.deeper env) :=
  ⟨r.hd,by have := r.dp; show A.depth + 1 + 3 * k + 5 < _; omega,by have := r.un; show A.units + 3 + 16 * k + 200 < _; omega⟩
theorem make_depth {A : Around} {C : Addr} {us : List Value} {kw : List (Str × Value)} : (A.under (.builtin "type.__call__" ⟨.ref C :: us,kw⟩)).depth = A.depth + 1 := by
  first | rfl | simp [Around.under,Code.weight,Code.isCreation,Code.isGuard,Code.isCaller,Code.frames,Code.isFrame,guardIds]
theorem make_units {A : Around} {C : Addr} {us : List Value} {kw : List (Str × Value)} : (A.under (.builtin "type.__call__" ⟨.ref C :: us,kw⟩)).units = A.units + 1 := by
  first | rfl | simp [Around.under,Code.cUnits,Code.frames,Code.isFrame]
theorem Room.make {k : Nat} {A : Around} (r : Room (k + 1) A) (C : Addr) (us : List Value) (kw : List (Str × Value)) : Room k (A.under (.builtin "type.__call__" ⟨.ref C :: us,kw⟩)) :=
  ⟨r.hd,by have := r.dp; rw [make_depth]; omega,by have := r.un; rw [make_units]; omega⟩
theorem Room.depth {k : Nat} {A : Around} (r : Room k A) : A.depth < recursionLimit := by have := r.dp; omega
theorem Room.units0 {k : Nat} {A : Around} (r : Room k A) : A.units < cLine := by have := r.un; omega
def tNil : TA := fun _ H Q => Q [] H
def tCons (ta : TE) (tr : TA) : TA := fun σ H Q => ta σ H fun x H1 => tr σ H1 fun xs H2 => Q (x :: xs) H2
section
variable {X : Cx} {e : Expr} {es : List Expr} {te : TE} {t : TA} {pos : Pos}
theorem pa_nil : PA X [] tNil := fun _ _ _ _ H Q I h => Calls.spliced_nil ⟨[],H,I,.nil,h⟩
theorem pa_cons (ha : PE X e te) (hr : PA X es t) (hs : starEach (e :: es) X.env = (false,eval e X.env) :: starEach es X.env := by rfl) : PA X (e :: es) (tCons te t) := by
  intro pos pins s σ H Q I h
  rw [hs]
  show wpAny _ _ (spliced ((false,eval e X.env) :: backTo pos (starEach es X.env))) _ _ s
  refine Calls.spliced_cons (thn (ha pins s σ H _ I h) fun u s1 ⟨x,H1,I1,r1,q1⟩ => ?_)
  exact thn (hr pos pins s1 σ H1 _ I1 q1) fun us s2 ⟨xs,H2,I2,r2,q2⟩ => ⟨x :: xs,H2,I2,.cons r1 r2,q2⟩
def tTup (t : TA) : TE := fun σ H Q => t σ H fun xs H1 => xs.length ≤ sizeLine ∧ ∀ p,H1 p = none → Q (.ref p) (upd H1 p (.tup xs))
def tLst (t : TA) : TE := fun σ H Q => t σ H fun xs H1 => xs.length ≤ sizeLine ∧ ∀ p,H1 p = none → Q (.ref p) (upd H1 p (.lst xs))
theorem pe_tup {x1} (h : PA X es t) : PE X (.Tuple es x1 pos) (tTup t) := by
  intro pins s σ H Q I hq
  refine wpAny_Tuple_spliced (thn (h pos pins s σ H _ I hq) fun us s1 ⟨xs,H1,I1,r,z,q⟩ => ⟨by rw [← r.length]; exact z, ?_⟩)
  have hf : H1 s1.heap.objs.size = none := I1.hok.fresh (Nat.le_refl _)
  refine ⟨.ref s1.heap.objs.size,upd H1 s1.heap.objs.size (.tup xs),I1.laid (t' := s1.toks) (fun b u e => Heap.get?_push_of_some _ e) (Nat.le_refl _) ?_,rfl,q _ hf⟩
  exact ⟨z,us,r,⟨_,Heap.get?_push_size _ rfl,rfl,_,rfl⟩⟩
theorem pe_lst (h : PA X es t) : PE X (.List es pos) (tLst t) := by
  intro pins s σ H Q I hq
  refine wpAny_List_spliced (thn (h pos pins s σ H _ I hq) fun us s1 ⟨xs,H1,I1,r,z,q⟩ => ⟨by rw [← r.length]; exact z, ?_⟩)
  have hf : H1 s1.heap.objs.size = none := I1.hok.fresh (Nat.le_refl _)
  refine ⟨.ref s1.heap.objs.size,upd H1 s1.heap.objs.size (.lst xs),I1.laid (t' := s1.toks) (fun b u e => Heap.get?_push_of_some _ e) (Nat.le_refl _) ?_,rfl,q _ hf⟩
  exact ⟨z,us,0,r,Heap.get?_push_size _ rfl⟩
end
abbrev Sp := List V → Hp → VK → XK → Prop
abbrev CXT := List Env → Hp → Shared → XK → Value → Shared → Prop
structure Env0 (P : Program) (w : World) (K : PySem.W.Frag) (mg : Str → Option Value) (base : Heap) (A : Around) (outer : List Env) (s : Shared) (H : Hp) : Prop where
  frames : A.frames = some outer
  mod : Mod K mg base
  bs : ∀ b o,base.get? b = some o → s.heap.get? b = some o ∧ H b = none
  bsz : base.objs.size ≤ s.heap.objs.size
  funs : s.heap.FunFrames base outer
  frf : ∀ b ∈ frs outer,H b = none
  hok : HOk P w H s.heap
  bare : AllBare s.gens
def CE (outer : List Env) (P : Program) (w : World) (H : Hp) (s : Shared) (Q : VK) (u : Value) (s' : Shared) : Prop :=
  ∃ v H',s'.os = s.os ∧ AllBare s'.gens ∧ Un (frs outer) [] H H' s.heap s'.heap ∧ HOk P w H' s'.heap ∧ RelV v u ∧ Q v H'
def CR (CX : CXT) (outer : List Env) (P : Program) (w : World) (H : Hp) (s : Shared) (Q : VK) (E : XK) (r : Result) (s' : Shared) : Prop :=
  match r with
  | .ok (.ret u) => CE outer P w H s Q u s'
  | .ok _ => False
  | .error e => CX outer H s E e s'
structure FnOk (P : Program) (w : World) (K : PySem.W.Frag) (mg : Str → Option Value) (base : Heap) (CX : CXT) (k : Nat) (f : Addr) (fd : FuncData) (ps : List Str) (sp : Sp) : Prop where
  len : ∀ vs H Q E,sp vs H Q E → vs.length = ps.length
  run : ∀ (A : Around) (outer : List Env) (s : Shared) (H : Hp) (args : Args) (us : List Value) (vs : List V) (Q : VK) (E : XK),Room k A → Env0 P w K mg base A outer s H → BindsTo s fd args (ps.zip us) → Vals vs us → sp vs H Q E →
    codeAny (model P w) A (.call (.ref f) args) (CR CX outer P w H s Q E) s
theorem Env0.make {P : Program} {w : World} {K : PySem.W.Frag} {mg : Str → Option Value} {base : Heap} {A : Around} {outer : List Env} {s : Shared} {H : Hp} (e : Env0 P w K mg base A outer s H) (C : Addr) (us : List Value) (kw : List (Str × Value)) :
    Env0 P w K mg base (A.under (.builtin "type.__call__" ⟨.ref C :: us,kw⟩)) outer s H := ⟨by first | exact e.frames | (simpa [Around.under,Code.envs,Code.isFrame,pushEnvs] using e.frames),e.mod,e.bs,e.bsz,e.funs,e.frf,e.hok,e.bare⟩
section
variable {X : Cx} {pins : List (Addr × Obj)} {σ : St} {H : Hp} {s s' : Shared}
theorem Inv.env0 (I : Inv X pins σ H s) : Env0 X.prog X.w X.K X.mg X.base X.A X.stack s H :=
  ⟨I.ok.frames,I.ok.mod,I.bs,Nat.le_trans I.ok.bsz I.sz,I.stack,I.stkFree,I.hok,I.bare⟩
theorem Inv.after {Q : VK} {u : Value} (I : Inv X pins σ H s) (h : CE X.stack X.prog X.w H s Q u s') : EP X pins σ Q u s' := by
  obtain ⟨v,H',os,bare,un,hok,r,q⟩ := h
  obtain ⟨hh,g,d,t,os'⟩ := s'
  obtain rfl : os' = s.os := os
  exact ⟨v,H',I.call (h' := hh) (g' := g) (d' := d) (t' := t) (ch := []) un hok bare (fun b z => absurd z (by simp)),r,q⟩
end
def tCall (sp : Sp) (dvs : List V) (E : XK) (t : TA) : TE := fun σ H Q => t σ H fun vs H1 => sp (vs ++ dvs) H1 Q E
def Binds (K : PySem.W.Frag) (fd : FuncData) (ps : List Str) (ds : List Value) : Prop :=
  ∀ (s : Shared) (us : List Value),K.In s.heap → (us ++ ds).length = ps.length → BindsTo s fd ⟨us,[]⟩ (ps.zip (us ++ ds))
theorem Binds.all {K : PySem.W.Frag} {fd : FuncData} {ps : List Str} (h : ∀ us : List Value,us.length = ps.length → bindArgs fd ⟨us,[]⟩ = pure (ps.zip us)) : Binds K fd ps [] := fun s us _ hl => by
  rw [List.append_nil] at hl ⊢
  exact .of_eq (h us hl)
def Passes (CX : CXT) (X : Cx) (E : XK) : Prop := ∀ (pins : List (Addr × Obj)) (σ : St) (H : Hp) (s : Shared) (e : Value) (s' : Shared),Inv X pins σ H s → CX X.stack H s E e s' → X.xe e s'
section
variable {X : Cx} {CX : CXT} {k : Nat} {f C : Addr} {fd : FuncData} {ps : List Str} {sp : Sp} {dvs : List V} {ds : List Value} {E : XK} {x m : Str} {p pos apos : Pos} {e o : Expr} {es : List Expr} {ta : TE} {t : TA}
theorem run_fn {pins : List (Addr × Obj)} {σ : St} {H : Hp} {s : Shared} {Q : VK} {us : List Value} {vs : List V} (F : FnOk X.prog X.w X.K X.mg X.base CX k f fd ps sp) (hr : Room k X.A) (hb : Binds X.K fd ps ds) (hd : Vals dvs ds) (hx : Passes CX X E)
    (I : Inv X pins σ H s) (r : Vals vs us) (h : sp (vs ++ dvs) H Q E) : wpAny (model X.prog X.w) X.A (call (.ref f) us) (EP X pins σ Q) X.xe s := by
  have r2 : Vals (vs ++ dvs) (us ++ ds) := r.append hd
  have hl : (us ++ ds).length = ps.length := by rw [← r2.length]; exact F.len _ _ _ _ h
  refine wpAny_call (codeAny_mono (F.run X.A X.stack s H ⟨us,[]⟩ (us ++ ds) (vs ++ dvs) Q E hr I.env0 (hb s us I.kIn hl) r2 h) fun r s' hq => ?_)
  cases r with
  | error e => exact hx pins σ H s e s' I hq
  | ok fl =>
    cases fl with
    | ret u => exact I.after hq
    | next => exact False.elim hq
    | brk => exact False.elim hq
    | cont => exact False.elim hq
theorem pe_call (F : FnOk X.prog X.w X.K X.mg X.base CX k f fd ps sp) (hr : Room k X.A) (hg : Gl X x) (hm : X.mg x = some (.ref f)) (hk : PySem.W.keepIn X.K (.ref f) = true) (hb : Binds X.K fd ps ds) (hd : Vals dvs ds) (hx : Passes CX X E)
    (ha : PA X (e :: es) t) (hdb : (x == ("__debug__" : Str)) = false := by decide) (he : starEach (e :: es) X.env = (false,eval e X.env) :: starEach es X.env := by rfl) (hpl : (backTo pos (starEach es X.env)).any (·.1) = false := by rfl) :
    PE X (.Call (.Name x p) (e :: es) [] pos) (tCall sp dvs E t) := by
  intro pins s σ H Q I h
  refine wpAny_Call_Name_kw (ld_glob I hg hm ?_ hdb)
  refine PySem.W.callWith_K (h₀ := X.base) I.ok.mod.kin hk (thn (ha pos pins s σ H _ I h) fun us s1 ⟨vs,H1,I1,r,q⟩ => ⟨I1.kIn, ?_⟩) he hpl
  exact run_fn F hr hb hd hx I1 r q
structure Mk (K : PySem.W.Frag) (C f : Addr) : Prop where
  makes : PySem.W.makesIn K C = true
  init : PySem.W.findIn K (.ref C) "__init__" = some (some (.ref f))
  fn : PySem.W.isFn K (.ref f) = true
  kp : PySem.W.keepIn K (.ref C) = true
end
def PK (X : Cx) (kws : List Keyword) (t : TA) : Prop :=
  ∀ (pos : Pos) (pins : List (Addr × Obj)) (s : Shared) (σ : St) (H : Hp) (Q : List V → Hp → Prop),Inv X pins σ H s → t σ H Q → wpAny (model X.prog X.w) X.A (evalAll ((backToKw pos (keywordEach kws X.env)).map (·.2))) (AP X pins σ Q) X.xe s
section
variable {X : Cx} {CX : CXT} {k : Nat} {f C : Addr} {fd : FuncData} {ps ks : List Str} {sp : Sp} {E : XK} {x m : Str} {p pos apos kpos : Pos} {e o : Expr} {es : List Expr} {kws : List Keyword} {te ta : TE} {t tk : TA} {nm : Option Str}
theorem pk_nil : PK X [] tNil := fun _ _ _ _ H Q I h => wpAny_evalAll_nil ⟨[],H,I,.nil,h⟩
variable {g : List Value → List Value → List Value} {gV : List V → List V → List V}
end
structure FnScope (N P : List Str) (sc : Scope) : Prop where
  kind : sc.kind = .function
  co : sc.isCoroutine = false
  gen : sc.isGenerator = false
  nd : N.Nodup
  pre : N.take P.length = P
  par : ∀ x ∈ P,sc.names.lookup x = some .local ∨ sc.names.lookup x = some .cell
  nofree : ∀ y ∈ sc.names,y.2 ≠ .free
theorem bindL_out {kindOf : Str → Option NameKind} {x : Str} : ∀ {binds : List (Str × Value)} {m : Str → Option Value},(∀ v,(x,v) ∉ binds) → bindL kindOf binds m x = m x
  | [],_,_ => rfl
  | (n,v) :: r,m,h => by
    unfold bindL
    rw [bindL_out fun w hw => h w (List.mem_cons_of_mem _ hw)]
    split
    · have : x ≠ n := by rintro rfl; exact h v List.mem_cons_self
      simp [this]
    · rfl
theorem bindC_out {kindOf : Str → Option NameKind} {x : Str} : ∀ {binds : List (Str × Value)} {m : Str → Option Value},(∀ v,(x,v) ∉ binds) → bindC kindOf binds m x = m x
  | [],_,_ => rfl
  | (n,v) :: r,m,h => by
    unfold bindC
    rw [bindC_out fun w hw => h w (List.mem_cons_of_mem _ hw)]
    split
    · rfl
    · have : x ≠ n := by rintro rfl; exact h v List.mem_cons_self
      simp [this]
theorem bindL_get {kindOf : Str → Option NameKind} {x : Str} {v : Value} : ∀ {P : List Str} {vs : List Value} {i : Nat} {m : Str → Option Value},P.Nodup → P[i]? = some x → vs[i]? = some v → kindOf x = some .local →
    bindL kindOf (P.zip vs) m x = some v
  | [],_,_,_,_,h,_,_ => by simp at h
  | _ :: _,[],_,_,_,_,h,_ => by simp at h
  | p :: P,w :: vs,0,m,nd,h1,h2,hk => by
    simp at h1 h2; subst h1; subst h2
    show bindL kindOf ((p,w) :: P.zip vs) m p = _
    unfold bindL
    rw [bindL_out fun v hv => (List.nodup_cons.mp nd).1 (List.of_mem_zip hv).1,if_pos hk]
    simp
  | p :: P,w :: vs,i + 1,m,nd,h1,h2,hk => by
    show bindL kindOf ((p,w) :: P.zip vs) m x = _
    unfold bindL
    exact bindL_get (i := i) (List.nodup_cons.mp nd).2 (by simpa using h1) (by simpa using h2) hk
theorem bindC_get {kindOf : Str → Option NameKind} {x : Str} {v : Value} : ∀ {P : List Str} {vs : List Value} {i : Nat} {m : Str → Option Value},P.Nodup → P[i]? = some x → vs[i]? = some v → kindOf x ≠ some .local →
    bindC kindOf (P.zip vs) m x = some v
  | [],_,_,_,_,h,_,_ => by simp at h
  | _ :: _,[],_,_,_,_,h,_ => by simp at h
  | p :: P,w :: vs,0,m,nd,h1,h2,hk => by
    simp at h1 h2; subst h1; subst h2
    show bindC kindOf ((p,w) :: P.zip vs) m p = _
    unfold bindC
    rw [bindC_out fun v hv => (List.nodup_cons.mp nd).1 (List.of_mem_zip hv).1,if_neg hk]
    simp
  | p :: P,w :: vs,i + 1,m,nd,h1,h2,hk => by
    show bindC kindOf ((p,w) :: P.zip vs) m x = _
    unfold bindC
    exact bindC_get (i := i) (List.nodup_cons.mp nd).2 (by simpa using h1) (by simpa using h2) hk
def start (N : List Str) (vs : List V) : St := vs.map some ++ List.replicate (N.length - vs.length) none
def cxOf (CX : CXT) (P : Program) (w : World) (K : PySem.W.Frag) (mg : Str → Option Value) (base : Heap) (N : List Str) (qual : Str) (scope : Scope) (f : Addr) (cd : Value) (A : Around) (outer : List Env) (s : Shared) (H : Hp) (E : XK) : Cx where
  prog := P
  w := w
  K := K
  mg := mg
  base := base
  A := A.deeper (envOfC qual scope s.heap.objs.size f cd)
  N := N
  s₀ := s
  H₀ := H
  env := envOfC qual scope s.heap.objs.size f cd
  outer := outer
  stack := envOfC qual scope s.heap.objs.size f cd :: outer
  ex := []
  calm := true
  fn := fun _ => true
  pn := []
  xe := fun e s' => wpAny (model P w) (A.deeper (envOfC qual scope s.heap.objs.size f cd)) (leaving (envOfC qual scope s.heap.objs.size f cd) e) (fun _ s'' => CX outer H s E e s'') (fun e' s'' => CX outer H s E e' s'') s'
theorem cell_has {sc : Scope} {n : Nat} {x : Str} (h : sc.names.lookup x = some .cell) : ∃ c,(cellsFrom n sc.names []).lookup x = some c := by
  have q := PySem.W.cellsFrom_some sc.names n [] (.inl h)
  exact Option.isSome_iff_exists.mp q
theorem inv_start {CX : CXT} {P : Program} {w : World} {K : PySem.W.Frag} {mg : Str → Option Value} {base : Heap} {N ps : List Str} {qual : Str} {scope : Scope} {f : Addr} {cd : Value} {A : Around} {outer : List Env} {s s1 : Shared} {H : Hp} {E : XK} {us : List Value} {vs : List V}
    (S : FnScope N ps scope) (hd : A.handled = none) (e0 : Env0 P w K mg base A outer s H) (hl : vs.length = ps.length) (r : Vals vs us)
    (x : InCallC s s.heap.objs.size (bindL (envOfC qual scope s.heap.objs.size f cd).kindOf (ps.zip us) fun _ => none) (cellsFrom (s.heap.objs.size + 1) scope.names []) (bindC (envOfC qual scope s.heap.objs.size f cd).kindOf (ps.zip us) fun _ => none) s1) :
    Inv (cxOf CX P w K mg base N qual scope f cd A outer s H E) [] (start N vs) H s1 := by
  have hpl : ps.length ≤ N.length := by have := congrArg List.length S.pre; rw [List.length_take] at this; omega
  obtain ⟨h1,tk,rfl,hk⟩ := x.done
  have noA : ∀ b : Addr,b ∉ (cxOf CX P w K mg base N qual scope f cd A outer s H E).ex := fun b z => absurd (show b ∈ ([] : List Addr) from z) (by simp)
  refine ⟨⟨e0.mod,S.kind,rfl,rfl,Nat.le_refl _,fun y z c h1 h2 => ?_,fun y hy => ?_,fun y c _ h => ?_,fun _ => hd,Around.frames_deeper e0.frames,.inr ⟨rfl,rfl⟩,fun b z => absurd z (noA b),e0.bs,e0.bsz,fun b _ _ => noA b,fun b z => absurd z (noA b),e0.funs,e0.frf⟩,
    rfl,e0.bare,Un.kept hk,⟨_,x.toInCall.ns,fun i y v h1 h2 h3 => ?_⟩,fun y c h => ⟨_,x.cell y c h⟩,e0.hok.fresh (Nat.le_refl _),fun y c h => ?_,fun p hp => absurd (show p ∈ ([] : List (Addr × Obj)) from hp) (by simp),e0.hok.kept hk, ?_⟩
  · exact name_of_addr x.apart (PySem.mem_of_lookup h1) (PySem.mem_of_lookup h2)
  · have hy : scope.names.lookup y = some .cell ∨ scope.names.lookup y = some .free := hy
    rcases hy with hy | hy
    · exact cell_has hy
    · exact absurd rfl (S.nofree _ (PySem.mem_of_lookup hy))
  · exact Nat.le_of_lt (x.above y c (PySem.mem_of_lookup h))
  · have hi : i < vs.length := by
      unfold start at h2
      by_cases hi : i < vs.length
      · exact hi
      · rw [List.getElem?_append_right (by simpa using hi)] at h2
        rw [List.getElem?_replicate] at h2
        split at h2 <;> cases h2
    have ha : vs[i]? = some v := by
      unfold start at h2
      rw [List.getElem?_append_left (by simpa using hi),List.getElem?_map] at h2
      cases e : vs[i]? with
      | none => rw [e] at h2; cases h2
      | some a => rw [e] at h2; cases h2; rfl
    obtain ⟨u,hu,rv⟩ := r.get ha
    have hp : ps[i]? = some y := by
      rw [← S.pre,List.getElem?_take_of_lt (by omega)]; exact h1
    have ndP : ps.Nodup := by rw [← S.pre]; exact S.nd.sublist (List.take_sublist _ _)
    refine ⟨u,rv, ?_⟩
    rcases S.par y (List.mem_of_getElem? hp) with k | k
    · exact .inl ⟨k,bindL_get ndP hp hu k⟩
    · obtain ⟨c,e⟩ := cell_has (n := s.heap.objs.size + 1) k
      refine .inr ⟨.inl k,c,e, ?_⟩
      have q := x.cell y c e
      rw [bindC_get ndP hp hu (by show scope.names.lookup y ≠ _; rw [k]; decide)] at q
      exact q
  · exact e0.hok.fresh (Nat.le_of_lt (x.above y c (PySem.mem_of_lookup h)))
  · unfold start
    show _ = N.length
    rw [List.length_append,List.length_map,List.length_replicate]
    omega
theorem fn_of {CX : CXT} {P : Program} {w : World} {K : PySem.W.Frag} {mg : Str → Option Value} {base : Heap} {k : Nat} {f : Addr} {name qual : Str} {params : Arguments} {body : List Stmt} {scope : Scope} {dV kV doc pm cdv ct oc : Value} {an od : Option Addr}
    {osl : Array (Option Value)} {N ps : List Str} {sp : Sp} (lk : K.lookup f = some ⟨oc,od,.func (PySem.W.fnOf name qual params body scope dV kV doc pm an cdv ct),osl⟩) (hcd : PySem.W.codeIn K cdv qual = true) (S : FnScope N ps scope)
    (len : ∀ vs H Q E,sp vs H Q E → vs.length = ps.length)
    (hbody : ∀ (A : Around) (outer : List Env) (s : Shared) (H : Hp) (vs : List V) (Q : VK) (E : XK),Room k (A.deeper (envOfC qual scope s.heap.objs.size f cdv)) → sp vs H Q E →
      ∃ t,PSs (cxOf CX P w K mg base N qual scope f cdv A outer s H E) body t ∧ t { nx := fun _ H' => Q .non H',rt := Q } (start N vs) H) :
    FnOk P w K mg base CX (k + 1) f (PySem.W.fnOf name qual params body scope dV kV doc pm an cdv ct) ps sp := by
  refine ⟨len,fun A outer s H args us vs Q E hr e0 hb r hsp => ?_⟩
  have hl := len _ _ _ _ hsp
  have KX : K.In s.heap := e0.mod.kin.keeps fun b o e => (e0.bs b o e).1
  have lim : s.heap.NoLimit := e0.mod.nolimit.keeps fun b o e => (e0.bs b o e).1
  have hkind : ∀ y ∈ ps.zip us,scope.names.lookup y.1 = some .local ∨ (scope.names.lookup y.1 = some .cell ∧ ((cellsFrom (s.heap.objs.size + 1) scope.names []).lookup y.1).isSome = true) := fun ⟨n,v⟩ hy => by
    rcases S.par n (List.of_mem_zip hy).1 with q | q
    · exact .inl q
    · exact .inr ⟨q,PySem.W.cellsFrom_some _ _ _ (.inl q)⟩
  refine codeAny_call_function hr.depth (KX _ _ lk) rfl S.co S.gen rfl (PySem.W.codeRec_of KX hcd) (hb _ _ _ _ ?_)
  refine wpAny_newFunctionEnv_cells S.kind hkind fun env he s1 x => ?_
  subst he
  refine ⟨lim.keeps x.toInCall.keep,codeAny_func ?_⟩
  obtain ⟨t,ht,hq⟩ := hbody A outer s H vs Q E (hr.deeper _) hsp
  have I : Inv (cxOf CX P w K mg base N qual scope f cdv A outer s H E) [] (start N vs) H s1 := inv_start S hr.hd e0 hl r x
  refine wpAny_mono (ht [] s1 (start N vs) H _ I hq) (fun fl s' hs => ?_) fun e s' hs => hs
  have fin : ∀ {σ' : St} {H' : Hp} {v : V} {u : Value},Inv (cxOf CX P w K mg base N qual scope f cdv A outer s H E) [] σ' H' s' → RelV v u → Q v H' → CE outer P w H s Q u s' :=
    fun {σ' H' v u} J rv q => ⟨v,H',J.os,J.bare,J.base,J.hok,rv,q⟩
  cases fl with
  | ret u =>
    obtain ⟨v,σ',H',J,rv,q⟩ := hs
    exact fin J rv q
  | next =>
    obtain ⟨σ',H',J,q⟩ := hs
    exact fin (v := V.non) (u := Value.none) J rfl q
  | brk =>
    obtain ⟨_,_,_,q⟩ := hs
    exact False.elim q
  | cont =>
    obtain ⟨_,_,_,q⟩ := hs
    exact False.elim q
end L2
namespace L2
open PySem PySem.Spec PyProof.Rows
section
variable {X : Cx} {x : Str} {p pos : Pos} {e : Expr} {es : List Expr} {t : TA} {id T : String} {r : List V → Hp → VK → Prop}
def tCB (r : List V → Hp → VK → Prop) (t : TA) : TE := fun σ H Q => t σ H fun vs H1 => r vs H1 Q
theorem pe_callB (hc : CallR X (.builtin id) r) (hg : Gl X x) (hm : X.mg x = none) (hv : bootBuiltins x = some (.builtin id)) (ha : PA X (e :: es) t) (hn : x ≠ "__name__" := by decide) (hdb : (x == ("__debug__" : Str)) = false := by decide)
    (he : starEach (e :: es) X.env = (false,eval e X.env) :: starEach es X.env := by rfl) (hpl : (backTo pos (starEach es X.env)).any (·.1) = false := by rfl) : PE X (.Call (.Name x p) (e :: es) [] pos) (tCB r t) := by
  intro pins s σ H Q I h
  refine wpAny_Call_Name_kw (ld_blt I hg hm hv ?_ hn hdb)
  exact PyProof.Rows.callWith_builtin1 (thn (ha pos pins s σ H _ I h) fun us s1 ⟨vs,H1,I1,r1,q1⟩ => hc pins s1 σ H1 vs us Q I1 r1 q1) he hpl
theorem pe_callTy (hc : CallR X (.type T) r) (hg : Gl X x) (hm : X.mg x = none) (hv : bootBuiltins x = some (.type T)) (ha : PA X (e :: es) t) (hn : x ≠ "__name__" := by decide) (hdb : (x == ("__debug__" : Str)) = false := by decide)
    (he : starEach (e :: es) X.env = (false,eval e X.env) :: starEach es X.env := by rfl) (hpl : (backTo pos (starEach es X.env)).any (·.1) = false := by rfl) : PE X (.Call (.Name x p) (e :: es) [] pos) (tCB r t) := by
  intro pins s σ H Q I h
  refine wpAny_Call_Name_kw (ld_blt I hg hm hv ?_ hn hdb)
  exact PyProof.Rows.callWith_type1 (thn (ha pos pins s σ H _ I h) fun us s1 ⟨vs,H1,I1,r1,q1⟩ => hc pins s1 σ H1 vs us Q I1 r1 q1) he hpl
end
end L2
namespace HT
open PySem PyProof.Rows
section
open PySem.SeqAt
open PySem.AutoSeq1 (wpAny_loadPart')
open PySem.MeetsSeq PySem.MeetsSeq2 PySem.MeetsSeq3
end
section
variable {prog : Program} {w : World} {A : Around} {E : Value → Shared → Prop} {s : Shared}
def sIx (n d : Nat) : Option Int → Nat
  | none => d
  | some v => if v < 0 then (v + (n : Int)).toNat else min v.toNat n
theorem sIx_none (n d : Nat) : sIx n d none = d := rfl
theorem sIx_nat (n d k : Nat) : sIx n d (some (k : Int)) = min k n := by
  show (if (k : Int) < 0 then ((k : Int) + (n : Int)).toNat else min (k : Int).toNat n) = min k n
  rw [if_neg (by omega),Int.toNat_natCast]
end
end HT
namespace L2
open PySem PySem.Spec PyProof.Rows
abbrev TO := St → Hp → (Option Int → Hp → Prop) → Prop
def PO (X : Cx) (e : Option Expr) (t : TO) : Prop :=
  ∀ (pins : List (Addr × Obj)) (s : Shared) (σ : St) (H : Hp) (Q : Option Int → Hp → Prop),Inv X pins σ H s → t σ H Q →
    wpAny (model X.prog X.w) X.A (evalPart e X.env) (fun u s' => ∃ o H',Inv X pins σ H' s' ∧ IsPart u o ∧ Q o H') X.xe s
def tNoPart : TO := fun _ H Q => Q none H
def tPart (t : TE) : TO := fun σ H Q => t σ H fun x H1 => ∃ i,x = .int i ∧ Q (some i) H1
section
variable {X : Cx} {e : Expr} {te : TE} {lo hi : Option Expr} {tl th : TO} {pos p2 : Pos}
theorem po_none : PO X none tNoPart := by
  intro pins s σ H Q I h
  rw [evalPart_none]
  exact wpAny_pure ⟨none,H,I,.none,h⟩
theorem po_some (h : PE X e te) : PO X (some e) (tPart te) := by
  intro pins s σ H Q I hw
  rw [evalPart_some]
  refine thn (h pins s σ H _ I hw) fun u s1 ⟨x,H1,I1,r1,q1⟩ => ?_
  obtain ⟨i,rfl,q⟩ := q1
  obtain ⟨t,rfl⟩ := r1
  exact ⟨some i,H1,I1,.int i t,q⟩
def SlR (X : Cx) (r : V → Option Int → Option Int → Hp → VK → Prop) : Prop :=
  ∀ (pins : List (Addr × Obj)) (s : Shared) (σ : St) (H : Hp) (x : V) (v vl vu : Value) (lo hi : Option Int) (sl : Addr) (Q : VK),Inv X pins σ H s → RelV x v → s.heap.IsSliceOf sl vl vu .none → IsPart vl lo → IsPart vu hi → r x lo hi H Q →
    ∃ T id,typeLookup (.type T) "__getitem__" = pure (some (.builtin id)) ∧ s.TypeIs v T ∧ wpAny (model X.prog X.w) X.A (getItem v (.ref sl)) (EP X pins σ Q) X.xe s
def tSl (r : V → Option Int → Option Int → Hp → VK → Prop) (te : TE) (tl th : TO) : TE := fun σ H Q => te σ H fun x H1 => tl σ H1 fun l H2 => th σ H2 fun u H3 => r x l u H3 Q
theorem pe_slice {r : V → Option Int → Option Int → Hp → VK → Prop} (hr : SlR X r) (he : PE X e te) (hl : PO X lo tl) (hu : PO X hi th) : PE X (.Subscript e (.Slice lo hi none p2) pos) (tSl r te tl th) := by
  intro pins s σ H Q I h
  refine Subscript_ (thn (he pins s σ H _ I h) fun v s1 ⟨x,H1,I1,r1,q1⟩ => ?_)
  refine wpAny_Slice (thn (hl pins s1 σ H1 _ I1 q1) fun vl s2 ⟨l,H2,I2,pl,q2⟩ => thn (hu pins s2 σ H2 _ I2 q2) fun vu s3 ⟨u,H3,I3,pu,q3⟩ => ?_)
  rw [evalPart_none]
  refine wpAny_pure ?_
  have I4 : Inv X pins σ H3 { s3 with heap := s3.heap.push { cls := .type "slice",data := .fields #[vl,vu,.none] } } := I3.kept (t' := s3.toks) fun b ob q => Heap.get?_push_of_some _ q
  obtain ⟨T,id,hT,ht,hg⟩ := hr pins { s3 with heap := s3.heap.push { cls := .type "slice",data := .fields #[vl,vu,.none] } } σ H3 x v vl vu l u s3.heap.objs.size Q I4 r1 (Heap.IsSliceOf.new ..) pl pu q3
  show wpAny (model X.prog X.w) X.A (subscriptTail e (.Slice lo hi none p2) v (.ref s3.heap.objs.size)) (EP X pins σ Q) X.xe { s3 with heap := s3.heap.push { cls := .type "slice",data := .fields #[vl,vu,.none] } }
  exact tail_any (ops := [.ref s3.heap.objs.size,v]) ht hT hg (by with_unfolding_all rfl)
def cutV (xs : List V) (lo hi : Option Int) : List V := (xs.drop (HT.sIx xs.length 0 lo)).take (HT.sIx xs.length xs.length hi - HT.sIx xs.length 0 lo)
theorem cutV_length (xs : List V) (lo hi : Option Int) : (cutV xs lo hi).length ≤ xs.length := by
  unfold cutV
  rw [List.length_take,List.length_drop]
  omega
end
end L2
namespace L2
open PySem PySem.Spec PyProof.Rows
def ixN (n : Nat) (i : Int) : Option Nat := if 0 ≤ i then (if i < n then some i.toNat else none) else if -(n : Int) ≤ i then some (i + n).toNat else none
def atI {α : Type} (xs : List α) (i : Int) : Option α := (ixN xs.length i).bind fun j => xs[j]?
theorem ixN_seq {n : Nat} {i : Int} {j : Nat} (h : ixN n i = some j) : seqIndex? i n = some j ∧ j < n ∧ -(n : Int) ≤ i ∧ i < n := by
  unfold ixN at h
  by_cases h0 : 0 ≤ i
  · rw [if_pos h0] at h
    by_cases h1 : i < n
    · rw [if_pos h1] at h
      have e : i.toNat = j := Option.some.inj h
      exact ⟨by rw [seqIndex_of h0 h1,e],by omega,by omega,h1⟩
    · rw [if_neg h1] at h; cases h
  · rw [if_neg h0] at h
    by_cases h1 : -(n : Int) ≤ i
    · rw [if_pos h1] at h
      have e : (i + n).toNat = j := Option.some.inj h
      exact ⟨by rw [seqIndex_neg (by omega) h1,e],by omega,h1,by omega⟩
    · rw [if_neg h1] at h; cases h
theorem atI_get {α : Type} {xs : List α} {i : Int} {v : α} (h : atI xs i = some v) : ∃ j,seqIndex? i xs.length = some j ∧ xs[j]? = some v ∧ j < xs.length ∧ -(xs.length : Int) ≤ i ∧ i < xs.length := by
  unfold atI at h
  cases e : ixN xs.length i with
  | none => rw [e] at h; cases h
  | some j =>
    rw [e] at h
    obtain ⟨h1,h2,h3,h4⟩ := ixN_seq e
    exact ⟨j,h1,h,h2,h3,h4⟩
theorem atI_nat {α : Type} {xs : List α} {j : Nat} {v : α} (h : xs[j]? = some v) : atI xs (j : Int) = some v := by
  have hj : j < xs.length := (List.getElem?_eq_some_iff.mp h).1
  have e : ixN xs.length (j : Int) = some j := by
    unfold ixN
    rw [if_pos (by omega),if_pos (by omega)]; simp
  unfold atI; rw [e]; exact h
def PlainIx (b : Expr) : Prop := ∀ o i,subscripted b false o i = operate [o,i] (getItem o i)
def IxR (X : Cx) (r : R2) : Prop :=
  ∀ (value slice : Expr) (pins : List (Addr × Obj)) (s : Shared) (σ : St) (H : Hp) (x y : V) (v u : Value) (Q : VK),Inv X pins σ H s → RelV x v → RelV y u → r x y H Q →
    subscripted slice false v u = operate [v,u] (getItem v u) → wpAny (model X.prog X.w) X.A (subscriptTail value slice v u) (EP X pins σ Q) X.xe s
def MtR (X : Cx) (id : String) (r : V → List V → Hp → VK → Prop) : Prop :=
  ∀ (pins : List (Addr × Obj)) (s : Shared) (σ : St) (H : Hp) (x : V) (xs : List V) (v : Value) (us : List Value) (Q : VK),Inv X pins σ H s → RelV x v → Vals xs us → r x xs H Q →
    wpAny (model X.prog X.w) X.A (call (.builtin id) (v :: us)) (EP X pins σ Q) X.xe s
section
variable {X : Cx} {a b : Expr} {ta tb : TE} {pos : Pos}
theorem pe_ix {r : R2} (hr : IxR X r) (ha : PE X a ta) (hb : PE X b tb) (hs : PlainIx b) : PE X (.Subscript a b pos) (tOp r ta tb) := by
  intro pins s σ H Q I h
  exact Subscript_ (binT ha hb I h fun v u s2 x y H2 I2 rx ry q => hr a b pins s2 σ H2 x y v u Q I2 rx ry q (hs _ _))
def rIxL (K : PySem.W.Frag) : R2 := fun x y H Q => ∃ p xs i v,x = .ref p ∧ y = .int i ∧ SqL K H p xs ∧ atI xs i = some v ∧ Q v H
def rIxT (K : PySem.W.Frag) : R2 := fun x y H Q => ∃ p xs i v,x = .ref p ∧ y = .int i ∧ SqT K H p xs ∧ atI xs i = some v ∧ Q v H
def rIxS : R2 := fun x y H Q => ∃ z i c,x = .str z ∧ y = .int i ∧ z.length ≤ sizeLine ∧ atI z.cps.toList i = some c ∧ Q (.str ⟨#[c]⟩) H
theorem ix_list : IxR X (rIxL X.K) := by
  intro value slice pins s σ H x y v u Q I rx ry h hs
  obtain ⟨p,xs,i,z,rfl,rfl,hq,he,q⟩ := h
  cases rx
  obtain ⟨t,rfl⟩ := ry
  obtain ⟨its,r,pl,hz⟩ := I.list hq
  obtain ⟨j,h1,h2,h3,h4,h5⟩ := atI_get he
  obtain ⟨w,ew,rw'⟩ := r.get h2
  have hl := r.length
  have hn := line63
  have fin : EP X pins σ Q w s := ⟨z,H,I,rw',q⟩
  by_cases h0 : 0 ≤ i
  · have hj : i.toNat = j := by
      rw [seqIndex_of h0 h5] at h1
      exact Option.some.inj h1
    exact item_listR pl.isList h0 (by omega) (by rw [hj]; simpa using ew) fin hs
  · have hj : (i + (its.toArray.size : Int)).toNat = j := by
      rw [seqIndex_neg (by omega) h4] at h1
      rw [List.size_toArray,← hl]
      exact Option.some.inj h1
    exact subscriptTail_builtinR (x := w) pl.isList.typeIs slot_list_getitem.lookup
      (wpAny_getItem_list_neg (Q := fun r s' => r = w ∧ EP X pins σ Q r s') pl.isList (by omega) (by rw [List.size_toArray] <;> omega) (by omega) (by rw [hj]; simpa using ew) ⟨rfl,fin⟩) hs
theorem ix_tup : IxR X (rIxT X.K) := by
  intro value slice pins s σ H x y v u Q I rx ry h hs
  obtain ⟨p,xs,i,z,rfl,rfl,hq,he,q⟩ := h
  cases rx
  obtain ⟨t,rfl⟩ := ry
  obtain ⟨its,r,pl,hz⟩ := I.tuple hq
  obtain ⟨j,h1,h2,h3,h4,h5⟩ := atI_get he
  obtain ⟨w,ew,rw'⟩ := r.get h2
  have hl := r.length
  have hn := line63
  have fin : EP X pins σ Q w s := ⟨z,H,I,rw',q⟩
  exact subscriptTail_builtinR (x := w) pl.typeIs slot_tuple_getitem.lookup
    (getItem_tuple (j := j) (Q := fun r s' => r = w ∧ EP X pins σ Q r s') pl (by omega) (by omega) (by rw [List.size_toArray,← hl]; exact h1) (by simpa using ew) ⟨rfl,fin⟩) hs
theorem ix_str : IxR X rIxS := by
  intro value slice pins s σ H x y v u Q I rx ry h hs
  obtain ⟨z,i,c,rfl,rfl,hz,he,q⟩ := h
  obtain ⟨t,rfl⟩ := rx
  obtain ⟨t',rfl⟩ := ry
  obtain ⟨j,h1,h2,h3,h4,h5⟩ := atI_get he
  have hl : z.cps.toList.length = z.length := by simp [Str.length]
  rw [hl] at h1 h4 h5
  have hn := line63
  exact tail_any (typeIs_str s z t) slot_str_getitem.lookup (getItem_str (c := c) (by
    have e1 : decide (i < -(2 ^ 63 : Int)) = false := decide_eq_false (by omega)
    have e2 : decide (i ≥ 2 ^ 63) = false := decide_eq_false (by omega)
    rw [e1,e2,Bool.or_false]) (by rw [h1]; simpa using h2) ⟨.str ⟨#[c]⟩,H,I.tok _,⟨_,rfl⟩,q⟩) hs
theorem mapSeq_set (its : List Value) (n j : Nat) (u : Value) : Obj.mapSeq (·.setIfInBounds j u) { cls := .type "list",data := .seq its.toArray n } = { cls := .type "list",data := .seq (its.set j u).toArray n } := by
  simp [Obj.mapSeq]
theorem Inv.lst {pins : List (Addr × Obj)} {σ : St} {H : Hp} {s : Shared} {p : Addr} {xs : List V} (I : Inv X pins σ H s) (h : H p = some (.lst xs)) :
    ∃ (its : List Value) (n : Nat),Vals xs its ∧ s.heap.get? p = some { cls := .type "list",data := .seq its.toArray n } ∧ xs.length ≤ sizeLine := by
  obtain ⟨z,its,n,r,e⟩ := I.hok p _ h
  exact ⟨its,n,r,e,z⟩
theorem Inv.lstUpd {pins : List (Addr × Obj)} {σ : St} {H : Hp} {s : Shared} {p : Addr} {xs ys : List V} {its its' : List Value} {n n' : Nat} {f : Obj → Obj} (I : Inv X pins σ H s) (h : H p = some (.lst xs))
    (ho : s.heap.get? p = some { cls := .type "list",data := .seq its.toArray n }) (hf : f { cls := .type "list",data := .seq its.toArray n } = { cls := .type "list",data := .seq its'.toArray n' }) (r : Vals ys its') (hz : ys.length ≤ sizeLine) (t : Nat) :
    Inv X pins σ (upd H p (.lst ys)) { s with heap := s.heap.update p f,toks := t } := by
  have e : (s.heap.update p f).get? p = some { cls := .type "list",data := .seq its'.toArray n' } := by
    rw [Heap.get?_update_self f ho (by rw [hf] <;> rfl),hf]
  refine I.write (x := p) (e := p) (by rw [h]; trivial) (.inl rfl) (fun b u hb q => (Heap.get?_update_other _ _ (Ne.symm hb)).trans q) ⟨_,e⟩ ?_
  exact ⟨hz,its',n',r,e⟩
def rSetL : V → V → V → Hp → (Hp → Prop) → Prop := fun o i v H Q => ∃ p xs k j,o = .ref p ∧ i = .int k ∧ H p = some (.lst xs) ∧ ixN xs.length k = some j ∧ Q (upd H p (.lst (xs.set j v)))
theorem set_list : PSet X rSetL := by
  intro pins s σ H o i v ov iv u Q I ro ri rv h
  obtain ⟨p,xs,k,j,rfl,rfl,hp,hj,q⟩ := h
  cases ro
  obtain ⟨t,rfl⟩ := ri
  obtain ⟨its,n,r,ho,hz⟩ := I.lst hp
  obtain ⟨h1,h2,h3,h4⟩ := ixN_seq hj
  have hl := r.length
  have hn := line63
  have I' : Inv X pins σ (upd H p (.lst (xs.set j v))) { s with heap := s.heap.update p (Obj.mapSeq (·.setIfInBounds j u)) } :=
    I.lstUpd hp ho (mapSeq_set its n j u) (r.set rv j) (by rw [List.length_set]; exact hz) s.toks
  by_cases h0 : 0 ≤ k
  · have hk : k.toNat = j := by
      rw [seqIndex_of h0 h4] at h1
      exact Option.some.inj h1
    exact PySem.W.ki_setAt ho h0 (by omega) (by rw [List.size_toArray,← hl]; exact h4) (by rw [hk]; exact ⟨_,I',q⟩)
  · have hk : (k + (its.toArray.size : Int)).toNat = j := by
      rw [seqIndex_neg (by omega) h3] at h1
      rw [List.size_toArray,← hl]
      exact Option.some.inj h1
    exact PySem.W.ki_setBack ho (by omega) (by rw [List.size_toArray,← hl]; exact h3) (by omega) (by rw [hk]; exact ⟨_,I',q⟩)
theorem slice_bounds (lo hi : Option Int) (n : Nat) : (sliceBounds lo hi none n).1 = ((HT.sIx n 0 lo : Nat) : Int) ∧ (sliceBounds lo hi none n).2.1 = ((HT.sIx n n hi : Nat) : Int) ∧ (sliceBounds lo hi none n).2.2 = 1 := by
  refine ⟨?_, ?_,rfl⟩
  · cases lo with
    | none => simp [sliceBounds,HT.sIx]
    | some i =>
      simp only [sliceBounds,HT.sIx,Option.getD_none,show (1 : Int) > 0 by decide,if_true]
      by_cases h : i < 0
      · simp only [h,if_true] <;> omega
      · simp only [h,if_false] <;> omega
  · cases hi with
    | none => simp [sliceBounds,HT.sIx]
    | some i =>
      simp only [sliceBounds,HT.sIx,Option.getD_none,show (1 : Int) > 0 by decide,if_true]
      by_cases h : i < 0
      · simp only [h,if_true] <;> omega
      · simp only [h,if_false] <;> omega
theorem slicePick_cut (its : List Value) (lo hi : Option Int) : slicePick its.toArray lo hi none = ((its.drop (HT.sIx its.length 0 lo)).take (HT.sIx its.length its.length hi - HT.sIx its.length 0 lo)).toArray := by
  obtain ⟨h1,h2,h3⟩ := slice_bounds lo hi its.toArray.size
  unfold slicePick
  rw [h1,h2,h3]
  simp only [sliceRange_one,pick_run,List.size_toArray] <;> rfl
def rSlL (K : PySem.W.Frag) : V → Option Int → Option Int → Hp → VK → Prop := fun x lo hi H Q => ∃ a xs,x = .ref a ∧ SqL K H a xs ∧ ∀ p,H p = none → Q (.ref p) (upd H p (.lst (cutV xs lo hi)))
theorem sl_list : SlR X (rSlL X.K) := by
  intro pins s σ H x v vl vu lo hi sl Q I rx hs pl pu h
  obtain ⟨a,xs,rfl,hx,q⟩ := h
  cases rx
  obtain ⟨its,r,ht,hz⟩ := I.list hx
  have hlen := r.length
  refine ⟨"list",_,slot_list_getitem.lookup,ht.isList.typeIs, ?_⟩
  refine wpAny_getItem_list_slice ht.isList hs pl pu .none (by simp) ?_ (by rw [List.size_toArray] <;> omega)
  rw [slicePick_cut,← hlen]
  refine ⟨.ref s.heap.objs.size,_,I.laid (t' := s.toks) (o := .lst (cutV xs lo hi)) (fun b ob q => Heap.get?_push_of_some _ q) (Nat.le_refl _) ?_,rfl,q _ (I.hok.fresh (Nat.le_refl _))⟩
  exact ⟨Nat.le_trans (cutV_length xs lo hi) hz,_,0,(r.drop (HT.sIx xs.length 0 lo)).take (HT.sIx xs.length xs.length hi - HT.sIx xs.length 0 lo),Heap.get?_push_size _ rfl⟩
def flatV : V → Bool
  | .non => true
  | .bl _ => true
  | .int _ => true
  | .str _ => true
  | _ => false
def eqV : V → V → Bool
  | .non,.non => true
  | .bl a,.bl b => a == b
  | .bl a,.int b => (if a then 1 else 0) == b
  | .int a,.bl b => a == (if b then 1 else 0)
  | .int a,.int b => a == b
  | .str a,.str b => a == b
  | _,_ => false
theorem eqAt_V {A : Around} {s : Shared} {y x : V} {u v : Value} (ry : RelV y u) (rx : RelV x v) (fy : flatV y = true) (fx : flatV x = true) : SeqAt.EqAt A s u v (eqV y x) := by
  cases y with
  | non =>
    cases ry
    cases x with
    | non => cases rx; exact SeqAt.EqAt.same _
    | bl b => cases rx; exact SeqAt.EqAt.none_bool b
    | int b => obtain ⟨t,rfl⟩ := rx; exact SeqAt.EqAt.none_int b t
    | str b => obtain ⟨t,rfl⟩ := rx; exact SeqAt.EqAt.none_str b t
    | _ => exact absurd (show false = true from fx) Bool.false_ne_true
  | bl a =>
    cases ry
    cases x with
    | non => cases rx; exact SeqAt.EqAt.bool_none a
    | bl b => cases rx; exact SeqAt.EqAt.bool_bool a b
    | int b => obtain ⟨t,rfl⟩ := rx; exact SeqAt.EqAt.bool_int a b t
    | str b => obtain ⟨t,rfl⟩ := rx; exact SeqAt.EqAt.bool_str a b t
    | _ => exact absurd (show false = true from fx) Bool.false_ne_true
  | int a =>
    obtain ⟨t',rfl⟩ := ry
    cases x with
    | non => cases rx; exact SeqAt.EqAt.int_none a t'
    | bl b => cases rx; exact SeqAt.EqAt.int_bool a t' b
    | int b => obtain ⟨t,rfl⟩ := rx; exact SeqAt.EqAt.int_int a t' b t
    | str b => obtain ⟨t,rfl⟩ := rx; exact SeqAt.EqAt.int_str a t' b t
    | _ => exact absurd (show false = true from fx) Bool.false_ne_true
  | str a =>
    obtain ⟨t',rfl⟩ := ry
    cases x with
    | non => cases rx; exact SeqAt.EqAt.str_none a t'
    | bl b => cases rx; exact SeqAt.EqAt.str_bool a t' b
    | int b => obtain ⟨t,rfl⟩ := rx; exact SeqAt.EqAt.str_int a t' b t
    | str b => obtain ⟨t,rfl⟩ := rx; exact SeqAt.EqAt.str_str a t' b t
    | _ => exact absurd (show false = true from fx) Bool.false_ne_true
  | _ => exact absurd (show false = true from fy) Bool.false_ne_true
def eqU (x : V) (u : Value) : Bool := match u with
  | .none => eqV .non x
  | .bool b => eqV (.bl b) x
  | .int i _ => eqV (.int i) x
  | .str z _ => eqV (.str z) x
  | _ => false
theorem eqU_of {x y : V} {u : Value} (r : RelV y u) (f : flatV y = true) : eqU x u = eqV y x := by
  cases y with
  | non => cases r; rfl
  | bl b => cases r; rfl
  | int i => obtain ⟨t,rfl⟩ := r; rfl
  | str z => obtain ⟨t,rfl⟩ := r; rfl
  | _ => exact absurd (show false = true from f) Bool.false_ne_true
theorem any_eqU {x : V} : ∀ {xs : List V} {us : List Value},Vals xs us → xs.all flatV = true → us.any (eqU x) = xs.any fun y => eqV y x
  | _,_,.nil,_ => rfl
  | y :: xs,u :: us,.cons r t,f => by
    rw [List.all_cons,Bool.and_eq_true] at f
    rw [List.any_cons,List.any_cons,eqU_of r f.1,any_eqU t f.2]
theorem mem_eqAt {A : Around} {s : Shared} {x : V} {v : Value} (rx : RelV x v) (fx : flatV x = true) : ∀ {xs : List V} {us : List Value},Vals xs us → xs.all flatV = true → ∀ u ∈ us,SeqAt.EqAt A s u v (eqU x u)
  | _,_,.nil,_ => fun u hu => by cases hu
  | y :: xs,u :: us,.cons r t,f => fun u' hu => by
    rw [List.all_cons,Bool.and_eq_true] at f
    rcases List.mem_cons.mp hu with rfl | hu
    · rw [eqU_of r f.1]; exact eqAt_V r rx f.1 fx
    · exact mem_eqAt rx fx t f.2 u' hu
def inV (x : V) (xs : List V) : Bool := xs.any fun y => eqV y x
def rIn (K : PySem.W.Frag) (neg : Bool) : R2 := fun x y H Q => ∃ p xs,y = .ref p ∧ (SqL K H p xs ∨ SqT K H p xs) ∧ flatV x = true ∧ xs.all flatV = true ∧ Q (.bl (if neg then !inV x xs else inV x xs)) H
theorem op_in_seq : OpR X (compareOp .In) (rIn X.K false) := by
  intro pins s σ H x y v u Q I rx ry h
  obtain ⟨p,xs,rfl,hq,fx,fs,q⟩ := h
  cases ry
  rcases hq with hq | hq
  · obtain ⟨its,r,pl,hz⟩ := I.list hq
    refine SeqAt.in_listAt (eqU x) pl.isList (fun w hw => mem_eqAt rx fx r fs w (by simpa using hw)) ⟨.bl _,H,I,rfl, ?_⟩
    rw [show its.toArray.any (eqU x) = its.any (eqU x) by simp,any_eqU r fs]
    exact q
  · obtain ⟨its,r,pl,hz⟩ := I.tuple hq
    refine SeqAt.in_tupleAt (eqU x) pl (fun w hw => mem_eqAt rx fx r fs w (by simpa using hw)) ⟨.bl _,H,I,rfl, ?_⟩
    rw [show its.toArray.any (eqU x) = its.any (eqU x) by simp,any_eqU r fs]
    exact q
theorem op_notIn_seq : OpR X (compareOp .NotIn) (rIn X.K true) := by
  intro pins s σ H x y v u Q I rx ry h
  obtain ⟨p,xs,rfl,hq,fx,fs,q⟩ := h
  cases ry
  rcases hq with hq | hq
  · obtain ⟨its,r,pl,hz⟩ := I.list hq
    refine SeqAt.notIn_listAt (eqU x) pl.isList (fun w hw => mem_eqAt rx fx r fs w (by simpa using hw)) ⟨.bl _,H,I,rfl, ?_⟩
    rw [show its.toArray.any (eqU x) = its.any (eqU x) by simp,any_eqU r fs]
    exact q
  · obtain ⟨its,r,pl,hz⟩ := I.tuple hq
    refine SeqAt.notIn_tupleAt (eqU x) pl (fun w hw => mem_eqAt rx fx r fs w (by simpa using hw)) ⟨.bl _,H,I,rfl, ?_⟩
    rw [show its.toArray.any (eqU x) = its.any (eqU x) by simp,any_eqU r fs]
    exact q
theorem call_len_seq : CallR X (.builtin "len") (fun xs H Q => ∃ p ys,xs = [.ref p] ∧ (SqL X.K H p ys ∨ SqT X.K H p ys) ∧ Q (.int ys.length) H) := by
  intro pins s σ H xs us Q I r h
  obtain ⟨p,ys,rfl,hq,q⟩ := h
  obtain ⟨u,rfl,rx⟩ := vals1 r
  cases rx
  have hn := line63
  rcases hq with hq | hq
  · obtain ⟨its,r',pl,hz⟩ := I.list hq
    have hlen := r'.length
    exact Calls.call_len_list pl.isList (by simp only [List.size_toArray] <;> omega) ⟨.int ys.length,H,I.tok _,⟨s.toks + 1,by rw [List.size_toArray,hlen]⟩,q⟩
  · obtain ⟨its,r',pl,hz⟩ := I.tuple hq
    have hlen := r'.length
    exact len_tuple pl (by simp only [List.size_toArray] <;> omega) ⟨.int ys.length,H,I.tok _,⟨s.toks + 1,by rw [List.size_toArray,hlen]⟩,q⟩
theorem call_len_str : CallR X (.builtin "len") (fun xs H Q => ∃ z,xs = [.str z] ∧ z.length ≤ sizeLine ∧ Q (.int z.length) H) := by
  intro pins s σ H xs us Q I r h
  obtain ⟨z,rfl,hz,q⟩ := h
  obtain ⟨u,rfl,t,rfl⟩ := vals1 r
  have hn := line63
  exact len_str (by omega) ⟨.int z.length,H,I.tok _,⟨_,rfl⟩,q⟩
theorem call_list_of : CallR X (.type "list") (fun xs H Q => ∃ p ys,xs = [.ref p] ∧ (SqL X.K H p ys ∨ SqT X.K H p ys) ∧ ∀ l,H l = none → Q (.ref l) (upd H l (.lst ys))) := by
  intro pins s σ H xs us Q I r h
  obtain ⟨p,ys,rfl,hq,q⟩ := h
  obtain ⟨u,rfl,rx⟩ := vals1 r
  cases rx
  have fin : ∀ (its : List Value),Vals ys its → ys.length ≤ sizeLine → ∀ (h' : Heap) (c' : Nat),(∀ b o',s.heap.get? b = some o' → h'.get? b = some o') →
      h'.get? s.heap.objs.size = some { cls := .type "list",dict := none,data := .seq its.toArray c',slots := #[] } → EP X pins σ Q (.ref s.heap.objs.size) { s with heap := h' } := fun its r' hz h' c' kp e =>
    ⟨.ref s.heap.objs.size,_,I.laid (t' := s.toks) kp (Nat.le_refl _) (show ObjOk X.prog X.w _ h' _ (.lst ys) from ⟨hz,its,c',r',e⟩),rfl,q _ (I.hok.fresh (Nat.le_refl _))⟩
  rcases hq with hq | hq
  · obtain ⟨its,r',pl,hz⟩ := I.list hq
    have hlen := r'.length
    obtain ⟨o,ho,hc,n,hd⟩ := pl.isList
    exact call_list_seq p (.inl rfl) ho hc hd (fun h' c' kp e => fin its r' hz h' c' kp e) (by simp only [List.size_toArray] <;> omega)
  · obtain ⟨its,r',pl,hz⟩ := I.tuple hq
    have hlen := r'.length
    obtain ⟨o,ho,hc,n,hd⟩ := pl
    exact call_list_seq p (.inr rfl) ho hc hd (fun h' c' kp e => fin its r' hz h' c' kp e) (by simp only [List.size_toArray] <;> omega)
def tyV (K : PySem.W.Frag) (T : String) (x : V) (H : Hp) : Prop := match x with
  | .str _ => T = "str"
  | .int _ => T = "int"
  | .ref p => (T = "list" ∧ ∃ xs,SqL K H p xs) ∨ (T = "tuple" ∧ ∃ o,K.lookup p = some o ∧ o.cls = .type "tuple" ∧ o.dict = none) ∨
      (T = "dict" ∧ ((∃ kvs,H p = some (.dK kvs)) ∨ ∃ kvs,H p = some (.dT kvs))) ∨ (T = "set" ∧ ∃ S n,H p = some (.set S n))
  | _ => False
theorem tyV_is {pins : List (Addr × Obj)} {σ : St} {H : Hp} {s : Shared} {T : String} {x : V} {v : Value} (I : Inv X pins σ H s) (r : RelV x v) (ty : tyV X.K T x H) :
    s.TypeIs v T ∧ ∀ a,v = .ref a → ∃ ob,s.heap.get? a = some ob ∧ ob.dict = none := by
  cases x with
  | str z =>
    obtain ⟨t,rfl⟩ := r
    cases (show T = "str" from ty)
    exact ⟨typeIs_str s z t,fun _ e => nomatch e⟩
  | int i =>
    obtain ⟨t,rfl⟩ := r
    cases (show T = "int" from ty)
    exact ⟨typeIs_int s i t,fun _ e => nomatch e⟩
  | ref p =>
    cases r
    rcases ty with ⟨rfl,xs,hq⟩ | ⟨rfl,o,hk,hc,hd⟩ | ⟨rfl,hk⟩ | ⟨rfl,S,n,hk⟩
    · obtain ⟨its,_,pl,_⟩ := I.list hq
      refine ⟨pl.isList.typeIs,fun a e => ?_⟩
      cases e
      obtain ⟨o,n,e,c,hd,_⟩ := pl
      exact ⟨o,e,hd⟩
    · refine ⟨⟨o,I.kIn p o hk,hc⟩,fun a e => ?_⟩
      cases e
      exact ⟨o,I.kIn _ o hk,hd⟩
    · have z : ∃ o,s.heap.get? p = some o ∧ o.ExactDict := by
        rcases hk with ⟨kvs,hk⟩ | ⟨kvs,hk⟩
        · obtain ⟨_,_,_,_,o,_,_,e,ex,_⟩ := I.hok p _ hk
          exact ⟨o,e,ex⟩
        · obtain ⟨_,_,_,_,o,_,_,e,ex,_⟩ := I.hok p _ hk
          exact ⟨o,e,ex⟩
      obtain ⟨o,e,ex⟩ := z
      refine ⟨⟨o,e,ex.1⟩,fun a e2 => ?_⟩
      cases e2
      exact ⟨o,e,ex.2.1⟩
    · obtain ⟨o,_,_,_,e,ex,_⟩ := I.hok p _ hk
      refine ⟨⟨o,e,ex.1⟩,fun a e2 => ?_⟩
      cases e2
      exact ⟨o,e,ex.2.1⟩
  | _ => exact False.elim ty
def tBM (K : PySem.W.Frag) (T : String) (r : V → List V → Hp → VK → Prop) (to : TE) (t : TA) : TE := fun σ H Q => to σ H fun x H1 => tyV K T x H1 ∧ t σ H1 fun xs H2 => r x xs H2 Q
variable {o e : Expr} {es : List Expr} {to : TE} {t : TA} {name : Str} {apos cpos : Pos} {T id : String} {r : V → List V → Hp → VK → Prop}
theorem pe_bm (pa : PlainAttrs T) (slot : Slot T name id) (hty : typeOf (.builtin id) = pure (.type "method_descriptor")) (hm : MtR X id r) (ho : PE X o to) (ha : PA X (e :: es) t)
    (hbase : attributeBase o name X.env (eval o X.env) = eval o X.env := by rfl)
    (hfew : ((backTo cpos (starEach (e :: es) X.env)).all (fun x => !x.1) && (backToKw cpos (keywordEach [] X.env)).all (fun x => x.1.isSome)
      && decide ((e :: es).length + ([] : List Keyword).length + (if ([] : List Keyword).isEmpty then 0 else 1) < 30)) = true := by rfl)
    (hline : (apos.endLine == cpos.line) = true := by rfl) (hs : starEach (e :: es) X.env = (false,eval e X.env) :: starEach es X.env := by rfl) (hplain : (backTo cpos (starEach es X.env)).any (·.1) = false := by rfl) :
    PE X (.Call (.Attribute o name apos) (e :: es) [] cpos) (tBM X.K T r to t) := by
  intro pins s σ H Q I h
  refine wpAny_Call_method_late hbase hfew hline rfl (thn (ho pins s σ H _ I h) fun v s1 ⟨x,H1,I1,r1,ty,q1⟩ => ?_)
  obtain ⟨h1,h2⟩ := tyV_is I1 r1 ty
  refine ⟨T,id,pa,slot,hty,h1,h2, ?_⟩
  have hA := ha cpos pins s1 σ H1 _ I1 q1
  rw [hs] at hA ⊢
  refine Calls.callWith_builtin (by show (false || (backTo cpos (starEach es X.env)).any (·.1)) = false; rw [hplain] <;> rfl) (Calls.evalArgs_plain ?_)
  exact thn hA fun us s2 ⟨vs,H2,I2,r2,q2⟩ => hm pins s2 σ H2 x vs v us Q I2 r1 r2 q2
/- xs.append(e),list.index on a module's tuple .. are MtR facts of 06m -/
end
end L2
namespace L2
open PySem PySem.Spec PyProof.Rows
def MtM (X : Cx) (id : String) (r : V → List V → Hp → VK → Prop) : Prop :=
  ∀ (pins : List (Addr × Obj)) (s : Shared) (σ : St) (H : Hp) (x : V) (xs : List V) (v : Value) (us : List Value) (Q : VK),Inv X pins σ H s → RelV x v → Vals xs us → r x xs H Q →
    wpAny (model X.prog X.w) X.A (call (.builtin id) (v :: us)) (EP X pins σ Q) X.xe s
theorem Vals.one : ∀ {x : V} {us : List Value},Vals [x] us → ∃ u,us = [u] ∧ RelV x u
  | _,_,.cons r .nil => ⟨_,rfl,r⟩
theorem Vals.two : ∀ {x y : V} {us : List Value},Vals [x,y] us → ∃ u v,us = [u,v] ∧ RelV x u ∧ RelV y v
  | _,_,_,.cons r (.cons q .nil) => ⟨_,_,rfl,r,q⟩
section
variable {X : Cx} {pins : List (Addr × Obj)} {σ : St} {H : Hp} {s : Shared} {l b : Addr} {xs ys zs : List V}
theorem Inv.lset {its its' : List Value} {n : Nat} {f : Array Value → Array Value} {t' : Nat} (I : Inv X pins σ H s) (hH : H l = some (.lst xs))
    (e : s.heap.get? l = some { cls := .type "list",data := .seq its.toArray n }) (hf : f its.toArray = its'.toArray) (hv : Vals ys its') (hz : ys.length ≤ sizeLine) :
    Inv X pins σ (upd H l (.lst ys)) { s with heap := s.heap.update l (Obj.mapSeq f),toks := t' } := by
  have q := PySem.IsL.update e f
  rw [hf] at q
  refine I.write (x := l) (e := l) (by rw [hH]; exact trivial) (.inl rfl) (fun b' u hb hu => (Heap.get?_update_other s.heap (Obj.mapSeq f) (Ne.symm hb)).trans hu) ⟨_,q⟩ ?_
  exact ⟨hz,its',_,hv,q⟩
theorem Inv.lnew {its : List Value} {t' : Nat} (I : Inv X pins σ H s) (hv : Vals ys its) (hz : ys.length ≤ sizeLine) :
    Inv X pins σ (upd H s.heap.objs.size (.lst ys)) { s with heap := s.heap.push { cls := .type "list",data := .seq its.toArray },toks := t' } :=
  I.laid (fun _ _ q => Heap.get?_push_of_some _ q) (Nat.le_refl _) ⟨hz,its,0,hv,Heap.get?_push_size _ rfl⟩
theorem Inv.fresh (I : Inv X pins σ H s) : H s.heap.objs.size = none := I.hok.fresh (Nat.le_refl _)
theorem Inv.lstM (I : Inv X pins σ H s) (hH : H l = some (.lst xs)) : xs.length ≤ sizeLine ∧ ∃ (its : List Value) (n : Nat),Vals xs its ∧ xs.length = its.length ∧ s.heap.get? l = some { cls := .type "list",data := .seq its.toArray n } := by
  obtain ⟨z,its,n,r,e⟩ := I.hok l _ hH
  exact ⟨z,its,n,r,r.length,e⟩
theorem notLongL {n : Nat} (h : n ≤ sizeLine) : Builtin.List.listTooLong n = false := by
  unfold Builtin.List.listTooLong
  exact decide_eq_false (by omega)
end
section
variable {X : Cx}
def rAppend : V → List V → Hp → VK → Prop := fun x vs H Q => ∃ l xs y,x = .ref l ∧ vs = [y] ∧ H l = some (.lst xs) ∧ xs.length < sizeLine ∧ Q .non (upd H l (.lst (xs ++ [y])))
theorem mt_append : MtM X "list.append" rAppend := by
  intro pins s σ H x vs v us Q I rx rv h
  obtain ⟨l,xs,y,rfl,rfl,hH,hz,q⟩ := h
  cases rx
  obtain ⟨u,rfl,ru⟩ := rv.one
  obtain ⟨z,its,n,r,hl,e⟩ := I.lstM hH
  refine call_meets F.slot_list_append ⟨_,e,rfl⟩ F.entry_list_append (F.args_list_append_2 _ _) (PySem.list_append l its.toArray n u (by rw [List.size_toArray]; omega)) ⟨e, ?_⟩
  refine ⟨.non,_,I.lset (its' := its ++ [u]) hH e (by simp) (r.append (.cons ru .nil)) ?_,rfl,q⟩
  rw [List.length_append,List.length_singleton]
  omega
def rExtend : V → List V → Hp → VK → Prop := fun x vs H Q => ∃ l b xs zs,x = .ref l ∧ vs = [.ref b] ∧ H l = some (.lst xs) ∧ H b = some (.lst zs) ∧ xs.length + zs.length ≤ sizeLine ∧ Q .non (upd H l (.lst (xs ++ zs)))
theorem mt_extend : MtM X "list.extend" rExtend := by
  intro pins s σ H x vs v us Q I rx rv h
  obtain ⟨l,b,xs,zs,rfl,rfl,hH,hB,hz,q⟩ := h
  cases rx
  obtain ⟨u,rfl,ru⟩ := rv.one
  cases ru
  obtain ⟨z,its,n,r,hl,e⟩ := I.lstM hH
  obtain ⟨z2,its2,n2,r2,hl2,e2⟩ := I.lstM hB
  have hsz : its.toArray.size + its2.toArray.size ≤ sizeLine := by rw [List.size_toArray,List.size_toArray]; omega
  have hlong : ¬ (!its.toArray.isEmpty && Builtin.List.listTooLong (its.toArray.size + its2.toArray.size)) = true := by
    rw [notLongL hsz,Bool.and_false]
    exact Bool.false_ne_true
  refine call_meets F.slot_list_extend ⟨_,e,rfl⟩ F.entry_list_extend (F.args_list_extend_2 _ _)
    (AutoSeq1.list_extend_list_list_0 l its.toArray n b its2.toArray n2 hlong (by rw [List.size_toArray]; omega) (by omega)) ⟨e,e2, ?_⟩
  refine ⟨.non,_,I.lset (its' := its ++ its2) hH e (by simp) (r.append r2) ?_,rfl,q⟩
  rw [List.length_append]
  omega
def rCat : R2 := fun x y H Q => ∃ l b xs zs,x = .ref l ∧ y = .ref b ∧ H l = some (.lst xs) ∧ H b = some (.lst zs) ∧ xs.length + zs.length ≤ sizeLine ∧ ∀ p,H p = none → Q (.ref p) (upd H p (.lst (xs ++ zs)))
theorem op_cat : OpR X (binaryOp .Add) rCat := by
  intro pins s σ H x y v u Q I rx ry h
  obtain ⟨l,b,xs,zs,rfl,rfl,hH,hB,hz,q⟩ := h
  cases rx
  cases ry
  obtain ⟨z,its,n,r,hl,e⟩ := I.lstM hH
  obtain ⟨z2,its2,n2,r2,hl2,e2⟩ := I.lstM hB
  refine PySem.P.add_list e e2 ?_ (by rw [List.size_toArray,List.size_toArray]; omega)
  have ea : its.toArray ++ its2.toArray = (its ++ its2).toArray := by simp
  rw [ea]
  exact ⟨.ref _,_,I.lnew (t' := s.toks) (r.append r2) (by rw [List.length_append]; omega),rfl,q _ I.fresh⟩
end
section
variable {prog : Program} {w : World} {A : Around} {E : Value → Shared → Prop} {s : Shared}
end
section
variable {X : Cx}
end
end L2
namespace Att
open PySem PySem.W PySem.Calls PyProof.Rows
theorem ints_of_wellAll {P : Params} {h : Heap} : ∀ (ns : List Int) (vs : List Value),WellAll P h vs (ns.map WData.int) → IntsAre vs ns := by
  intro ns
  induction ns with
  | nil =>
    intro vs w
    rw [List.map_nil] at w
    cases w
    exact .nil
  | cons n ns ih =>
    intro vs w
    rw [List.map_cons] at w
    cases w with
    | cons a b =>
      cases a
      exact .cons _ _ (ih _ b)
theorem script_of {l : OpenLaw} {n : Nat} (hn : l.most = some n) {P : Params} {h : Heap} {args : List WData} {vals : List Value}
    (hpre : l.row.toRowW.claim.pre args = true) (hwl : WellAll P h vals args) :
    ∃ a vs ns,vals = [Value.ref a] ∧ args = [WData.list (ns.map WData.int)] ∧ h.get? a = some { cls := .type "list",data := .seq vs.toArray } ∧ IntsAre vs ns ∧ ns.length ≤ n := by
  have hsh : WShape.hasAll [] args [.list .int] = true := (pre_splitW hpre).1
  have hc : l.pre.holds [] { args := args } = true := (pre_splitW hpre).2
  obtain ⟨d,r,rfl,h1,h2⟩ := hasAllW_cons hsh
  obtain rfl := hasAllW_nil h2
  obtain ⟨xs,rfl,h3⟩ := hasW_list h1
  obtain ⟨ns,rfl⟩ := items_int h3
  have hlen : ns.length ≤ n := by
    unfold OpenLaw.pre at hc
    have h4 : (WTm.not (.lt (.lit (.int (n : Int))) (.len (.arg 0)))).holds [] { args := [.list (ns.map .int)] } = true := by
      have h4 := (holds_andW hc).1
      rw [hn] at h4
      exact h4
    have h5 := condW_of h4 (w_not (w_lt w_lit (w_len_list (w_arg rfl))))
    rw [List.length_map] at h5
    refine Nat.le_of_not_lt fun q => ?_
    have q' : (n : Int) < ((ns.length : Nat) : Int) := by omega
    first
      | (rw [decide_eq_true q'] at h5; exact absurd h5 (by decide))
      | (simp at h5; omega)
  cases hwl with
  | cons w1 w2 =>
    cases w2
    cases w1 with
    | list ho hall => exact ⟨_,_,ns,rfl,rfl,ho,ints_of_wellAll ns _ hall,hlen⟩
theorem post_true (l : OpenLaw) (args : List WData) : l.row.toRowW.claim.post args (.bool true) args = true :=
  postW_of (r := l.row.toRowW) (X := (true == true))
    (show WShape.has [] (.bool true) .bool = true by first | rfl | decide | simp [WShape.has,WShape.arms,WShape.armsAll])
    (show (WTm.eq .res (.lit (.bool true))).value [] { args := args,res := some (.bool true),after := args } = some (.bool (true == true)) from w_eq_bool (w_res rfl) w_lit) rfl
section
variable {prog : Program} {w : World} {A : Around} {E : Value → Shared → Prop} {s : Shared} {K : Frag}
end
end Att
namespace L2
open PySem PySem.Spec PyProof.Rows
theorem vals_ints : ∀ {vs : List Value} {ns : List Int},IntsAre vs ns → Vals (ns.map V.int) vs
  | _,_,.nil => .nil
  | _,_,.cons n t h => .cons ⟨t,rfl⟩ (vals_ints h)
def Only (H : Hp) : Prop := ∀ b,H b = none ∨ ∃ o xs,H b = some (.frz o (.lst xs))
theorem law_call {P : Program} {w : World} {K : PySem.W.Frag} {mg mb : Str → Option Value} {CX : CXT} {k : Nat} {fa a : Addr} {fd : FuncData} {x : Str} {sp : Sp} {s₁ : Shared} {vs : List Value} {ns : List Int}
    (KX : K.In s₁.heap) (hns : s₁.heap.Ns mainGlobals mg) (hb : s₁.heap.Ns builtinsNs mb) (hbb : ∀ x : Str,x ≠ "__name__" → mb x = bootBuiltins x) (hlim : s₁.heap.NoLimit) (hg : s₁.gens = #[])
    (ha : s₁.heap.get? a = some { cls := .type "list",data := .seq vs.toArray }) (hi : IntsAre vs ns) (hl : ns.length ≤ sizeLine) (hr : Room k callerA)
    (F : ∀ base : Heap,K.In base → base.Ns mainGlobals mg → FnOk P w K mg base CX k fa fd [x] sp) (hbind : ∀ (s : Shared) (u : Value),BindsTo s fd ⟨[u],[]⟩ [(x,u)])
    (hsp : ∀ H : Hp,Only H → SqL K H a (ns.map V.int) → sp [.ref a] H (fun v _ => v = .bl true) fun _ _ _ => False)
    (hCX : ∀ H e s',CX [] H s₁ (fun _ _ _ => False) e s' → False) :
    codeAny (model P w) callerA (.call (.ref fa) ⟨[.ref a],[]⟩) (fun r s' => r = .ok (.ret (.bool true)) ∧ OldK s₁.heap s'.heap ∧ s'.os = s₁.os ∧ AllBare s'.gens) s₁ := by
  have rv := vals_ints hi
  have lenV := hi.length
  have core : ∀ H : Hp,Only H → SqL K H a (ns.map V.int) → HOk P w H s₁.heap → (∀ b,H b ≠ none → b = a) → (H a ≠ none → K.lookup a = none) →
      codeAny (model P w) callerA (.call (.ref fa) ⟨[.ref a],[]⟩) (fun r s' => r = .ok (.ret (.bool true)) ∧ OldK s₁.heap s'.heap ∧ s'.os = s₁.os ∧ AllBare s'.gens) s₁ := by
    intro H hO hS hok hA hK
    have base_of : ∀ {b : Addr} {o : Obj},s₁.heap.get? b = some o → H b = none → (hidT s₁.heap H).get? b = some o := fun e n => hidT_get e n
    have noA : ∀ {b : Addr} {o : Obj} {es : Array DictEntry} {ep : Nat},s₁.heap.get? b = some o → o.data = .dict es ep → H b = none := fun {b o es ep} e d => by
      cases q : H b with
      | none => rfl
      | some u =>
        have e' : b = a := hA b (by rw [q]; simp)
        subst e'
        rw [ha] at e; cases e
        have d' : Data.seq vs.toArray _ = Data.dict es ep := d
        cases d'
    have nsK : ∀ {b : Addr} {m : Str → Option Value},s₁.heap.Ns b m → (hidT s₁.heap H).Ns b m := fun {b m} ⟨o,es,ep,e,d,r⟩ => ⟨o,es,ep,base_of e (noA e d),d,r⟩
    have hKb : K.In (hidT s₁.heap H) := fun b o e => base_of (KX b o e) (by
      cases q : H b with
      | none => rfl
      | some u =>
        have e' : b = a := hA b (by rw [q]; simp)
        subst e'
        rw [hK (by rw [q]; simp)] at e; cases e)
    have hM : Mod K mg (hidT s₁.heap H) := ⟨hKb,nsK hns,⟨mb,nsK hb,hbb⟩,let ⟨mc,h1,h2⟩ := hlim; ⟨mc,nsK h1,h2⟩⟩
    have e0 : Env0 P w K mg (hidT s₁.heap H) callerA [] s₁ H := ⟨rfl,hM,fun b o e => of_hidT e,Nat.le_of_eq (hidT_size _ _),trivial,fun b hb => absurd (show b ∈ ([] : List Addr) from hb) (by simp),hok,.of_eq hg⟩
    refine codeAny_mono ((F _ hKb (nsK hns)).run callerA [] s₁ H ⟨[.ref a],[]⟩ [.ref a] [.ref a] _ _ hr e0 (hbind s₁ (.ref a)) (.cons rfl .nil) (hsp H hO hS)) fun r s' h => ?_
    cases r with
    | error e => exact (hCX H e s' h).elim
    | ok fl =>
      cases fl with
      | next => exact False.elim h
      | brk => exact False.elim h
      | cont => exact False.elim h
      | ret u =>
        obtain ⟨v,H',os,bare,un,hok',r',q⟩ := h
        have q' : v = .bl true := q
        subst q'
        obtain rfl : u = Value.bool true := r'
        refine ⟨rfl,OldK.of_keep fun b o e => ?_,os,bare⟩
        cases q : H b with
        | none => exact un.keep b o e q (by intro z; exact absurd (show b ∈ ([] : List Addr) from z) (by simp)) (by simp)
        | some u =>
          rcases hO b with z | ⟨ob,xs,z⟩
          · rw [q] at z; cases z
          · have z2 := un.frzs b ob _ z
            obtain ⟨e1,_⟩ := hok b _ z
            obtain ⟨e2,_⟩ := hok' b _ z2
            rw [e] at e1; cases e1
            exact e2
  cases hk : K.lookup a with
  | some o =>
    have e := KX a o hk
    rw [ha] at e
    cases e
    refine core (fun _ => none) (fun _ => .inl rfl) (.inr ⟨_,vs.toArray,_,hk,rfl,rfl,rfl,by rw [List.size_toArray,lenV]; exact hl,by simpa using rv⟩) (fun b u z => by have z' : (none : Option HO) = some u := z; cases z') (fun b z => absurd rfl z) fun z => absurd rfl z
  | none =>
    refine core (fun b => if b = a then some (.frz { cls := .type "list",data := .seq vs.toArray } (.lst (ns.map V.int))) else none) (fun b => ?_) (.inl (.inr ⟨{ cls := .type "list",data := .seq vs.toArray },if_pos rfl⟩)) (fun b u z => ?_) (fun b z => ?_) fun _ => hk
    · by_cases hb : b = a
      · exact .inr ⟨_,_,if_pos hb⟩
      · exact .inl (if_neg hb)
    · by_cases hb : b = a
      · have z' := (if_pos hb).symm.trans z
        cases z'
        subst hb
        exact ⟨ha,by rw [List.length_map]; exact hl,vs,_,rv,ha⟩
      · have z' := (if_neg hb).symm.trans z
        cases z'
    · by_cases hb : b = a
      · exact hb
      · exact absurd (if_neg hb) z
end L2
namespace L2
open PySem PySem.Spec PyProof.Rows
end L2
/- THE LAST THEOREM (shape; LID,My.* are yours):
   My.Adr: a structure of the addresses that your layer names (classes,functions); My.Txt K t: a structure (Prop) of the equations over K;
   My.txt_mk : {K} {implicit addresses ..} (e1 : nsIn K mainGlobals "law" = some (some (.ref f))) (e2 : K.lookup f = some ⟨oc,od,.func (fnOf "law" "law" params body scope dV kV doc pm an cdv ct),sl⟩) (e3 : codeIn K cdv "law" = true) .. : ∃ t,My.Txt K t
set_option maxRecDepth 100000 in
set_option maxHeartbeats 0 in
theorem PySem.Challenge.cw_LID_holds : PySem.Challenge.rw_LID.Holds := by
  w_on; o_law; k_head; (case hw => w_witness2)
  k_fill
  refine L2.walk_of (l := PySem.Challenge.rw_LID) (n := 63) (k := 40) (x := "script") (CX := fun w => ..) (sp := fun _ => My.sp_law) rfl (by decide) rfl ⟨rfl,by decide,by decide⟩ (fun w h Y => PySem.W.kIn_of Y) ?F ?S ?C
  case F =>
    intro w mg fa h KX G hmg
    have T : ∃ t,My.Txt (L2.KOf KX) t := by
      dsimp only [L2.KOf]                          -- K must stand as «<heap const> w.params» for k_is
      refine' My.txt_mk ?e1 ?e2 ?e3 ..
      (case e1 => PySem.W.k_is)                    -- in the order: a name -> its address -> its object -> its parts
      (case e2 => PySem.W.k_is)
      ..
    obtain ⟨t,T⟩ := T
    have e0 := hmg.symm.trans (PySem.W.mg_of KX G T.law)
    cases e0                                       -- fa is the law's own address
    exact ⟨_,fun s u => .of_eq rfl,fun base kb nb => My.law_fn T kb nb⟩     -- if «.of_eq rfl» comes too early: refine' ⟨_, ?b,fun base kb nb => My.law_fn T kb nb⟩; exact fun s u => .of_eq rfl
  case S => exact fun w H a ns hl hO hS => ..
  case C => exact ..
(the tactic k_is has no namespace: write k_is) -/
namespace L2
open PySem PySem.Spec PyProof.Rows
def inClass (s : Stmt) (j : Nat) : Stmt := match s with
  | .ClassDef _ _ _ body _ _ _ _ _ _ _ => body.getD j (.Pass ⟨0,0,0,0⟩)
  | _ => .Pass ⟨0,0,0,0⟩
def defArgs (s : Stmt) : Arguments := match s with
  | .FunctionDef _ a _ _ _ _ _ _ _ _ => a
  | _ => { posonlyargs := [],args := [],vararg := none,kwonlyargs := [],kw_defaults := [],kwarg := none,defaults := [] }
def defBody (s : Stmt) : List Stmt := match s with
  | .FunctionDef _ _ b _ _ _ _ _ _ _ => b
  | _ => []
def defScope (s : Stmt) : Scope := match s with
  | .FunctionDef _ _ _ _ _ _ sc _ _ _ => sc
  | _ => { kind := .function,names := [],isGenerator := false,isCoroutine := false }
abbrev CX0 : CXT := fun _ _ _ _ _ _ => False
abbrev E0 : XK := fun _ _ _ => False
theorem pass0 {X : Cx} : Passes CX0 X E0 := fun _ _ _ _ _ _ _ h => h.elim
structure Fun (K : PySem.W.Frag) (x qual : Str) (st : Stmt) (f : Addr) (fd : FuncData) : Prop where
  ex : ∃ (oc : Value) (od : Option Addr) (kV doc pm : Value) (an : Option Addr) (cdv ct : Value) (osl : Array (Option Value)),
    fd = PySem.W.fnOf x qual (defArgs st) (defBody st) (defScope st) .none kV doc pm an cdv ct ∧ K.lookup f = some ⟨oc,od,.func fd,osl⟩ ∧ PySem.W.codeIn K cdv qual = true
  kp : PySem.W.keepIn K (.ref f) = true
section
variable {P : Program} {w : World} {K : PySem.W.Frag} {mg : Str → Option Value} {base : Heap}
theorem Fun.ok {x qual : Str} {st : Stmt} {f : Addr} {fd : FuncData} {N ps : List Str} {k : Nat} {sp : Sp} (F : Fun K x qual st f fd) (S : FnScope N ps (defScope st)) (len : ∀ vs H Q E,sp vs H Q E → vs.length = ps.length)
    (hbody : ∀ (cdv : Value) (A : Around) (outer : List Env) (s : Shared) (H : Hp) (vs : List V) (Q : VK) (E : XK),Room k (A.deeper (envOfC qual (defScope st) s.heap.objs.size f cdv)) → sp vs H Q E →
      ∃ t,PSs (cxOf CX0 P w K mg base N qual (defScope st) f cdv A outer s H E).nox (defBody st) t ∧ t { nx := fun _ H' => Q .non H',rt := Q } (start N vs) H) : FnOk P w K mg base CX0 (k + 1) f fd ps sp := by
  obtain ⟨oc,od,kV,doc,pm,an,cdv,ct,osl,rfl,lk,hcd⟩ := F.ex
  refine fn_of lk hcd S len fun A outer s H vs Q E hr hsp => ?_
  obtain ⟨t,h,q⟩ := hbody cdv A outer s H vs Q E hr hsp
  exact ⟨t,h.nox,q⟩
theorem Fun.binds {x qual : Str} {st : Stmt} {f : Addr} {fd : FuncData} {ps : List Str} (F : Fun K x qual st f fd)
    (h : ∀ (kV doc pm : Value) (an : Option Addr) (cdv ct : Value) (us : List Value),us.length = ps.length → bindArgs (PySem.W.fnOf x qual (defArgs st) (defBody st) (defScope st) .none kV doc pm an cdv ct) ⟨us,[]⟩ = pure (ps.zip us)) : Binds K fd ps [] := by
  obtain ⟨oc,od,kV,doc,pm,an,cdv,ct,osl,rfl,lk,hcd⟩ := F.ex
  exact .all (h kV doc pm an cdv ct)
theorem fun_mk {x qual : Str} {st : Stmt} {f : Addr} {oc : Value} {od an : Option Addr} {osl : Array (Option Value)} {kV doc pm cdv ct : Value} (l : K.lookup f = some ⟨oc,od,.func (PySem.W.fnOf x qual (defArgs st) (defBody st) (defScope st) .none kV doc pm an cdv ct),osl⟩)
    (c : PySem.W.codeIn K cdv qual = true) (k : PySem.W.keepIn K (.ref f) = true) : Fun K x qual st f (PySem.W.fnOf x qual (defArgs st) (defBody st) (defScope st) .none kV doc pm an cdv ct) := ⟨⟨oc,od,kV,doc,pm,an,cdv,ct,osl,rfl,l,c⟩,k⟩
end
section
variable {X : Cx}
theorem pv (i : Nat) {x : Str} {pos : Pos} (hN : X.N[i]? = some x := by rfl) (hv : Vis X.env.scope x := by first | exact Or.inl rfl | exact Or.inr (Or.inl rfl) | exact Or.inr (Or.inr rfl)) (hd : (x == ("__debug__" : Str)) = false := by decide)
    (hcd : (x == ("__classdict__" : Str)) = false := by decide) : PE X (.Name x pos) (tVar i) := pe_var hN hv hd hcd
end
theorem iteF {A B : Prop} (h : B) : if false = true then A else B := by
  rw [if_neg Bool.false_ne_true]
  exact h
theorem iteT {A B : Prop} (h : A) : if true = true then A else B := by
  rw [if_pos rfl]
  exact h
theorem ite2 {c A B : Prop} [Decidable c] (h1 : c → A) (h2 : ¬ c → B) : if c then A else B := by
  by_cases h : c
  · rw [if_pos h]
    exact h1 h
  · rw [if_neg h]
    exact h2 h
def Same (H H' : Hp) : Prop := ∀ b o,H b = some o → H' b = some o
theorem Same.refl (H : Hp) : Same H H := fun _ _ h => h
theorem Same.trans {H H1 H2 : Hp} (a : Same H H1) (b : Same H1 H2) : Same H H2 := fun c o h => b c o (a c o h)
theorem Same.free {H H' : Hp} (e : Same H H') {l : Addr} (h : H' l = Option.none) : H l = Option.none := by
  cases q : H l with
  | none => rfl
  | some o =>
    rw [e l o q] at h
    cases h
theorem Same.seq {K : PySem.W.Frag} {H H' : Hp} {a : Addr} {xs : List V} (e : Same H H') (h : SqL K H a xs) : SqL K H' a xs := by
  rcases h with (h | ⟨o,h⟩) | h
  · exact .inl (.inl (e _ _ h))
  · exact .inl (.inr ⟨o,e _ _ h⟩)
  · exact .inr h
end L2
namespace L2
open PySem PySem.Spec PyProof.Rows
section
variable {κ : Type} [DecidableEq κ]
end
theorem kV_is {P : Program} {w : World} {k : Key} {u : Value} (r : RelV (kV k) u) : (mixKind P w).is k u = true := by
  cases k with
  | inl i => obtain ⟨t,e⟩ := (show ∃ t,u = Value.int i t from r); subst e; exact mixKind_int P w i t
  | inr x => obtain ⟨t,e⟩ := (show ∃ t,u = Value.str x t from r); subst e; exact mixKind_str P w x t
section
variable {P : Program} {w : World} {H : Hp} {h : Heap} {a : Addr}
end
section
variable {X : Cx} {pins : List (Addr × Obj)} {σ : St} {H : Hp} {s : Shared} {a : Addr} {y v : V} {u r : Value} {o : Option V} {A : Around} {E : Value → Shared → Prop}
theorem Inv.big (I : Inv X pins σ H s) : sysModules < s.heap.objs.size := by
  have h : mainGlobals < s.heap.objs.size := (I.mod.glob.keeps I.bk).lt
  exact Nat.lt_trans (by decide) h
end
section
variable {X : Cx} {pins : List (Addr × Obj)} {σ : St} {H : Hp} {s : Shared} {a : Addr} {kvs : List (Key × V)} {k : Key} {u : Value} {A : Around} {E : Value → Shared → Prop}
end
section
variable {X : Cx} {o i e value : Expr} {pos pos' tpos : Pos} {td ty tv : TE}
end
theorem dk_empty {P : Program} {w : World} {H : Hp} (h : Heap) (hb : sysModules < h.objs.size) : ObjOk P w H (h.push { cls := .type "dict",data := .dict #[] }) h.objs.size (.dK []) :=
  ⟨Nat.zero_le _,beq_eq_false_iff_ne.mpr (Ne.symm (Nat.ne_of_lt hb)),[],.nil,Heap.DictOf.new h⟩
def tDNewK : TE := fun _ H Q => ∀ p,H p = none → Q (.ref p) (upd H p (.dK []))
section
variable {X : Cx} {pos : Pos}
theorem pe_dnewK : PE X (.Dict [] [] pos) tDNewK := fun pins s σ H Q I h =>
  wpAny_Dict_empty ⟨.ref s.heap.objs.size,_,I.laid (a := s.heap.objs.size) (o := .dK []) (t' := s.toks) (fun _ _ q => Heap.get?_push_of_some _ q) (Nat.le_refl _) (dk_empty s.heap I.big),rfl,h _ (I.hok.fresh (Nat.le_refl _))⟩
end
section
variable {X : Cx} {pins : List (Addr × Obj)} {σ : St} {H : Hp} {s : Shared} {a : Addr} {y d : V} {u r : Value} {o : Option V} {A : Around} {E : Value → Shared → Prop}
end
section
variable {X : Cx} {o e f : Expr} {apos cpos : Pos} {td ty tx : TE}
end
section
variable {X : Cx} {pins : List (Addr × Obj)} {σ : St} {H : Hp} {s : Shared} {a : Addr} {kvs : List (Key × V)} {A : Around} {E : Value → Shared → Prop}
end
section
variable {X : Cx} {pins : List (Addr × Obj)} {σ : St} {H : Hp} {s : Shared} {a : Addr} {y : V} {u : Value} {A : Around} {E : Value → Shared → Prop}
end
end L2
namespace L2
open PySem PySem.Spec PyProof.Rows
section
variable {X : Cx}
end
section
variable {κ : Type} [DecidableEq κ]
end
end L2
namespace L2
open PySem PySem.Spec PyProof.Rows
theorem HOk.track {P : Program} {w : World} {H : Hp} {h : Heap} {a : Addr} {o : HO} (ok : HOk P w H h) (n : H a = none) (new : ObjOk P w (upd H a o) h a o) : HOk P w (upd H a o) h := fun b u q => by
  by_cases hb : b = a
  · subst hb; rw [upd_same] at q; cases q; exact new
  · rw [upd_ne hb] at q
    exact (ok b u q).stay (fun _ _ _ r => r) (fun c r => by rw [upd_ne (ne_of_none r n)]; exact r) fun c xs r => by rw [upd_ne (ne_of_none r n)]; exact r
def Its (x : Str) : It := ⟨fun i _ => i < x.cps.size,fun i H v H' => H' = H ∧ ∃ c,x.cps[i]? = some c ∧ v = .str ⟨#[c]⟩,fun i _ => i = x.cps.size⟩
theorem turn_str {P : Program} {w : World} {K : PySem.W.Frag} {tg : Expr} (it : Addr) (x : Str) (t : Tok) (ty : String) (hty : ty = "str_ascii_iterator" ∨ ty = "str_iterator") :
    Turn P w K tg (Its x) [it] it (fun i h => h.IsStrIter it ty x t i) where
  mem := by simp
  obj := fun i h st b hb => by
    have e : b = it := by simpa using hb
    subst e
    obtain ⟨o,e,c,d⟩ := st
    exact ⟨o,e,fun v z => by rw [d] at z; cases z⟩
  keep := fun i h h' st k => let ⟨o,ho,r⟩ := st; ⟨o,k it (by simp) o ho,r⟩
  item := by
    intro X hP hw hK hc i pins s σ H E I hf st hg
    subst hP hw hK
    obtain ⟨f0,f1,f2,f3,f4,f5⟩ := hf it (by simp)
    have fin : ∀ (v : Value) (h' : Heap) (tk : Nat),SignAt x i v → h'.IsStrIter it ty x t (i + 1) → (∀ b o,b ∉ [it] → s.heap.get? b = some o → h'.get? b = some o) →
       ∃ u,some v = some u ∧ wpAny (model X.prog X.w) X.A (letOwnedTupleGo tg (.ref it) u) (fun _ s2 => ∃ x' H',Inv X pins σ H' s2 ∧ RelV x' u ∧ (Its x).yld i H x' H' ∧ s2.heap.IsStrIter it ty x t (i + 1) ∧ ∀ b ∈ [it],H' b = none) E { s with heap := h',toks := tk } := fun v h' tk hv st' kk => by
      obtain ⟨c,u,hcu,rfl⟩ := hv
      have I1 : Inv X pins σ H { s with heap := h',toks := tk } := I.turned (fun b o hb e => kk b o (by simpa using hb) e) f0 f1 f3 f4 f5
      obtain ⟨o,e,ec,ed⟩ := id st'
      refine ⟨_,rfl,go_of (s := { s with heap := h',toks := tk }) e ec ed ?_ ⟨.str ⟨#[c]⟩,H,I1,⟨_,rfl⟩,⟨rfl,c,hcu,rfl⟩,st',fun b hb => (hf b hb).1⟩⟩
      rcases hty with rfl | rfl <;> decide
    rcases hty with rfl | rfl
    · exact (Walks.strAscii (prog := X.prog) (w := X.w) (I.ok.hd hc) it x t).item i s _ _ hg st fin
    · exact (Walks.strWide (prog := X.prog) (w := X.w) (I.ok.hd hc) it x t).item i s _ _ hg st fin
  done := by
    intro X hP hw hK hc i pins s σ H E I hf st hg
    subst hP hw hK
    obtain ⟨f0,f1,f2,f3,f4,f5⟩ := hf it (by simp)
    have hg' : i = x.cps.size := hg
    subst hg'
    rcases hty with rfl | rfl
    · exact (Walks.strAscii (prog := X.prog) (w := X.w) (I.ok.hd hc) it x t).done s _ _ st fun h' tk kk => ⟨rfl,I.turned (fun b o hb e => kk b o (by simpa using hb) e) f0 f1 f3 f4 f5⟩
    · exact (Walks.strWide (prog := X.prog) (w := X.w) (I.ok.hd hc) it x t).done s _ _ st fun h' tk kk => ⟨rfl,I.turned (fun b o hb e => kk b o (by simpa using hb) e) f0 f1 f3 f4 f5⟩
  self := fun _ _ _ _ _ st h => by
    rcases hty with rfl | rfl
    · exact wpAny_pyIter_striter_ascii st h
    · exact wpAny_pyIter_striter_wide st h
def iStr (tl : TE) : TI := fun σ H R => tl σ H fun v H1 => ∃ x,v = .str x ∧ R (Its x) H1
theorem pi_str {X : Cx} {tg l : Expr} {tl : TE} (hl : PE X l tl) : PI X tg l (iStr tl) := by
  intro pins s σ H R I h
  refine thn (hl pins s σ H _ I h) fun v s1 ⟨y,H1,I1,r1,q1⟩ => ?_
  obtain ⟨x,rfl,q⟩ := q1
  obtain ⟨t,rfl⟩ := r1
  have fin : ∀ ty : String,(ty = "str_ascii_iterator" ∨ ty = "str_iterator") → PIE X pins σ tg R (.ref s1.heap.objs.size) { s1 with heap := s1.heap.push { cls := .type ty,data := .fields #[.str x t,.int 0 0] } } := fun ty hty =>
    ⟨s1.heap.objs.size,[s1.heap.objs.size],_,_,H1,rfl,I1.kept (t' := s1.toks) fun b o e => Heap.get?_push_of_some _ e,turn_str _ x t ty hty,⟨_,Heap.get?_push_size _ rfl,rfl,rfl⟩,fun b hb => by
      have e : b = s1.heap.objs.size := by simpa using hb
      subst e
      exact I1.fpOk (Nat.le_refl _) (I1.hok.fresh (Nat.le_refl _)),q⟩
  cases ha : x.cps.all (· < 128)
  · exact wpAny_pyIter_wide ha (fin _ (.inr rfl))
  · exact wpAny_pyIter_ascii ha (fin _ (.inl rfl))
structure Wk (J : It) (xs : List V) (P : Hp → Prop) : Prop where
  go : ∀ i H,i < xs.length → P H → J.go i H
  yld : ∀ i H x H',P H → J.yld i H x H' → H' = H ∧ (i < xs.length → xs[i]? = some x)
  stop : ∀ H,P H → J.stop xs.length H
theorem wk_list (K : PySem.W.Frag) (a : Addr) (xs : List V) : Wk (Itl K a) xs (fun H => SqL K H a xs) :=
  ⟨fun i H hi h => ⟨xs,xs[i],h,by simp [hi]⟩,fun i H x H' h y => ⟨y.1,fun _ => y.2 xs h⟩,fun H h => ⟨xs,h,Nat.le_refl _⟩⟩
theorem wk_tup (K : PySem.W.Frag) (a : Addr) (xs : List V) : Wk (Itt K a) xs (fun H => SqT K H a xs) :=
  ⟨fun i H hi h => ⟨xs,xs[i],h,by simp [hi]⟩,fun i H x H' h y => ⟨y.1,fun _ => y.2 xs h⟩,fun H h => ⟨xs,h,Nat.le_refl _⟩⟩
def signsV (x : Str) : List V := x.cps.toList.map fun c => V.str ⟨#[c]⟩
theorem signsV_length (x : Str) : (signsV x).length = x.cps.size := by simp [signsV]
theorem wk_str (x : Str) : Wk (Its x) (signsV x) (fun _ => True) :=
  ⟨fun i H hi _ => by rw [signsV_length] at hi; exact hi,fun i H v H' _ y => ⟨y.1,fun hi => by
    obtain ⟨c,hc,rfl⟩ := y.2
    unfold signsV
    rw [List.getElem?_map,Array.getElem?_toList,hc] <;> rfl⟩,fun H _ => signsV_length x⟩
def rangeV (lo : Int) (n : Nat) : List V := (List.range n).map fun (i : Nat) => V.int (lo + (i : Int))
theorem rangeV_length (lo : Int) (n : Nat) : (rangeV lo n).length = n := by simp [rangeV]
theorem wk_range (lo : Int) (n : Nat) : Wk (Itr lo n) (rangeV lo n) (fun _ => True) :=
  ⟨fun i H hi _ => by rw [rangeV_length] at hi; exact hi,fun i H v H' _ y => ⟨y.1,fun hi => by
    rw [rangeV_length] at hi
    obtain ⟨_,rfl⟩ := y
    unfold rangeV
    rw [List.getElem?_map,List.getElem?_range hi] <;> rfl⟩,fun H _ => by
    show n ≤ (rangeV lo n).length
    rw [rangeV_length]; exact Nat.le_refl _⟩
theorem for_wk {J : It} {xs : List V} {P : Hp → Prop} {g : TG} {tb : TS} {D : Ends} {σ : St} {H : Hp} (wk : Wk J xs P) (Pv : Nat → St → Hp → Prop) (h0 : Pv 0 σ H) (hl : ∀ i σ H,i ≤ xs.length → Pv i σ H → P H)
    (hs : ∀ i x σ H,xs[i]? = some x → Pv i σ H → g x σ H fun σ2 H2 => tb { D with nx := Pv (i + 1),ct := Pv (i + 1),bk := D.nx } σ2 H2) (hd : ∀ σ H,Pv xs.length σ H → D.nx σ H) :
    ∃ W : Nat → Nat → St → Hp → Prop,(∃ m,W 0 m σ H) ∧ ∀ i m σ H,W i m σ H →
      (J.stop i H ∧ D.nx σ H) ∨ (J.go i H ∧ ∃ N : St → Hp → Prop,(∀ σ' H',N σ' H' → ∃ m',m' < m ∧ W (i + 1) m' σ' H') ∧ ∀ x H',J.yld i H x H' → g x σ H' fun σ2 H2 => tb { D with nx := N,ct := N,bk := D.nx } σ2 H2) := by
  refine ⟨fun i m σ H => m = xs.length - i ∧ i ≤ xs.length ∧ Pv i σ H,⟨xs.length,by simp,Nat.zero_le _,h0⟩, ?_⟩
  rintro i m σ H ⟨rfl,hi,p⟩
  have q := hl i σ H hi p
  by_cases hlt : i < xs.length
  · refine .inr ⟨wk.go i H hlt q,Pv (i + 1),fun σ' H' p' => ⟨xs.length - (i + 1),by omega,rfl,hlt,p'⟩,fun x H' y => ?_⟩
    obtain ⟨e,y2⟩ := wk.yld i H x H' q y
    subst e
    exact hs i x σ _ (y2 hlt) p
  · have e : i = xs.length := by omega
    subst e
    exact .inl ⟨wk.stop H q,hd σ H p⟩
def closOf (scope : Scope) (env : Env) : List (Str × Addr) := ((scope.names.filter fun y => y.2 == .free).map fun y => (y.1,(env.cells.lookup y.1).getD 0)).reverse
theorem clos_go (env : Env) : ∀ (l : List (Str × NameKind)) (cs : List (Str × Addr)),(∀ y ∈ l,y.2 = .free → ∃ c,env.cells.lookup y.1 = some c) →
    (forIn l cs fun (x : Str × NameKind) (r : List (Str × Addr)) => if (x.2 == NameKind.free) = true then (cellOf env x.1 >>= fun c => pure (ForInStep.yield ((x.1,c) :: r)) : Sem (ForInStep (List (Str × Addr)))) else pure (ForInStep.yield r))
      = (pure (((l.filter fun y => y.2 == .free).map fun y => (y.1,(env.cells.lookup y.1).getD 0)).reverse ++ cs) : Sem (List (Str × Addr)))
  | [],cs,_ => by simp
  | y :: l,cs,h => by
    rw [List.forIn_cons]
    have ih := fun cs => clos_go env l cs fun z hz => h z (List.mem_cons_of_mem _ hz)
    by_cases hk : (y.2 == NameKind.free) = true
    · obtain ⟨c,hc⟩ := h y List.mem_cons_self (by simpa using hk)
      have ec : cellOf env y.1 = pure c := by unfold cellOf; rw [hc]
      rw [if_pos hk,ec]
      show (forIn l ((y.1,c) :: cs) _ : Sem _) = _
      rw [ih]
      rw [List.filter_cons_of_pos (by simpa using hk),List.map_cons,List.reverse_cons,hc]
      simp
    · rw [if_neg hk]
      show (forIn l cs _ : Sem _) = _
      rw [ih,List.filter_cons_of_neg (by simpa using hk)]
theorem closureFor_eq {scope : Scope} {env : Env} (h : ∀ y ∈ scope.names,y.2 = .free → ∃ c,env.cells.lookup y.1 = some c) : closureFor scope env = pure (closOf scope env) := by
  have e := clos_go env scope.names [] h
  rw [List.append_nil] at e
  unfold closureFor
  show (forIn scope.names [] _ >>= fun r => pure r : Sem _) = _
  exact (congrArg (fun t : Sem (List (Str × Addr)) => t >>= fun r => pure r) e).trans rfl
theorem mem_closOf {scope : Scope} {env : Env} {p : Str × Addr} (h : p ∈ closOf scope env) : ∃ y ∈ scope.names,y.2 = .free ∧ p = (y.1,(env.cells.lookup y.1).getD 0) := by
  unfold closOf at h
  rw [List.mem_reverse,List.mem_map] at h
  obtain ⟨y,hy,e⟩ := h
  rw [List.mem_filter] at hy
  exact ⟨y,hy.1,by simpa using hy.2,e.symm⟩
theorem lookup_closOf {scope : Scope} {env : Env} (h : ∀ y ∈ scope.names,y.2 = .free → ∃ c,env.cells.lookup y.1 = some c) {y : Str} {c : Addr} (e : (closOf scope env).lookup y = some c) : env.cells.lookup y = some c := by
  obtain ⟨z,hz,hf,q⟩ := mem_closOf (PySem.mem_of_lookup e)
  obtain ⟨d,hd⟩ := h z hz hf
  have q1 : y = z.1 := congrArg Prod.fst q
  have q2 : c = (env.cells.lookup z.1).getD 0 := congrArg Prod.snd q
  rw [hd] at q2
  rw [q1,hd,q2] <;> rfl
theorem has_closOf {scope : Scope} {env : Env} {y : Str} (e : (y,NameKind.free) ∈ scope.names) : ∃ c,(closOf scope env).lookup y = some c := by
  have m : (y,(env.cells.lookup y).getD 0) ∈ closOf scope env := by
    unfold closOf
    rw [List.mem_reverse,List.mem_map]
    exact ⟨(y,.free),List.mem_filter.mpr ⟨e,by rfl⟩,rfl⟩
  cases q : (closOf scope env).lookup y with
  | some c => exact ⟨c,rfl⟩
  | none =>
    rw [List.lookup_eq_none_iff] at q
    have := q _ m
    simp at this
theorem lookup_relabel_free {env : Env} (hk : env.scope.kind = .function) : ∀ {names : List (Str × NameKind)} {x : Str},names.lookup x = some .free → env.kindOf x = some .cell →
    (names.map fun (n,k) => if (k == NameKind.free && env.scope.kind == .function && env.kindOf n == some .cell) then (n,NameKind.cell) else (n,k)).lookup x = some .cell
  | [],_,h,_ => by simp at h
  | (n,k) :: r,x,h,hc => by
    have ih := @lookup_relabel_free env hk r x
    show List.lookup x ((if (k == NameKind.free && env.scope.kind == .function && env.kindOf n == some .cell) = true then (n,NameKind.cell) else (n,k)) :: _) = _
    cases hx : x == n with
    | true =>
      have hxn : x = n := by simpa using hx
      simp only [List.lookup_cons,hx] at h
      cases h
      rw [if_pos (by rw [hk,← hxn,hc]; rfl)]
      simp [List.lookup_cons,hx]
    | false =>
      simp only [List.lookup_cons,hx] at h
      by_cases hc' : (k == NameKind.free && env.scope.kind == .function && env.kindOf n == some .cell) = true
      · rw [if_pos hc']; simp only [List.lookup_cons,hx]; exact ih h hc
      · rw [if_neg hc']; simp only [List.lookup_cons,hx]; exact ih h hc
theorem relabel_back {env : Env} : ∀ {names : List (Str × NameKind)} {x : Str} {k : NameKind},
    (names.map fun (n,k) => if (k == NameKind.free && env.scope.kind == .function && env.kindOf n == some .cell) then (n,NameKind.cell) else (n,k)).lookup x = some k → (k = .cell ∨ k = .free) →
    (x,NameKind.free) ∈ names ∨ (x,NameKind.cell) ∈ names
  | [],_,_,h,_ => by simp at h
  | (n,k0) :: r,x,k,h,hk => by
    have ih := @relabel_back env r x k
    change List.lookup x ((if (k0 == NameKind.free && env.scope.kind == .function && env.kindOf n == some .cell) = true then (n,NameKind.cell) else (n,k0)) :: _) = _ at h
    cases hx : x == n with
    | true =>
      have hxn : x = n := by simpa using hx
      subst hxn
      by_cases hc' : (k0 == NameKind.free && env.scope.kind == .function && env.kindOf x == some .cell) = true
      · have : k0 = .free := by
          rw [Bool.and_eq_true,Bool.and_eq_true] at hc'
          simpa using hc'.1.1
        subst this
        exact .inl List.mem_cons_self
      · rw [if_neg hc'] at h
        simp only [List.lookup_cons,hx] at h
        cases h
        rcases hk with rfl | rfl
        · exact .inr List.mem_cons_self
        · exact .inl List.mem_cons_self
    | false =>
      have h' : (r.map fun (n,k) => if (k == NameKind.free && env.scope.kind == .function && env.kindOf n == some .cell) then (n,NameKind.cell) else (n,k)).lookup x = some k := by
        by_cases hc' : (k0 == NameKind.free && env.scope.kind == .function && env.kindOf n == some .cell) = true
        · rw [if_pos hc'] at h; simp only [List.lookup_cons,hx] at h; exact h
        · rw [if_neg hc'] at h; simp only [List.lookup_cons,hx] at h; exact h
      rcases ih h' hk with z | z
      · exact .inl (List.mem_cons_of_mem _ z)
      · exact .inr (List.mem_cons_of_mem _ z)
end L2
namespace L2
open PySem PySem.Spec PyProof.Rows
def cxComp (X : Cx) (scope : Scope) (N : List Str) (C : Addr) (s₀ : Shared) (H₀ : Hp) (ex : List Addr) : Cx where
  prog := X.prog
  w := X.w
  K := X.K
  mg := X.mg
  base := X.base
  A := X.A
  N := N
  s₀ := s₀
  H₀ := H₀
  env := compEnvC scope (closOf scope X.env) C X.env
  outer := X.stack
  stack := X.stack
  ex := ex
  fn := fun _ => false
  calm := X.calm
  pn := []
  xe := fun _ _ => False
def PTs (X : Cx) (ifs : List Expr) (t : TT) : Prop :=
  ∀ (pins : List (Addr × Obj)) (s : Shared) (σ : St) (H : Hp) (Q : Bool → Hp → Prop),Inv X pins σ H s → t σ H Q →
    wpAny (model X.prog X.w) X.A (forIn ifs true fun c r => if r = true then do let ok ← isTrue c X.env (eval c X.env); pure (ForInStep.yield ok) else pure (ForInStep.yield r)) (TP X pins σ Q) X.xe s
def tTrue : TT := fun _ H Q => Q true H
theorem pts_nil {X : Cx} : PTs X [] tTrue := fun _ _ _ H _ I h => wpAny_tests_nil ⟨H,I,h⟩
theorem pts_one {X : Cx} {c : Expr} {t : TT} (h : PT X c t) : PTs X [c] t := fun pins s σ H Q I q => wpAny_tests_one (h pins s σ H Q I q)
section
variable {prog : Program} {w : World} {A : Around} {R : Result → Shared → Prop} {s : Shared}
theorem comp_loop {elt target iter : Expr} {ifs : List Expr} {scope : Scope} {pos : Pos} {it acc : Value} {env : Env} (I : Nat → Shared → Prop)
    (turn : ∀ n s,I n s → wpAny (model prog w) A (pyNext it) (fun r s₁ => match r with
      | none => R (.ok .next) s₁
      | some v => wpAny (model prog w) A (letOwnedTupleGo target it v) (fun _ s₁' => wpAny (model prog w) A (assign target env v) (fun _ s₂ =>
          wpAny (model prog w) A (forIn ifs true fun c r => if r = true then do let ok ← isTrue c env (eval c env); pure (ForInStep.yield ok) else pure (ForInStep.yield r)) (fun ok s₃ =>
            if ok = true then wpAny (model prog w) A (eval elt env) (fun x s₄ =>
              wpAny (model prog w) A (call (.builtin "list.append") [acc,x]) (fun _ s₅ => ∃ m,m < n ∧ I m s₅) (notedBy (model prog w) A env fun e s' => R (.error e) s') s₄) (notedBy (model prog w) A env fun e s' => R (.error e) s') s₃
            else ∃ m,m < n ∧ I m s₃) (notedBy (model prog w) A env fun e s' => R (.error e) s') s₂) (notedBy (model prog w) A env fun e s' => R (.error e) s') s₁') (notedBy (model prog w) A env fun e s' => R (.error e) s') s₁) (notedBy (model prog w) A env fun e s' => R (.error e) s') s)
    (n : Nat) (h : I n s) :
    codeAny (model prog w) A (.compLoop (.ListComp elt [⟨target,iter,ifs,0⟩] scope pos) 0 it acc env) R s := by
  refine codeAny_loop rfl I (fun n s hI => ?_) n h
  show wpAny _ A ((compTurn (.ListComp elt [⟨target,iter,ifs,0⟩] scope pos) 0 it acc env).onRaise (fun x => do noteFrame x env; theTreesLotGoes x)) _ _ s
  refine wpAny_noted ?_
  rw [compTurn_list]
  refine wpAny_bind (wpAny_standAt (wpAny_bind (wpAny_mono (turn n s hI) (fun r s₁ h₁ => ?_) fun _ _ h' => h')))
  cases r with
  | none => exact wpAny_pure h₁
  | some v =>
    refine wpAny_bind (wpAny_mono h₁ (fun _ s₁' h₁' => ?_) fun _ _ h' => h')
    refine wpAny_bind (wpAny_mono h₁' (fun _ s₂ h₂ => wpAny_bind (wpAny_mono h₂ (fun ok s₃ h₃ => ?_) fun _ _ h' => h')) fun _ _ h' => h')
    cases ok with
    | false => exact wpAny_pure ⟨rfl,h₃⟩
    | true =>
      exact wpAny_bind (wpAny_bind (wpAny_mono h₃ (fun x s₄ h₄ => wpAny_bind (wpAny_mono h₄ (fun _ s₅ h₅ => wpAny_pure (wpAny_pure ⟨rfl,h₅⟩)) fun _ _ h' => h')) fun _ _ h' => h'))
end
def caps (σ : St) (js : List Nat) : St := js.map fun j => σ.getD j none
def tCompB (k : Nat) (js : List Nat) (g : TG) (tc : TT) (te : TE) (σ : St) (Q : VK) (J : It) (H1 : Hp) : Prop :=
  ∃ W : Nat → Nat → List V → Hp → Prop,(∃ m,W 0 m [] H1) ∧ ∀ i m ys H,W i m ys H →
    (J.stop i H ∧ ys.length ≤ sizeLine ∧ ∀ D,H D = none → Q (.ref D) (upd H D (.lst ys))) ∨
    (J.go i H ∧ ys.length < sizeLine ∧ ∀ x H',J.yld i H x H' → ∀ os : St,os.length = k → g x (os ++ caps σ js) H' fun σ2 H2 => (∃ os' : St,os'.length = k ∧ σ2 = os' ++ caps σ js) ∧
        tc σ2 H2 fun b H3 => if b = true then te σ2 H3 fun y H4 => ∃ m',m' < m ∧ W (i + 1) m' (ys ++ [y]) H4 else ∃ m',m' < m ∧ W (i + 1) m' ys H3)
def tComp (k : Nat) (js : List Nat) (wi : TI) (g : TG) (tc : TT) (te : TE) : TE := fun σ H Q => wi σ H (tCompB k js g tc te σ Q)
theorem caps_get {σ : St} {js : List Nat} {i : Nat} {v : V} (h : (caps σ js)[i]? = some (some v)) : ∃ j,js[i]? = some j ∧ σ[j]? = some (some v) := by
  unfold caps at h
  rw [List.getElem?_map] at h
  cases e : js[i]? with
  | none => rw [e] at h; cases h
  | some j =>
    rw [e] at h
    have h' : σ.getD j none = some v := Option.some.inj h
    refine ⟨j,rfl, ?_⟩
    rw [List.getD_eq_getElem?_getD] at h'
    cases q : σ[j]? with
    | none => rw [q] at h'; cases h'
    | some o => rw [q] at h'; exact congrArg some h'
set_option maxHeartbeats 1000000 in
theorem pe_comp {X : Cx} {elt iter tg : Expr} {pos : Pos} {ifs : List Expr} {scope : Scope} {wi : TI} {g : TG} {tc : TT} {te : TE} (own : List Str) (js : List Nat) (N' : List Str) (hc : X.calm = true)
    (hi : PI X tg iter wi)
    (hg : ∀ C s₀ H₀ ex,PG (cxComp X scope N' C s₀ H₀ ex) tg g)
    (ht : ∀ C s₀ H₀ ex,PTs (cxComp X scope N' C s₀ H₀ ex) ifs tc)
    (he : ∀ C s₀ H₀ ex,PE (cxComp X scope N' C s₀ H₀ ex) elt te)
    (hN' : N' = own ++ js.map fun j => X.N.getD j Str.empty := by rfl)
    (hk : scope.kind = .function := by rfl)
    (hcell : ∀ y ∈ scope.names,y.2 ≠ .cell := by decide +kernel)
    (hnames : ∀ y ∈ scope.names,y.2 = .local → scope.names.lookup y.1 = some .local := by decide +kernel)
    (hfr : (scope.names.all fun y => y.2 != .free || X.env.scope.names.lookup y.1 == some .cell) = true := by rfl)
    (hjs : (js.all fun j => scope.names.lookup (X.N.getD j Str.empty) == some .free && (X.N[j]?).isSome) = true := by rfl)
    (hs : ∀ z,foldedSetIterable iter X.env z = pure z := by intro _; rfl) :
    PE X (.ListComp elt [⟨tg,iter,ifs,0⟩] scope pos) (tComp own.length js wi g tc te) := by
  intro pins s σ H Q I h
  have free_cell : ∀ y ∈ scope.names,y.2 = .free → X.env.kindOf y.1 = some .cell := fun y hy hf => by
    have := List.all_eq_true.mp hfr y hy
    rw [hf] at this
    simp at this
    exact this
  have hcl : ∀ y ∈ scope.names,y.2 = .free → ∃ c,X.env.cells.lookup y.1 = some c := fun y hy hf => I.ok.has y.1 (.inl (free_cell y hy hf))
  rw [eval_ListComp]
  refine wpAny_comprehension_free (use := none) rfl hs (closureFor_eq hcl) hk hnames ?_
  refine thn (hi pins s σ H _ I h) fun v s1 h1 => thn h1 fun itv s2 h2 => ?_
  obtain ⟨it,fp,tn,J,H2,e,I2,T,st2,f2,W,⟨m0,w0⟩,turn⟩ := h2
  subst e
  refine wpAny_newObj_type (wpAny_newFunctionEnv hcell (by intro y hy; simp at hy) (fun h₁ hns₁ hsb₁ => ?_) hk)
  dsimp only at hns₁ hsb₁ ⊢
  generalize hG : s2.heap.push { cls := .type "list",dict := none,data := .seq ([] : List Value).toArray } = G at hns₁ hsb₁ ⊢
  have hC : G.objs.size = s2.heap.objs.size + 1 := by rw [← hG,Heap.size_push]
  have hDC : s2.heap.objs.size ≠ G.objs.size := by rw [hC]; exact Nat.ne_of_lt (Nat.lt_succ_self _)
  have below : ∀ b,b < s2.heap.objs.size → b ≠ G.objs.size ∧ b ≠ s2.heap.objs.size := fun b hb => ⟨by rw [hC]; exact Nat.ne_of_lt (Nat.lt_succ_of_lt hb),Nat.ne_of_lt hb⟩
  have old : ∀ b o,s2.heap.get? b = some o → h₁.get? b = some o := fun b o e => hsb₁.extBut b o (below b (Heap.lt_size e)).1 (Heap.get?_push_of_some _ (hG ▸ Heap.get?_push_of_some _ e))
  have hacc : h₁.get? s2.heap.objs.size = some { cls := .type "list",data := .seq ([] : List Value).toArray 0 } := hsb₁.extBut _ _ hDC (Heap.get?_push_of_some _ (hG ▸ Heap.get?_push_size _ rfl))
  have fplt : ∀ b ∈ fp,b < s2.heap.objs.size := fun b hb => let ⟨_,e,_⟩ := T.obj _ _ st2 b hb; Heap.lt_size e
  have ok' : (cxComp X scope N' G.objs.size s2 H2 fp).Ok := by
    refine ⟨I2.ok.mod,hk,I2.ok.glob,I2.ok.blt,by show s2.heap.objs.size ≤ G.objs.size; rw [hC]; exact Nat.le_succ _,fun x y c e1 e2 => I2.ok.inj x y c (lookup_closOf hcl e1) (lookup_closOf hcl e2),fun x hx => ?_,
      fun x c hx _ => (nomatch hx),I2.ok.hd,I2.ok.frames,.inl rfl,fun b hb => ⟨(below b (fplt b hb)).1,fun x c e => (f2 b hb).2.2.2.2.1 x c (lookup_closOf hcl e)⟩,I2.bs,Nat.le_trans I2.ok.bsz I2.sz,fun b o e hb => ?_,fun b hb z => ?_,I2.stack,I2.stkFree⟩
    · have hx' : (relabel scope X.env).names.lookup x = some .cell ∨ (relabel scope X.env).names.lookup x = some .free := hx
      have : (x,NameKind.free) ∈ scope.names ∨ (x,NameKind.cell) ∈ scope.names := by
        rcases hx' with z | z
        · exact relabel_back z (.inl rfl)
        · exact relabel_back z (.inr rfl)
      rcases this with z | z
      · exact has_closOf z
      · exact absurd rfl (hcell _ z)
    · rcases (f2 b hb).2.2.2.1 with z | z
      · exact I2.ok.noex b o e z
      · have h1 : b < X.base.objs.size := Heap.lt_size e
        exact absurd (Nat.lt_of_lt_of_le h1 (Nat.le_trans I2.ok.bsz z)) (Nat.lt_irrefl _)
    · rcases List.mem_cons.mp (I2.stkSub b z) with e | e
      · exact (f2 b hb).2.1 e
      · exact (f2 b hb).2.2.1 e
  have kindCap : ∀ i y,(js.map fun j => X.N.getD j Str.empty)[i]? = some y → ∃ j,js[i]? = some j ∧ X.N[j]? = some y ∧ scope.names.lookup y = some .free := fun i y e => by
    rw [List.getElem?_map] at e
    cases q : js[i]? with
    | none => rw [q] at e; cases e
    | some j =>
      rw [q] at e
      have e' : X.N.getD j Str.empty = y := Option.some.inj e
      have hj := List.all_eq_true.mp hjs j (List.mem_of_getElem? q)
      rw [Bool.and_eq_true] at hj
      obtain ⟨hj1,hj2⟩ := hj
      rw [e'] at hj1
      obtain ⟨z,hz⟩ := Option.isSome_iff_exists.mp hj2
      rw [List.getD_eq_getElem?_getD,hz] at e'
      exact ⟨j,q,by rw [hz]; exact congrArg some e',by simpa using hj1⟩
  have I0 : ∀ tk : Nat,Inv (cxComp X scope N' G.objs.size s2 H2 fp) [(s2.heap.objs.size,{ cls := .type "list",data := .seq ([] : List Value).toArray 0 })] (List.replicate own.length none ++ caps σ js) H2 { s2 with heap := h₁,toks := tk } := fun tk => by
    refine ⟨ok',rfl,I2.bare,Un.kept old,⟨_,hns₁,fun i y v e1 e2 e3 => ?_⟩,fun x c e => ?_,I2.hok.fresh (by show s2.heap.objs.size ≤ G.objs.size; rw [hC]; exact Nat.le_succ _),fun x c e => I2.freeC x c (lookup_closOf hcl e),fun p hp => ?_,I2.hok.kept old, ?_⟩
    · by_cases hlt : i < own.length
      · rw [List.getElem?_append_left (by simpa using hlt),List.getElem?_replicate] at e2
        split at e2 <;> cases e2
      · have e1' : N'[i]? = some y := e1
        rw [hN',List.getElem?_append_right (by omega)] at e1'
        rw [List.getElem?_append_right (by simpa using hlt),List.length_replicate] at e2
        obtain ⟨j,hj,hs2⟩ := caps_get e2
        obtain ⟨j',hj',hN,hfree⟩ := kindCap _ _ e1'
        rw [hj] at hj'; cases hj'
        obtain ⟨m,hm,hl⟩ := I2.loc
        have hcell' : X.env.kindOf y = some .cell := free_cell (y,.free) (PySem.mem_of_lookup hfree) rfl
        obtain ⟨u,r,l⟩ := hl j y v hN hs2 (.inr (.inl hcell'))
        refine ⟨u,r, ?_⟩
        rcases l with ⟨hk',_⟩ | ⟨hk',c,hc',z⟩
        · rw [hcell'] at hk'; cases hk'
        · obtain ⟨c',e'⟩ := has_closOf (env := X.env) (PySem.mem_of_lookup hfree)
          have := lookup_closOf hcl e'
          rw [hc'] at this; cases this
          refine .inr ⟨.inl (lookup_relabel_free I2.ok.kind hfree hcell'),c,e', ?_⟩
          obtain ⟨o,ho,hd⟩ := z
          exact ⟨o,old _ _ ho,hd⟩
    · obtain ⟨v,o,ho,hd⟩ := I2.cell x c (lookup_closOf hcl e)
      exact ⟨v,o,old _ _ ho,hd⟩
    · have hp' : p = (s2.heap.objs.size,{ cls := .type "list",data := .seq ([] : List Value).toArray 0 }) := by
        rcases List.mem_append.mp hp with z | z
        · exact absurd (show p ∈ ([] : List (Addr × Obj)) from z) (by simp)
        · simpa using z
      subst hp'
      refine ⟨hacc,I2.hok.fresh (Nat.le_refl _),hDC,fun z => ?_,fun v z => by cases z⟩
      exact absurd (show s2.heap.objs.size ∈ frs X.stack from z) fun z => by
        rcases List.mem_cons.mp (I2.stkSub _ z) with e | e
        · have := I2.lt
          rw [← e] at this
          exact Nat.lt_irrefl _ this
        · exact I2.nofs (Nat.le_refl _) e
    · show _ = N'.length
      rw [hN']
      simp [caps]
  have stat : ∀ {H' : Hp} {ob : Obj},(∀ b ∈ fp,H' b = none) → ∀ b ∈ fp,FpOk (cxComp X scope N' G.objs.size s2 H2 fp) [(s2.heap.objs.size,ob)] H' b := fun {H' ob} hn b hb =>
    ⟨hn b hb,(below b (fplt b hb)).1,fun z => ok'.exfs b hb z,.inl hb,fun x c e => (f2 b hb).2.2.2.2.1 x c (lookup_closOf hcl e),fun p hp => by
      have hp' : p = (s2.heap.objs.size,ob) := by
        rcases List.mem_append.mp hp with z | z
        · exact absurd (show p ∈ ([] : List (Addr × Obj)) from z) (by simp)
        · simpa using z
      subst hp'
      exact Ne.symm (below b (fplt b hb)).2⟩
  have loop : ∀ s₃ : Shared,s₃ = { s2 with heap := h₁,toks := s2.toks + ([] : List (Str × Value)).length } →
      codeAny (model X.prog X.w) X.A (.compLoop (.ListComp elt [⟨tg,iter,ifs,0⟩] scope pos) 0 (.ref it) (.ref s2.heap.objs.size) (compEnvC scope (closOf scope X.env) G.objs.size X.env))
        (compPost (model X.prog X.w) X.A X.xe none (EP X pins σ Q) (.ref s2.heap.objs.size) G.objs.size) s₃ := by
    rintro s₃ rfl
    refine comp_loop (fun n s' => ∃ (i : Nat) (os : St) (H' : Hp) (ys : List V) (its : List Value) (k : Nat),os.length = own.length ∧
      Inv (cxComp X scope N' G.objs.size s2 H2 fp) [(s2.heap.objs.size,{ cls := .type "list",data := .seq its.toArray k })] (os ++ caps σ js) H' s' ∧ tn i s'.heap ∧ (∀ b ∈ fp,H' b = none) ∧ Vals ys its ∧ W i n ys H') ?_ m0
      ⟨0,_,H2,[],[],0,by simp,I0 _,T.keep _ _ _ st2 fun b _ o e => old b o e,fun b hb => (f2 b hb).1,.nil,w0⟩
    rintro n s3 ⟨i,os,H3,ys,its,k,hos,I3,st3,fr3,rv3,w3⟩
    have pinD : ∀ {σ' : St} {H' : Hp} {s' : Shared},Inv (cxComp X scope N' G.objs.size s2 H2 fp) [(s2.heap.objs.size,{ cls := .type "list",data := .seq its.toArray k })] σ' H' s' → s'.heap.get? s2.heap.objs.size = some { cls := .type "list",data := .seq its.toArray k } ∧ H' s2.heap.objs.size = none :=
      fun I => let q := I.pin (s2.heap.objs.size,{ cls := .type "list",data := .seq its.toArray k }) (List.mem_append_right _ (by simp)); ⟨q.1,q.2.1⟩
    rcases turn i n ys H3 w3 with ⟨stop,hz,qn⟩ | ⟨go,hz,step⟩
    · refine thn (T.done (cxComp X scope N' G.objs.size s2 H2 fp) rfl rfl rfl hc i _ s3 _ H3 _ I3 (stat fr3) st3 stop) fun r s4 ⟨hr,I4⟩ => ?_
      subst hr
      obtain ⟨hD4,hn4⟩ := pinD I4
      obtain ⟨m,hm,_⟩ := I4.loc
      refine ⟨m,hm,fun h' hsb => ?_⟩
      have b4 := I4.base
      have nC : ∀ b o,s2.heap.get? b = some o → b ≠ G.objs.size := fun b o e => (below b (Heap.lt_size e)).1
      have nD : ∀ b o,s2.heap.get? b = some o → b ≠ s2.heap.objs.size := fun b o e => (below b (Heap.lt_size e)).2
      have hok' : HOk X.prog X.w H3 h' := fun b ob e => by
        refine (I4.hok b ob e).stay (fun c w' hc' q => (hsb.2 c ?_).trans q) (fun _ q => q) fun _ _ q => q
        rintro rfl
        rcases hc' with hc' | hc'
        · rw [← hc',show H3 G.objs.size = none from I4.free] at e; cases e
        · rw [show H3 G.objs.size = none from I4.free] at hc'; cases hc'
      have hD' : h'.get? s2.heap.objs.size = some { cls := .type "list",data := .seq its.toArray k } := (hsb.2 _ hDC).trans hD4
      refine ⟨.ref s2.heap.objs.size,upd H3 s2.heap.objs.size (.lst ys), ?_,rfl,qn _ hn4⟩
      refine I2.call' (ch := fp) I4.os ⟨fun b o e n hb hx => ?_,fun b o e n hb hx => ?_,fun b o e n hx => ?_,fun b o e hx => ?_,fun b xs q => ?_,fun b o u q => ?_,fun b ps q => ?_⟩ (hok'.track hn4 ⟨hz,its,k,rv3,hD'⟩) I4.bare fun b hb => ⟨(f2 b hb).2.2.2.1,(f2 b hb).2.1,(f2 b hb).2.2.2.2.1,(f2 b hb).2.2.2.2.2⟩
      · exact (hsb.2 b (nC b o e)).trans (b4.keep b o e n hb hx)
      · obtain ⟨sl,e1⟩ := b4.slot b o e n hb hx
        exact ⟨sl,(hsb.2 b (nC b o e)).trans e1⟩
      · rw [upd_ne (nD b o e)]; exact b4.free b o e n hx
      · obtain ⟨o',e1⟩ := b4.there b o e hx
        exact ⟨o',(hsb.2 b (nC b o e)).trans e1⟩
      · have z := b4.tups b xs q
        rw [upd_ne (ne_of_none z hn4)]; exact z
      · have z := b4.frzs b o u q
        rw [upd_ne (ne_of_none z hn4)]; exact z
      · obtain ⟨more,z⟩ := b4.tbls b ps q
        exact ⟨more,by rw [upd_ne (ne_of_none z hn4)]; exact z⟩
    · refine thn (T.item (cxComp X scope N' G.objs.size s2 H2 fp) rfl rfl rfl hc i _ s3 _ H3 _ I3 (stat fr3) st3 go) fun r s4 ⟨u,hr,h4⟩ => ?_
      subst hr
      refine thn h4 fun _ s5 ⟨x,H5,I5,r5,y5,st5,fr5⟩ => ?_
      have fpo := T.obj _ _ st5
      have I5' := I5.pinned (stat fr5) fpo
      refine wpAny_mono (hg _ _ _ _ _ s5 _ H5 x u _ I5' r5 (step x H5 y5 os hos)) (fun _ s6 ⟨σ6,H6,I6,⟨os',hos',e6⟩,q6⟩ => ?_) fun _ _ z => False.elim z
      subst e6
      refine wpAny_mono (ht _ _ _ _ _ s6 _ H6 _ I6 q6) (fun ok s7 ⟨H7,I7,q7⟩ => ?_) fun _ _ z => False.elim z
      have keepFp : ∀ {σ' : St} {H' : Hp} {s' : Shared},Inv (cxComp X scope N' G.objs.size s2 H2 fp) ([(s2.heap.objs.size,{ cls := .type "list",data := .seq its.toArray k })] ++ pinsAt fp s5.heap) σ' H' s' → tn (i + 1) s'.heap ∧ ∀ b ∈ fp,H' b = none := fun I => by
        refine ⟨T.keep _ _ _ st5 fun b hb o e => (I.pin (b,o) (List.mem_append_right _ (List.mem_append_right _ (mem_pinsAt hb e)))).1,fun b hb => ?_⟩
        obtain ⟨o,e,d⟩ := fpo b hb
        exact (I.pin (b,o) (List.mem_append_right _ (List.mem_append_right _ (mem_pinsAt hb e)))).2.1
      cases ok with
      | false =>
        obtain ⟨m',hm',w'⟩ := q7
        obtain ⟨k1,k2⟩ := keepFp I7
        exact ⟨m',hm',i + 1,os',H7,ys,its,k,hos',I7.unpinned,k1,k2,rv3,w'⟩
      | true =>
        rw [if_pos rfl]
        refine wpAny_mono (he _ _ _ _ _ s7 _ H7 _ I7 q7) (fun yv s8 ⟨y,H8,I8,r8,q8⟩ => ?_) fun _ _ z => False.elim z
        obtain ⟨m',hm',w'⟩ := q8
        obtain ⟨k1,k2⟩ := keepFp I8
        have I8' := I8.unpinned
        obtain ⟨hD8,hn8⟩ := pinD I8'
        have hil : its.length < sizeLine := by rw [← rv3.length]; exact hz
        refine call_meets F.slot_list_append ⟨_,hD8,rfl⟩ F.entry_list_append (F.args_list_append_2 _ _) (PySem.list_append _ its.toArray k yv (by rw [List.size_toArray]; omega)) ⟨hD8, ?_⟩
        have q : (s8.heap.update s2.heap.objs.size (Obj.mapSeq fun a => a.push yv)).get? s2.heap.objs.size = some { cls := .type "list",data := .seq (its ++ [yv]).toArray (if (its.toArray.push yv).size == its.toArray.size then k else k + 1) } := by
          have q0 := PySem.IsL.update hD8 (fun a : Array Value => a.push yv)
          have ea : its.toArray.push yv = (its ++ [yv]).toArray := by simp
          rw [← ea]
          exact q0
        refine ⟨m',hm',i + 1,os',H8,ys ++ [y],its ++ [yv],(if (its.toArray.push yv).size == its.toArray.size then k else k + 1),hos', ?_,T.keep _ _ _ k1 fun b hb o e => (Heap.get?_update_other s8.heap _ (below b (fplt b hb)).2.symm).trans e,k2,rv3.append (.cons r8 .nil),w'⟩
        have In : Inv (cxComp X scope N' G.objs.size s2 H2 fp) [] (os' ++ caps σ js) H8 s8 := I8'.pins_of fun p hp => absurd hp (by simp)
        have It : Inv (cxComp X scope N' G.objs.size s2 H2 fp) [] (os' ++ caps σ js) H8 { s8 with heap := s8.heap.update s2.heap.objs.size (Obj.mapSeq fun a => a.push yv) } :=
          In.turned (it := s2.heap.objs.size) (t' := s8.toks) (fun b o hb e => (Heap.get?_update_other s8.heap _ (Ne.symm hb)).trans e) hn8 hDC (.inr (Nat.le_refl _)) (fun x c e z => by
            obtain ⟨v,o,ho,hd⟩ := I8'.cell x c e
            rw [z,hD8] at ho
            cases ho
            cases hd) fun p hp => absurd hp (by simp [cxComp])
        refine It.pins_of fun p hp => ?_
        have hp' : p = (s2.heap.objs.size,{ cls := .type "list",data := .seq (its ++ [yv]).toArray (if (its.toArray.push yv).size == its.toArray.size then k else k + 1) }) := List.mem_singleton.mp hp
        subst hp'
        exact ⟨q,hn8,hDC,(I8'.pin _ (List.mem_append_right _ (List.mem_singleton.mpr rfl))).2.2.2.1,fun v z => by cases z⟩
  exact codeAny_compStart_list (loop _ rfl) (T.self _ 0 _ _ _ (T.keep _ _ _ st2 fun b _ o e => old b o e) (loop _ rfl))
end L2
namespace L2
open PySem PySem.Spec PyProof.Rows
section
variable {X : Cx}
theorem call_isi : CallR X (.builtin "isinstance") (fun xs H Q => ∃ x n t b,xs = [x,.ty n] ∧ TyOf X.K H x t ∧ PySem.W.kitOne X.K t (.type n) = some b ∧ Q (.bl b) H) := by
  intro pins s σ H xs us Q I r h
  obtain ⟨x,n,t,b,rfl,ty,e,q⟩ := h
  obtain ⟨u,c,rfl,rx,rc⟩ := r.two
  cases (show c = Value.type n from rc)
  exact isinst_ok I rx ty e fun tk => ⟨.bl b,H,I.tok tk,rfl,q⟩
theorem bools_are : ∀ {bs : List Bool} {us : List Value},Vals (bs.map V.bl) us → LSm.BoolsAre us bs
  | [],_,.nil => .nil
  | b :: bs,_,.cons r t => by
    cases r
    exact .cons b (bools_are t)
theorem call_all (hc : X.calm = true) : CallR X (.builtin "all") (fun xs H Q => ∃ (p : Addr) (bs : List Bool),xs = [.ref p] ∧ SqL X.K H p (bs.map V.bl) ∧ Q (.bl (bs.all id)) H) := by
  intro pins s σ H xs us Q I r h
  obtain ⟨p,bs,rfl,hq,q⟩ := h
  obtain ⟨u,rfl,rx⟩ := r.one
  cases rx
  obtain ⟨its,rv,pl,hz⟩ := I.list hq
  have hb := bools_are rv
  have hl := pl.isList
  have hlt : p < s.heap.objs.size := by obtain ⟨_,e,_⟩ := hl; exact Heap.lt_size e
  refine call_all_walk (wpAny_pyIter_list hl ?_)
  refine ⟨s.heap.objs.size,[s.heap.objs.size,p],[s.heap.objs.size],its.toArray.size,_,_,fun i => (bs[i]?).getD true,rfl,Walks.list (A := X.A.in1) (I.ok.hd hc) _ p (Nat.ne_of_lt hlt) its.toArray,
    ⟨⟨_,Heap.get?_push_size _ rfl,rfl,rfl⟩,hl.push _⟩,fun i v s' Q' E' hP hQ => ?_,fun h' tk hk => ?_⟩
  · obtain ⟨b,e,rfl⟩ := hb.get i v (by simpa using hP)
    simp only [e,Option.getD_some] at hQ
    exact wpAny_truthy_bool hQ
  · have e : ((List.range its.toArray.size).all fun i => (bs[i]?).getD true) = bs.all id := by
      rw [List.size_toArray,hb.length]; exact LSm.range_all bs
    rw [e]
    exact ⟨.bl _,H,I.kept (LSm.kept_iter hk),rfl,q⟩
theorem strsFrom_vals : ∀ (ys : List Str) (k : Nat),Vals (ys.map V.str) (strsFrom k ys)
  | [],_ => .nil
  | _ :: r,k => .cons ⟨k,rfl⟩ (strsFrom_vals r (k + 1))
def rSplit : V → List V → Hp → VK → Prop := fun x vs H Q => ∃ z y,x = .str z ∧ vs = [.str y] ∧ (y.length == 0) = false ∧ z.length + 2 ≤ sizeLine ∧ ∀ p,H p = none → Q (.ref p) (upd H p (.lst ((Txt.split z y).map V.str)))
theorem mt_split : MtR X "str.split" rSplit := by
  intro pins s σ H x vs v us Q I rx rv h
  obtain ⟨z,y,rfl,rfl,hy,hz,q⟩ := h
  obtain ⟨t,rfl⟩ := rx
  obtain ⟨u,rfl,t',rfl⟩ := rv.one
  have fin : ∀ (ys : List Str) (its : List Value) (tk : Nat),Vals (ys.map V.str) its → ys.length ≤ sizeLine → Txt.split z y = ys → EP X pins σ Q (.ref s.heap.objs.size) { s with heap := s.heap.push { cls := .type "list",data := .seq its.toArray },toks := tk } := fun ys its tk r hl e =>
    ⟨.ref s.heap.objs.size,_,I.lnew r (by rw [List.length_map]; exact hl),rfl,by rw [← e]; exact q _ I.fresh⟩
  by_cases h1 : (decide (z.length < y.length) || decide (Builtin.Str.strKind z < Builtin.Str.strKind y)) = true
  · refine call_meets F.slot_str_split (typeIs_str _ _ _) F.entry_str_split (F.args_str_split_2 _ _) (meets_str_split_cannot_occur z y t t' h1) ?_
    exact fin [z] [.str z t] s.toks (.cons ⟨t,rfl⟩ .nil) (by show 1 ≤ sizeLine; decide) (by unfold Txt.split; rw [if_pos h1])
  · have h1' : (decide (z.length < y.length) || decide (Builtin.Str.strKind z < Builtin.Str.strKind y)) = false := by simpa using h1
    by_cases hf : (Builtin.Str.occurrences z y 0 z.length (z.length + 1)).isEmpty = true
    · refine call_meets F.slot_str_split (typeIs_str _ _ _) F.entry_str_split (F.args_str_split_2 _ _) (meets_str_split_not_found z y t t' h1' hy hf) ?_
      exact fin [z] [.str z t] s.toks (.cons ⟨t,rfl⟩ .nil) (by show 1 ≤ sizeLine; decide) (by unfold Txt.split; rw [if_neg h1,if_pos hf])
    · have hf' : (Builtin.Str.occurrences z y 0 z.length (z.length + 1)).isEmpty = false := by simpa using hf
      have hn : (Builtin.Str.partsBetween z (Builtin.Str.occurrences z y 0 z.length (z.length + 1)) y.length).length ≤ sizeLine := by
        rw [PySem.length_partsBetween]
        have := PySem.StrLaws.occ_length_le z y 0 z.length (z.length + 1)
        omega
      refine call_meets F.slot_str_split (typeIs_str _ _ _) F.entry_str_split (F.args_str_split_2 _ _) (meets_str_split_sep z y t t' h1' hy hf' (by omega) hn) ?_
      exact fin _ _ _ (strsFrom_vals _ _) hn (by unfold Txt.split; rw [if_neg h1,if_neg hf])
theorem strs_are : ∀ {ys : List Str} {us : List Value},Vals (ys.map V.str) us → StrsAre us ys
  | [],_,.nil => .nil
  | y :: ys,_,.cons r t => by
    obtain ⟨k,rfl⟩ := r
    exact .cons y k (strs_are t)
def rJoin (K : PySem.W.Frag) : V → List V → Hp → VK → Prop := fun x vs H Q => ∃ z p ys,x = .str z ∧ vs = [.ref p] ∧ SqL K H p (ys.map V.str) ∧ (ys.map (·.length)).sum + ys.length * z.length ≤ 16777216 ∧ Q (.str (Txt.join z ys)) H
theorem mt_join : MtR X "str.join" (rJoin X.K) := by
  intro pins s σ H x vs v us Q I rx rv h
  obtain ⟨z,p,ys,rfl,rfl,hq,hz,q⟩ := h
  obtain ⟨t,rfl⟩ := rx
  obtain ⟨u,rfl,ru⟩ := rv.one
  cases ru
  obtain ⟨its,r,pl,_⟩ := I.list hq
  exact join_list pl.isList (strs_are r) hz fun t' k => ⟨.str _,H,I.tok k,⟨t',rfl⟩,q⟩
theorem mt_index : MtR X "str.index" (fun x vs H Q => ∃ z y i rest,x = .str z ∧ vs = [.str y] ∧ Builtin.Str.occurrences z y 0 z.length 1 = i :: rest ∧ Q (.int (i : Nat)) H) := by
  intro pins s σ H x vs v us Q I rx rv h
  obtain ⟨z,y,i,rest,rfl,rfl,ho,q⟩ := h
  obtain ⟨t,rfl⟩ := rx
  obtain ⟨u,rfl,t',rfl⟩ := rv.one
  exact SC.index ho ⟨.int _,H,I.tok _,⟨_,rfl⟩,q⟩
def rSlS : V → Option Int → Option Int → Hp → VK → Prop := fun x lo hi H Q => ∃ z,x = .str z ∧ z.length ≤ sizeLine ∧ Q (.str (Txt.slice z lo hi)) H
theorem sl_str : SlR X rSlS := by
  intro pins s σ H x v vl vu lo hi sl Q I rx hs pl pu h
  obtain ⟨z,rfl,hz,q⟩ := h
  obtain ⟨t,rfl⟩ := rx
  have fin : ∀ t' k,EP X pins σ Q (.str (Txt.slice z lo hi) t') { s with toks := k } := fun t' k => ⟨.str _,H,I.tok k,⟨t',rfl⟩,q⟩
  refine ⟨"str",_,F.slot_str_getitem.lookup,typeIs_str _ _ _, ?_⟩
  cases pl with
  | none =>
    cases pu with
    | none => exact wpAny_getItem_str_slice (l := none) (u := none) (st := none) hs rfl (post_val_or_str ⟨Nat.le_trans (Txt.slice_le z _ _) hz,fin⟩)
    | int j uj => exact wpAny_getItem_str_slice (l := none) (u := some (j,uj)) (st := none) hs rfl (post_val_or_str ⟨Nat.le_trans (Txt.slice_le z _ _) hz,fin⟩)
  | int i ui =>
    cases pu with
    | none => exact wpAny_getItem_str_slice (l := some (i,ui)) (u := none) (st := none) hs rfl (post_val_or_str ⟨Nat.le_trans (Txt.slice_le z _ _) hz,fin⟩)
    | int j uj => exact wpAny_getItem_str_slice (l := some (i,ui)) (u := some (j,uj)) (st := none) hs rfl (post_val_or_str ⟨Nat.le_trans (Txt.slice_le z _ _) hz,fin⟩)
theorem call_int_str : CallR X (.type "int") (fun xs H Q => ∃ z n,xs = [.str z] ∧ PySem.intText? z = some n ∧ z.length ≤ 640 ∧ Q (.int n) H) := by
  intro pins s σ H xs us Q I r h
  obtain ⟨z,n,rfl,hn,hl,q⟩ := h
  obtain ⟨u,rfl,t,rfl⟩ := r.one
  exact PySem.W.KIN.call_text hn hl ⟨.int n,H,I.tok _,⟨_,rfl⟩,q⟩
def eqL : List V → List V → Bool
  | [],[] => true
  | x :: xs,y :: ys => eqV x y && eqL xs ys
  | _,_ => false
theorem eqL_len : ∀ {xs ys : List V},xs.length ≠ ys.length → eqL xs ys = false
  | [],[],h => absurd rfl h
  | [],_ :: _,_ => rfl
  | _ :: _,[],_ => rfl
  | x :: xs,y :: ys,h => by
    unfold eqL
    rw [eqL_len (fun e => h (by simp [e])),Bool.and_false]
theorem eqL_range : ∀ {xs ys : List V},xs.length = ys.length → ((List.range xs.length).all fun j => eqV (xs.getD j .non) (ys.getD j .non)) = eqL xs ys
  | [],[],_ => rfl
  | [],_ :: _,h => by simp at h
  | _ :: _,[],h => by simp at h
  | x :: xs,y :: ys,h => by
    have ih := eqL_range (xs := xs) (ys := ys) (by simpa using h)
    unfold eqL
    rw [← ih,List.length_cons,List.range_succ_eq_map,List.all_cons,List.all_map]
    rfl
theorem eqAt_items {A : Around} {s : Shared} : ∀ {xs ys : List V} {us ws : List Value},Vals xs us → Vals ys ws → xs.all flatV = true → ys.all flatV = true →
    ∀ j (h1 : j < us.toArray.size) (h2 : j < ws.toArray.size),SeqAt.EqAt A s us.toArray[j] ws.toArray[j] (eqV (xs.getD j .non) (ys.getD j .non))
  | _,_,_,_,.nil,_,_,_ => fun j h1 _ => by simp at h1
  | _,_,_,_,.cons _ _,.nil,_,_ => fun j _ h2 => by simp at h2
  | x :: xs,y :: ys,u :: us,w :: ws,.cons r t,.cons r' t',f,f' => fun j h1 h2 => by
    rw [List.all_cons,Bool.and_eq_true] at f f'
    cases j with
    | zero => exact eqAt_V r r' f.1 f'.1
    | succ j =>
      have := eqAt_items (A := A) (s := s) t t' f.2 f'.2 j (by simpa using h1) (by simpa using h2)
      simpa using this
def rEqL (K : PySem.W.Frag) (neg : Bool) : R2 := fun x y H Q => ∃ a b xs ys,x = .ref a ∧ y = .ref b ∧ SqL K H a xs ∧ SqL K H b ys ∧ xs.all flatV = true ∧ ys.all flatV = true ∧ Q (.bl (if neg then !eqL xs ys else eqL xs ys)) H
theorem op_eqL (hu : X.A.units < cLine) : OpR X (compareOp .Eq) (rEqL X.K false) := by
  intro pins s σ H x y v u Q I rx ry h
  obtain ⟨a,b,xs,ys,rfl,rfl,ha,hb,fx,fy,q⟩ := h
  cases rx
  cases ry
  obtain ⟨its,r1,p1,_⟩ := I.list ha
  obtain ⟨its2,r2,p2,_⟩ := I.list hb
  have l1 := r1.length
  have l2 := r2.length
  by_cases hl : xs.length = ys.length
  · refine SeqAt.eq_listAt p1.isList p2.isList (by simp only [List.size_toArray]; omega) hu (eqAt_items r1 r2 fx fy) ⟨.bl _,H,I, ?_,q⟩
    rw [List.size_toArray,← l1,eqL_range hl]
    rfl
  · refine SeqAt.eq_list_lengthsAt p1.isList p2.isList (by simp only [List.size_toArray]; simp; omega) hu ⟨.bl _,H,I, ?_,q⟩
    rw [eqL_len hl]
    rfl
theorem op_neL (hu : X.A.units < cLine) : OpR X (compareOp .NotEq) (rEqL X.K true) := by
  intro pins s σ H x y v u Q I rx ry h
  obtain ⟨a,b,xs,ys,rfl,rfl,ha,hb,fx,fy,q⟩ := h
  cases rx
  cases ry
  obtain ⟨its,r1,p1,_⟩ := I.list ha
  obtain ⟨its2,r2,p2,_⟩ := I.list hb
  have l1 := r1.length
  have l2 := r2.length
  by_cases hl : xs.length = ys.length
  · refine EqBoolInt.of_rcne (SeqAt.RcNeAt.lists p1.isList p2.isList (by simp only [List.size_toArray]; omega) hu (eqAt_items r1 r2 fx fy)) ⟨.bl _,H,I, ?_,q⟩
    rw [List.size_toArray,← l1,eqL_range hl]
    rfl
  · refine EqBoolInt.of_rcne (SeqAt.RcNeAt.lists_lengths p1.isList p2.isList (by simp only [List.size_toArray]; simp; omega) hu) ⟨.bl _,H,I, ?_,q⟩
    rw [eqL_len hl]
    rfl
theorem eqV_refl : ∀ {x : V},flatV x = true → eqV x x = true
  | .non,_ => rfl
  | .bl b,_ => by cases b <;> rfl
  | .int i,_ => by show (i == i) = true; simp
  | .str x,_ => by show (x == x) = true; simp
theorem eqL_refl : ∀ {xs : List V},xs.all flatV = true → eqL xs xs = true
  | [],_ => rfl
  | x :: xs,h => by
    rw [List.all_cons,Bool.and_eq_true] at h
    unfold eqL
    rw [eqV_refl h.1,eqL_refl h.2]
    rfl
theorem eqL_strs : ∀ {xs ys : List Str},eqL (xs.map V.str) (ys.map V.str) = decide (xs = ys)
  | [],[] => rfl
  | [],_ :: _ => rfl
  | _ :: _,[] => rfl
  | x :: xs,y :: ys => by
    show ((x == y) && eqL (xs.map V.str) (ys.map V.str)) = _
    rw [eqL_strs]
    by_cases h1 : x = y
    · subst h1
      by_cases h2 : xs = ys
      · subst h2; simp
      · simp [h2]
    · simp [h1]
theorem flat_strs (ys : List Str) : (ys.map V.str).all flatV = true := by
  rw [List.all_map,List.all_eq_true]
  intro _ _
  rfl
theorem flat_ints (ns : List Int) : (ns.map V.int).all flatV = true := by
  rw [List.all_map,List.all_eq_true]
  intro _ _
  rfl
end
end L2
namespace L2
open PySem PySem.Spec PyProof.Rows
structure Def (K : PySem.W.Frag) (mg : Str → Option Value) (x : Str) (st : Stmt) (ps : List Str) : Prop where
  ex : ∃ f fd,Fun K x x st f fd ∧ mg x = some (.ref f) ∧ Binds K fd ps []
def Knows (P : Program) (w : World) (K : PySem.W.Frag) (mg : Str → Option Value) (base : Heap) (k : Nat) (x : Str) (ps : List Str) (sp : Sp) : Prop :=
  ∃ f fd,mg x = some (.ref f) ∧ PySem.W.keepIn K (.ref f) = true ∧ Binds K fd ps [] ∧ FnOk P w K mg base CX0 k f fd ps sp
section
variable {P : Program} {w : World} {K : PySem.W.Frag} {mg : Str → Option Value} {base : Heap}
theorem Def.ok {x : Str} {st : Stmt} {N ps : List Str} {k : Nat} {sp : Sp} (D : Def K mg x st ps) (S : FnScope N ps (defScope st)) (len : ∀ vs H Q E,sp vs H Q E → vs.length = ps.length)
    (hbody : ∀ (f : Addr) (cdv : Value) (A : Around) (outer : List Env) (s : Shared) (H : Hp) (vs : List V) (Q : VK) (E : XK),Room k (A.deeper (envOfC x (defScope st) s.heap.objs.size f cdv)) → sp vs H Q E →
      ∃ t,PSs (cxOf CX0 P w K mg base N x (defScope st) f cdv A outer s H E).nox (defBody st) t ∧ t { nx := fun _ H' => Q .non H',rt := Q } (start N vs) H) : Knows P w K mg base (k + 1) x ps sp := by
  obtain ⟨f,fd,F,hm,hb⟩ := D.ex
  exact ⟨f,fd,hm,F.kp,hb,F.ok S len fun cdv A outer s H vs Q E hr h => hbody f cdv A outer s H vs Q E hr h⟩
end
section
variable {X : Cx} {x : Str} {ps : List Str} {sp : Sp} {k : Nat} {e : Expr} {es : List Expr} {t : TA} {p pos : Pos}
theorem pe_callN (F : Knows X.prog X.w X.K X.mg X.base k x ps sp) (hr : Room k X.A) (ha : PA X (e :: es) t) (hg : Gl X x := by rfl) (hdb : (x == ("__debug__" : Str)) = false := by decide)
    (he : starEach (e :: es) X.env = (false,eval e X.env) :: starEach es X.env := by rfl) (hpl : (backTo pos (starEach es X.env)).any (·.1) = false := by rfl) : PE X (.Call (.Name x p) (e :: es) [] pos) (tCall sp [] E0 t) := by
  obtain ⟨f,fd,hm,hk,hb,F⟩ := F
  exact pe_call F hr hg hm hk hb .nil pass0 ha hdb he hpl
end
structure Bltn (mg : Str → Option Value) : Prop where
  isi : mg "isinstance" = none
  len : mg "len" = none
  all : mg "all" = none
  int : mg "int" = none
  bool : mg "bool" = none
  str : mg "str" = none
  list : mg "list" = none
  range : mg "range" = none
def rIsi (K : PySem.W.Frag) (n : String) : List V → Hp → VK → Prop := fun xs H Q => ∃ x t b,xs = [x,.ty n] ∧ TyOf K H x t ∧ PySem.W.kitOne K t (.type n) = some b ∧ Q (.bl b) H
section
variable {X : Cx} {a : Expr} {ta : TE} {p pos p2 : Pos}
theorem call_isiN (n : String) : CallR X (.builtin "isinstance") (rIsi X.K n) := by
  intro pins s σ H xs us Q I r h
  obtain ⟨x,t,b,rfl,ty,e,q⟩ := h
  exact call_isi pins s σ H _ us Q I r ⟨x,n,t,b,rfl,ty,e,q⟩
theorem pe_isi {T : Str} {n : String} (h : X.mg "isinstance" = none) (hT : X.mg T = none) (hv : bootBuiltins T = some (.type n)) (ha : PE X a ta) (hg : Gl X "isinstance" := by rfl) (hg2 : Gl X T := by rfl)
    (hn : T ≠ "__name__" := by decide) (hd : (T == ("__debug__" : Str)) = false := by decide)
    (he : starEach [a,.Name T p2] X.env = (false,eval a X.env) :: starEach [.Name T p2] X.env := by rfl) (he2 : starEach [.Name T p2] X.env = (false,eval (.Name T p2) X.env) :: starEach [] X.env := by rfl) (hpl : (backTo pos (starEach [.Name T p2] X.env)).any (·.1) = false := by rfl) :
    PE X (.Call (.Name "isinstance" p) [a,.Name T p2] [] pos) (tCB (rIsi X.K n) (tCons ta (tCons (tC (.ty n)) tNil))) :=
  pe_callB (call_isiN n) hg h boot_isinstance (pa_cons ha (pa_cons (pe_bltn (v := .ty n) hg2 hT hv rfl hn hd) pa_nil he2) he) (by decide) (by decide) he hpl
end
def isI : V → Bool
  | .int _ => true
  | _ => false
def isIB : V → Bool
  | .int _ => true
  | .bl _ => true
  | _ => false
def isBl : V → Bool
  | .bl _ => true
  | _ => false
def isS : V → Bool
  | .str _ => true
  | _ => false
theorem isiI {K : PySem.W.Frag} {H : Hp} {x : V} {m : String} (ty : TyOf K H x (.type m)) : PySem.W.kitOne K (.type m) (.type "int") = some (isIB x) := by
  cases ty <;> kernel_rfl
theorem isiB {K : PySem.W.Frag} {H : Hp} {x : V} {m : String} (ty : TyOf K H x (.type m)) : PySem.W.kitOne K (.type m) (.type "bool") = some (isBl x) := by
  cases ty <;> kernel_rfl
theorem isiS {K : PySem.W.Frag} {H : Hp} {x : V} {m : String} (ty : TyOf K H x (.type m)) : PySem.W.kitOne K (.type m) (.type "str") = some (isS x) := by
  cases ty <;> kernel_rfl
theorem pe_comp1 {X : Cx} {elt iter : Expr} {x : Str} {px pos : Pos} {ifs : List Expr} {scope : Scope} {wi : TI} {tc : TT} {te : TE} (js : List Nat) (N' : List Str) (hc : X.calm = true)
    (hi : PI X (.Name x px) iter wi)
    (ht : ∀ C s₀ H₀ ex,PTs (cxComp X scope N' C s₀ H₀ ex) ifs tc)
    (he : ∀ C s₀ H₀ ex,PE (cxComp X scope N' C s₀ H₀ ex) elt te)
    (nd : N'.Nodup := by decide +kernel)
    (hx : scope.names.lookup x = some .local := by rfl)
    (hN' : N' = [x] ++ js.map fun j => X.N.getD j Str.empty := by rfl)
    (hk : scope.kind = .function := by rfl)
    (hcell : ∀ y ∈ scope.names,y.2 ≠ .cell := by decide +kernel)
    (hnames : ∀ y ∈ scope.names,y.2 = .local → scope.names.lookup y.1 = some .local := by decide +kernel)
    (hfr : (scope.names.all fun y => y.2 != .free || X.env.scope.names.lookup y.1 == some .cell) = true := by rfl)
    (hjs : (js.all fun j => scope.names.lookup (X.N.getD j Str.empty) == some .free && (X.N[j]?).isSome) = true := by rfl)
    (hs : ∀ z,foldedSetIterable iter X.env z = pure z := by intro _; rfl) :
    PE X (.ListComp elt [⟨.Name x px,iter,ifs,0⟩] scope pos) (tComp 1 js wi (gName 0) tc te) :=
  pe_comp [x] js N' hc hi (fun C s₀ H₀ ex => pg_name (X := cxComp X scope N' C s₀ H₀ ex) (i := 0) nd (by show N'[0]? = some x; rw [hN']; rfl) (Or.inl (lookup_relabel_local hx)) (.inr (lookup_relabel_local hx))) ht he hN' hk hcell hnames hfr hjs hs
theorem comp1_wk {js : List Nat} {J : It} {xs : List V} {Pp : Hp → Prop} {σ : St} {H1 : Hp} {tc : TT} {te : TE} {Q : VK} (wk : Wk J xs Pp) (Pv : Nat → List V → Hp → Prop) (h0 : Pv 0 [] H1) (hP : ∀ i ys H,i ≤ xs.length → Pv i ys H → Pp H ∧ ys.length ≤ i) (hsz : xs.length ≤ sizeLine)
    (hs : ∀ i x ys H (Nx : List V → Hp → Prop),xs[i]? = some x → Pv i ys H → (∀ ys' H',Pv (i + 1) ys' H' → Nx ys' H') → tc (some x :: caps σ js) H fun b H3 => if b = true then te (some x :: caps σ js) H3 fun y H4 => Nx (ys ++ [y]) H4 else Nx ys H3)
    (hd : ∀ ys H,Pv xs.length ys H → ∀ D,H D = none → Q (.ref D) (upd H D (.lst ys))) :
    tCompB 1 js (gName 0) tc te σ Q J H1 := by
  refine ⟨fun i m ys H => m = xs.length - i ∧ i ≤ xs.length ∧ Pv i ys H,⟨xs.length,by simp,Nat.zero_le _,h0⟩, ?_⟩
  rintro i m ys H ⟨rfl,hi,p⟩
  obtain ⟨q,hl⟩ := hP i ys H hi p
  by_cases hlt : i < xs.length
  · refine .inr ⟨wk.go i H hlt q,by omega,fun x H' y os hos => ?_⟩
    obtain ⟨e,y2⟩ := wk.yld i H x H' q y
    subst e
    match os,hos with
    | [v0],_ =>
      exact ⟨⟨[some x],rfl,rfl⟩,hs i x ys _ (fun ys' H' => ∃ m',m' < xs.length - i ∧ m' = xs.length - (i + 1) ∧ i + 1 ≤ xs.length ∧ Pv (i + 1) ys' H') (y2 hlt) p fun ys' H' p' => ⟨xs.length - (i + 1),by omega,rfl,hlt,p'⟩⟩
  · have e : i = xs.length := by omega
    subst e
    exact .inl ⟨wk.stop H q,by omega,hd ys H p⟩
theorem tTrue_use {σ : St} {H : Hp} {A B : Hp → Prop} (h : A H) : tTrue σ H fun b H3 => if b = true then A H3 else B H3 := by
  show if true = true then A H else B H
  exact iteT h
end L2
namespace L2
open PySem PySem.Spec PyProof.Rows
def notStar : Expr → Bool
  | .Starred _ _ => false
  | _ => true
theorem star_cons {e : Expr} {es : List Expr} {env : Env} (h : notStar e = true) : starEach (e :: es) env = (false,eval e env) :: starEach es env := by
  cases e <;> first | rfl | (exact absurd (show false = true from h) Bool.false_ne_true)
theorem star_none {pos : Pos} {env : Env} : ∀ {es : List Expr},es.all notStar = true → (backTo pos (starEach es env)).any (·.1) = false
  | [],_ => rfl
  | e :: es,h => by
    rw [List.all_cons,Bool.and_eq_true] at h
    rw [star_cons h.1]
    show (false || (backTo pos (starEach es env)).any (·.1)) = false
    rw [star_none h.2]
    rfl
section
variable {X : Cx} {x : Str} {ps : List Str} {sp : Sp} {j k : Nat} {e : Expr} {es : List Expr} {te : TE} {t : TA} {p pos : Pos} {id T : String} {r : List V → Hp → VK → Prop}
theorem pa_c (ha : PE X e te) (hr : PA X es t) (hn : notStar e = true := by rfl) : PA X (e :: es) (tCons te t) := pa_cons ha hr (star_cons hn)
theorem pe_callM (F : Knows X.prog X.w X.K X.mg X.base j x ps sp) (hr : Room k X.A) (ha : PA X (e :: es) t) (hjk : j ≤ k := by decide) (hg : Gl X x := by rfl) (hdb : (x == ("__debug__" : Str)) = false := by decide)
    (he : notStar e = true := by rfl) (hpl : es.all notStar = true := by rfl) : PE X (.Call (.Name x p) (e :: es) [] pos) (tCall sp [] E0 t) :=
  pe_callN F (hr.mono hjk) ha hg hdb (star_cons he) (star_none hpl)
theorem pe_bcall (hc : CallR X (.builtin id) r) (hg : Gl X x) (hm : X.mg x = none) (hv : bootBuiltins x = some (.builtin id)) (ha : PA X (e :: es) t) (hn : x ≠ "__name__" := by decide) (hdb : (x == ("__debug__" : Str)) = false := by decide)
    (he : notStar e = true := by rfl) (hpl : es.all notStar = true := by rfl) : PE X (.Call (.Name x p) (e :: es) [] pos) (tCB r t) := pe_callB hc hg hm hv ha hn hdb (star_cons he) (star_none hpl)
theorem pe_tcall (hc : CallR X (.type T) r) (hg : Gl X x) (hm : X.mg x = none) (hv : bootBuiltins x = some (.type T)) (ha : PA X (e :: es) t) (hn : x ≠ "__name__" := by decide) (hdb : (x == ("__debug__" : Str)) = false := by decide)
    (he : notStar e = true := by rfl) (hpl : es.all notStar = true := by rfl) : PE X (.Call (.Name x p) (e :: es) [] pos) (tCB r t) := pe_callTy hc hg hm hv ha hn hdb (star_cons he) (star_none hpl)
end
section
variable {X : Cx} {o e : Expr} {es : List Expr} {to : TE} {t : TA} {name : Str} {apos cpos : Pos} {T id : String} {r : V → List V → Hp → VK → Prop}
theorem star_few {pos : Pos} {env : Env} : ∀ {es : List Expr},es.all notStar = true → (backTo pos (starEach es env)).all (fun x => !x.1) = true
  | [],_ => rfl
  | e :: es,h => by
    rw [List.all_cons,Bool.and_eq_true] at h
    rw [star_cons h.1]
    show (true && (backTo pos (starEach es env)).all (fun x => !x.1)) = true
    rw [star_few h.2]
    rfl
theorem pe_mcall (pa : PlainAttrs T) (slot : Slot T name id) (hty : typeOf (.builtin id) = pure (.type "method_descriptor")) (hm : MtR X id r) (ho : PE X o to) (ha : PA X (e :: es) t)
    (hbase : attributeBase o name X.env (eval o X.env) = eval o X.env := by rfl) (he : notStar e = true := by rfl) (hpl : es.all notStar = true := by rfl) (hlen : (e :: es).length < 30 := by decide)
    (hline : (apos.endLine == cpos.line) = true := by rfl) : PE X (.Call (.Attribute o name apos) (e :: es) [] cpos) (tBM X.K T r to t) := by
  refine pe_bm pa slot hty hm ho ha hbase ?_ hline (star_cons he) (star_none hpl)
  rw [star_few (by rw [List.all_cons,he,hpl]; rfl)]
  show (true && true && decide ((e :: es).length + 0 + 0 < 30)) = true
  rw [decide_eq_true (by omega)]
  rfl
end
section
variable {X : Cx} {a : Expr} {ta : TE} {p pos p2 : Pos}
theorem pe_isiC {K0 : PySem.W.Frag} {T : Str} {n : String} (hK : X.K = K0) (h : X.mg "isinstance" = none) (hT : X.mg T = none) (hv : bootBuiltins T = some (.type n)) (ha : PE X a ta) (hg : Gl X "isinstance" := by rfl) (hg2 : Gl X T := by rfl)
    (hn : T ≠ "__name__" := by decide) (hd : (T == ("__debug__" : Str)) = false := by decide)
    (he : notStar a = true := by rfl) :
    PE X (.Call (.Name "isinstance" p) [a,.Name T p2] [] pos) (tCB (rIsi K0 n) (tCons ta (tCons (tC (.ty n)) tNil))) := by
  subst hK
  exact pe_isi h hT hv ha hg hg2 hn hd (star_cons he) (star_cons rfl) (star_none rfl)
theorem pe_isiM {T : Str} {n : String} (h : X.mg "isinstance" = none) (hT : X.mg T = none) (hv : bootBuiltins T = some (.type n)) (ha : PE X a ta) (hg : Gl X "isinstance" := by rfl) (hg2 : Gl X T := by rfl)
    (hn : T ≠ "__name__" := by decide) (hd : (T == ("__debug__" : Str)) = false := by decide) (he : notStar a = true := by rfl) :
    PE X (.Call (.Name "isinstance" p) [a,.Name T p2] [] pos) (tCB (rIsi X.K n) (tCons ta (tCons (tC (.ty n)) tNil))) :=
  pe_isi h hT hv ha hg hg2 hn hd (star_cons he) (star_cons rfl) (star_none rfl)
theorem ix_listC {K0 : PySem.W.Frag} (hK : X.K = K0) : IxR X (rIxL K0) := by subst hK; exact ix_list
end
theorem Same.upd {H H1 : Hp} {p : Addr} {o : HO} (s : Same H H1) (h : H p = none) : Same H (L2.upd H1 p o) := fun b u e => by
  rw [upd_ne (ne_of_none e h)]; exact s b u e
theorem Same.new {H H1 : Hp} {p : Addr} {o : HO} (s : Same H H1) (h : H1 p = none) : Same H (L2.upd H1 p o) := s.upd (s.free h)
theorem hu0 {A : Around} {k : Nat} (hr : Room k A) : A.units < cLine := hr.units0
theorem atI_mem {α : Type} {xs : List α} {i : Int} (h0 : 0 ≤ i) (h1 : i < xs.length) : ∃ v,atI xs i = some v ∧ v ∈ xs ∧ xs[i.toNat]? = some v := by
  have hj : i.toNat < xs.length := by omega
  refine ⟨xs[i.toNat], ?_,List.getElem_mem hj,by simp [hj]⟩
  have h := atI_nat (xs := xs) (j := i.toNat) (v := xs[i.toNat]) (by simp [hj])
  rwa [show ((i.toNat : Nat) : Int) = i by omega] at h
theorem ite_b {c : Bool} {A B : Prop} (h1 : c = true → A) (h2 : c = false → B) : if c = true then A else B := by
  cases c
  · exact iteF (h2 rfl)
  · exact iteT (h1 rfl)
theorem if_use {c : TT} {t u r : TS} {D : Ends} {σ : St} {H : Hp} (Post : Bool → Hp → Prop) (hc : ∀ Q',(∀ b H',Post b H' → Q' b H') → c σ H Q') (kt : ∀ H',Post true H' → t { D with nx := r D } σ H') (kf : ∀ H',Post false H' → u { D with nx := r D } σ H') : tSeq (tIfS c t u) r D σ H := hc _ fun b H' p => by
  cases b
  · exact iteF (kf H' p)
  · exact iteT (kt H' p)
theorem seq_use {te : TE} {g : TG} {u : TS} {D : Ends} {σ : St} {H : Hp} (Post : V → Hp → Prop) (hg : ∀ Q',(∀ v H',Post v H' → Q' v H') → te σ H Q') (k : ∀ v H',Post v H' → g v σ H' (u D)) : tSeq (tAsg te g) u D σ H := hg _ k
theorem app_len (x y : Str) : (x ++ y).length = x.length + y.length := by
  show (x.cps ++ y.cps).size = _
  rw [Array.size_append]
  rfl
end L2
namespace L2
open PySem PySem.Spec PyProof.Rows
inductive D where
  | a (v : V)
  | l (xs : List D)
  | t (xs : List D)
mutual
inductive Rep (K : PySem.W.Frag) (H : Hp) : V → D → Prop
  | a {v : V} (f : flatV v = true) : Rep K H v (.a v)
  | l {p : Addr} {vs : List V} {ds : List D} (h : SqL K H p vs) (r : Reps K H vs ds) : Rep K H (.ref p) (.l ds)
  | t {p : Addr} {vs : List V} {ds : List D} (h : SqT K H p vs) (r : Reps K H vs ds) : Rep K H (.ref p) (.t ds)
inductive Reps (K : PySem.W.Frag) (H : Hp) : List V → List D → Prop
  | nil : Reps K H [] []
  | cons {v : V} {d : D} {vs : List V} {ds : List D} (r : Rep K H v d) (rs : Reps K H vs ds) : Reps K H (v :: vs) (d :: ds)
end
section
variable {X : Cx} {pins : List (Addr × Obj)} {σ : St} {H : Hp} {s : Shared}
theorem SqL.notT (I : Inv X pins σ H s) {p : Addr} {xs ys : List V} (h : SqL X.K H p xs) (h' : SqT X.K H p ys) : False := by
  obtain ⟨_,_,pl,_⟩ := I.list h
  obtain ⟨_,_,pt,_⟩ := I.tuple h'
  exact SeqAt.ne_of_list_tuple pl.isList pt rfl
mutual
theorem Rep.inj (I : Inv X pins σ H s) : ∀ {v : V} {d e : D},Rep X.K H v d → Rep X.K H v e → d = e
  | _,_,_,.a f,.a _ => rfl
  | _,_,_,.a f,.l _ _ => absurd (show false = true from f) Bool.false_ne_true
  | _,_,_,.a f,.t _ _ => absurd (show false = true from f) Bool.false_ne_true
  | _,_,_,.l _ _,.a f => absurd (show false = true from f) Bool.false_ne_true
  | _,_,_,.t _ _,.a f => absurd (show false = true from f) Bool.false_ne_true
  | _,_,_,.l h r,.l h' r' => by
    have e := I.list_inj h h'
    subst e
    rw [Reps.inj I r r']
  | _,_,_,.t h r,.t h' r' => by
    have e := I.tuple_inj h h'
    subst e
    rw [Reps.inj I r r']
  | _,_,_,.l h _,.t h' _ => (SqL.notT I h h').elim
  | _,_,_,.t h _,.l h' _ => (SqL.notT I h' h).elim
theorem Reps.inj (I : Inv X pins σ H s) : ∀ {vs : List V} {ds es : List D},Reps X.K H vs ds → Reps X.K H vs es → ds = es
  | _,_,_,.nil,.nil => rfl
  | _,_,_,.cons r t,.cons r' t' => by rw [Rep.inj I r r',Reps.inj I t t']
end
end
end L2
namespace L2
open PySem PySem.Spec PyProof.Rows
section
variable {X : Cx} {pins : List (Addr × Obj)} {σ : St} {H : Hp} {s : Shared} {A : Around} {x : V} {u : Value} {p : Addr} {items : Array Value}
end
end L2
namespace L2
open PySem
end L2
namespace L2
open PySem
end L2
namespace L2
open PySem
def ctxV : Option Addr → Value
  | none => .none
  | some a => .ref a
def Ctx0 (a : Addr) (od oc : Option Addr) (h : Heap) : Prop := ∃ o fs,h.get? a = some o ∧ o.data = .fields fs ∧ fs[2]? = some (ctxV oc) ∧ o.dict = od
def F2 (f : Obj → Obj) : Prop := ∀ o fs (v : Value),o.data = .fields fs → fs[2]? = some v → ∃ fs',(f o).data = .fields fs' ∧ fs'[2]? = some v ∧ (f o).dict = o.dict
def Tame {α : Type} : Sem α → Prop
  | .pure _ => True
  | .raise _ => True
  | .unsupported _ => True
  | .finish _ => True
  | .rule _ k => Tame (k ())
  | .at _ k => Tame (k ())
  | .point _ k => Tame (k ())
  | .load _ _ k => ∀ o,Tame (k o)
  | .update _ _ f k => F2 f ∧ Tame (k ())
  | .alloc _ k => ∀ a,Tame (k a)
  | .loadIfAlive _ k => ∀ o,Tame (k o)
  | .fresh k => ∀ t,Tame (k t)
  | .ask k => ∀ x,Tame (k x)
  | .handled _ k => ∀ x,Tame (k x)
  | .stack k => ∀ x,Tame (k x)
  | .thread k => ∀ x,Tame (k x)
  | _ => False
theorem tame_bind {α β : Type} {m : Sem α} {f : α → Sem β} (hf : ∀ a,Tame (f a)) : Tame m → Tame (m >>= f) := by
  show Tame m → Tame (Sem.bind m f)
  induction m with
  | pure a => intro _; exact hf a
  | raise e => intro _; trivial
  | unsupported w => intro _; trivial
  | finish w => intro _; trivial
  | rule t k ih => intro h; exact ih () h
  | «at» t k ih => intro h; exact ih () h
  | point t k ih => intro h; exact ih () h
  | load a t k ih => intro h o; exact ih o (h o)
  | update a t g k ih => intro h; exact ⟨h.1,ih () h.2⟩
  | alloc o k ih => intro h a; exact ih a (h a)
  | loadIfAlive o k ih => intro h a; exact ih a (h a)
  | fresh k ih => intro h a; exact ih a (h a)
  | ask k ih => intro h a; exact ih a (h a)
  | handled o k ih => intro h a; exact ih a (h a)
  | stack k ih => intro h a; exact ih a (h a)
  | thread k ih => intro h a; exact ih a (h a)
  | _ => intro h; exact h.elim
theorem Ctx0.push {a : Addr} {od oc : Option Addr} {h : Heap} {o : Obj} (c : Ctx0 a od oc h) : Ctx0 a od oc (h.push o) := by
  obtain ⟨ob,fs,e,d,f⟩ := c
  exact ⟨ob,fs,Heap.get?_push_of_some _ e,d,f⟩
theorem Ctx0.update {a b : Addr} {od oc : Option Addr} {h : Heap} {f : Obj → Obj} (c : Ctx0 a od oc h) (hf : F2 f) : Ctx0 a od oc (h.update b f) := by
  obtain ⟨ob,fs,e,d,g⟩ := c
  by_cases z : b = a
  · subst z
    obtain ⟨fs',d',g',k⟩ := hf ob fs _ d g.1
    exact ⟨f ob,fs',Heap.get?_update_self _ e (Obj.isFreed_of_fields d'),d',g',by rw [k]; exact g.2⟩
  · exact ⟨ob,fs,by rw [Heap.get?_update_other _ _ z]; exact e,d,g⟩
theorem tame_wp {α : Type} {M : Model} {Γ : Ctx} {a : Addr} {od oc : Option Addr} {Q : α → Pos → Shared → Prop} {E : Value → Pos → Shared → Prop} (m : Sem α) : ∀ {p : Pos} {s : Shared},Tame m → Ctx0 a od oc s.heap → Sem.wp M Γ m Q E p s →
    Sem.wp M Γ m (fun x p s => Q x p s ∧ Ctx0 a od oc s.heap) (fun e p s => E e p s ∧ Ctx0 a od oc s.heap) p s := by
  induction m with
  | pure x => intro p s _ c h; rw [Sem.wp] at h ⊢; exact ⟨h,c⟩
  | raise e => intro p s _ c h; rw [Sem.wp] at h ⊢; exact ⟨h,c⟩
  | unsupported w => intro p s _ c h; rw [Sem.wp] at h; exact h.elim
  | finish w => intro p s _ c h; rw [Sem.wp] at h; exact h.elim
  | rule t k ih => intro p s q c h; rw [Sem.wp] at h ⊢; exact ih () q c h
  | «at» t k ih => intro p s q c h; rw [Sem.wp] at h ⊢; exact ih () q c h
  | point t k ih => intro p s q c h; rw [Sem.wp] at h ⊢; exact ih () q c h
  | load b t k ih => intro p s q c h; rw [Sem.wp] at h ⊢; obtain ⟨o,e,h⟩ := h; exact ⟨o,e,ih o (q o) c h⟩
  | update b t g k ih => intro p s q c h; rw [Sem.wp] at h ⊢; exact ⟨h.1,ih () q.2 (c.update q.1) h.2⟩
  | alloc o k ih => intro p s q c h; rw [Sem.wp] at h ⊢; exact ih _ (q _) c.push h
  | loadIfAlive b k ih => intro p s q c h; rw [Sem.wp] at h ⊢; exact ih _ (q _) c h
  | fresh k ih => intro p s q c h; rw [Sem.wp] at h ⊢; exact ih _ (q _) c h
  | ask k ih => intro p s q c h; rw [Sem.wp] at h ⊢; exact ih _ (q _) c h
  | handled o k ih => intro p s q c h; rw [Sem.wp] at h ⊢; exact ih _ (q _) c h
  | stack k ih => intro p s q c h; rw [Sem.wp] at h ⊢; exact ih _ (q _) c h
  | thread k ih => intro p s q c h; rw [Sem.wp] at h ⊢; exact ih _ (q _) c h
  | _ => intro p s q; exact q.elim
theorem tame_any {α : Type} {M : Model} {A : Around} {a : Addr} {od oc : Option Addr} {m : Sem α} {Q : α → Shared → Prop} {E : Value → Shared → Prop} {s : Shared} (t : Tame m) (c : Ctx0 a od oc s.heap) (h : wpAny M A m Q E s) :
    wpAny M A m (fun x s => Q x s ∧ Ctx0 a od oc s.heap) (fun e s => E e s ∧ Ctx0 a od oc s.heap) s := fun Γ p hΓ => tame_wp m t c (h Γ p hΓ)
theorem tame_field {v : Value} {i : Nat} : Tame (field v i) := by
  unfold field
  refine tame_bind (fun fs => ?_) ?_
  · cases fs[i]? <;> trivial
  · unfold fieldsOf
    cases v with
    | ref a =>
      refine tame_bind (fun o => ?_) (fun o => trivial)
      cases o.data <;> trivial
    | _ => trivial
theorem f2_set {i : Nat} {x : Value} (hi : i ≠ 2) : F2 (Obj.mapFields (·.setIfInBounds i x)) := fun o fs v d g => ⟨fs.setIfInBounds i x,Obj.data_mapFields d _,by rw [Array.getElem?_setIfInBounds_ne hi]; exact g,by cases o; simp only at d; subst d; rfl⟩
theorem tame_setField {v x : Value} {i : Nat} (hi : i ≠ 2) : Tame (setField v i x) := by
  unfold setField
  cases v with
  | ref a =>
    show Tame (updateField a i x)
    unfold updateField
    refine tame_bind (fun o => ?_) (fun o => trivial)
    cases o.data with
    | fields vs =>
      show Tame (if i < vs.size then _ else _)
      split
      · exact ⟨f2_set hi,trivial⟩
      · trivial
    | _ => trivial
  | _ => trivial
theorem tame_setFlight {e : Value} {f : Option Addr} : Tame (setFlight e f) := by
  unfold setFlight
  refine tame_bind (fun tb => ?_) tame_field
  split
  · exact tame_setField (by decide)
  · trivial
theorem tame_ready : ∀ l : List Env,Tame (readyFrames l)
  | [] => trivial
  | env :: outer => by
    unfold readyFrames
    cases env.frame with
    | none => trivial
    | some f =>
      refine tame_bind (fun o => ?_) (fun o => trivial)
      split
      · trivial
      · refine tame_bind (fun b => ?_) ?_
        · refine tame_bind (fun v => ?_) ?_
          · exact tame_bind (fun _ => tame_ready outer) ⟨fun o fs v d g => ⟨fs,d,g,rfl⟩,trivial⟩
          · unfold keptBack
            cases outer with
            | nil =>
              dsimp only
              split
              · trivial
              · exact tame_bind (fun _ => trivial) (tame_bind (fun _ => trivial) (fun _ => trivial))
            | cons c l => trivial
        · unfold behindIsImport
          split
          · trivial
          · split
            · trivial
            · exact tame_bind (fun _ => trivial) tame_field
theorem tame_new (vs : Array Value) : Tame (newObj (Value.type "traceback") (.fields vs)) := by
  have fin : ∀ d : Data,Tame (newObjAsIs (Value.type "traceback") d) := fun d => fun _ => trivial
  unfold newObj
  dsimp only
  split
  · exact tame_bind (fun _ => fin _) trivial
  · exact fin _
theorem tame_noteFrame {e : Value} {env : Env} : Tame (noteFrame e env) := by
  unfold noteFrame
  cases env.frame with
  | none => trivial
  | some f =>
    refine tame_bind (fun hd => ?_) tame_field
    have rest : Tame (do setField e 1 (← EntryCells.newEntry hd (← frameOf env) .none (rawInt f) .none (← entryPlaceOf f (hd != .none)))) := by
      refine tame_bind (fun fr => ?_) ?_
      · refine tame_bind (fun pl => ?_) ?_
        · refine tame_bind (fun en => tame_setField (by decide)) ?_
          exact tame_new _
        · unfold entryPlaceOf
          refine tame_bind (fun acts => ?_) (fun _ => trivial)
          split <;> trivial
      · unfold frameOf
        refine tame_bind (fun l => ?_) ?_
        · refine tame_bind (fun o => ?_) ?_
          · cases o <;> trivial
          · unfold frameObject
            split
            · trivial
            · exact tame_bind (fun _ => trivial) (tame_ready _)
        · unfold frameEnvs
          exact tame_bind (fun _ => trivial) (fun _ => trivial)
    dsimp only
    split
    · refine tame_bind (fun x => ?_) tame_field
      split
      · trivial
      · exact tame_bind (fun _ => rest) (tame_setField (by decide))
    · exact rest
theorem tame_leaving {e : Value} {env : Env} : Tame (leaving env e) := by
  unfold leaving
  exact tame_bind (fun _ => tame_setFlight) tame_noteFrame
end L2
namespace L2
open PySem PySem.Spec PyProof.Rows
def Cov (B : Heap) (fs : List Addr) (s : Shared) (H' : Hp) : Prop := ∀ b,b ∉ fs → ((∃ o,s.heap.get? b = some o) ∨ ∃ o,H' b = some o) → ∃ o,B.get? b = some o
def ExcC (a C : Addr) (od oc : Option Addr) : HO := .ext fun h => ∃ o fs,h.get? a = some o ∧ o.cls = .ref C ∧ o.data = .fields fs ∧ fs[2]? = some (ctxV oc) ∧ o.dict = od
abbrev ExcD (a C : Addr) (od : Option Addr) : HO := ExcC a C od none
def XcOk (H : Hp) (oc : Option Addr) : Prop := ∀ a,oc = some a → ∃ C od,H a = some (ExcD a C od)
theorem XcOk.none {H : Hp} : XcOk H none := fun _ e => by cases e
theorem XcOk.same {H H' : Hp} {oc : Option Addr} (h : XcOk H oc) (s : Same H H') : XcOk H' oc := fun a e => let ⟨C,od,z⟩ := h a e; ⟨C,od,s _ _ z⟩
def CX1 (P : Program) (w : World) (base : Heap) : CXT := fun outer H s E e s' => ∃ (a C : Addr) (a0 : Value) (H' : Hp) (B : Heap),e = .ref a ∧ s'.os = s.os ∧ AllBare s'.gens ∧ Un (frs outer) [] H H' s.heap s'.heap ∧ HOk P w H' s'.heap ∧
  Heap.FlyingW B outer a (.ref C) a0 s'.heap ∧ base.StaysIn B ∧ Cov B (frs outer) s H' ∧ (∀ b ∈ frs outer,H' b = none) ∧ ∃ od oc,Ctx0 a od oc s'.heap ∧ (od = none → oc = none) ∧ XcOk H' oc ∧ E (.ref C) od H'
theorem hok_there {P : Program} {w : World} {H : Hp} {h : Heap} (ok : HOk P w H h) {b : Addr} {u : HO} (e : H b = some u) : ∃ o,h.get? b = some o := by
  have x := ok b u e
  cases u with
  | lst xs => obtain ⟨_,_,_,_,e⟩ := x; exact ⟨_,e⟩
  | tup xs => obtain ⟨_,_,_,o,e,_⟩ := x; exact ⟨_,e⟩
  | dK kvs => obtain ⟨_,_,_,_,o,_,_,e,_⟩ := x; exact ⟨_,e⟩
  | dT kvs => obtain ⟨_,_,_,_,o,_,_,e,_⟩ := x; exact ⟨_,e⟩
  | set S n => obtain ⟨o,_,_,_,e,_⟩ := x; exact ⟨_,e⟩
  | ins C dx fs => obtain ⟨_,_,_,e,_⟩ := x; exact ⟨_,e⟩
  | own y => obtain ⟨_,e⟩ := x; exact ⟨_,e⟩
  | xd fs => obtain ⟨_,⟨_,_,_,e,_⟩,_⟩ := x; exact ⟨_,e⟩
  | rng lo hi => obtain ⟨_,_,_,e⟩ := x; exact ⟨_,e⟩
  | frz ob u => obtain ⟨e,_⟩ := x; exact ⟨_,e⟩
  | tbl ps => exact ⟨_,(show h.get? b = some _ from x)⟩
  | met f y => exact ⟨_,(show h.get? b = some _ from x)⟩
  | ext φ => obtain ⟨_,⟨_,e⟩,_⟩ := x; exact ⟨_,e⟩
theorem un_step {fs : List Addr} {H H' : Hp} {s : Shared} {h1 h2 B : Heap} (u : Un fs [] H H' s.heap h1) (c : Cov B fs s H') (st1 : B.StaysIn h1) (st2 : B.StaysIn h2) (up : h1.UpToSlots h2)
    (fd : ∀ b ∈ fs,∃ o,h1.get? b = some o ∧ ∀ vs,o.data ≠ .fields vs) : Un fs [] H H' s.heap h2 := by
  have go : ∀ b o,b ∉ fs → (∃ v,s.heap.get? b = some v) → h1.get? b = some o → h2.get? b = some o := fun b o hb hs e => by
    obtain ⟨o',e'⟩ := c b hb (.inl hs)
    have := st1 b o' e'
    rw [e] at this; cases this
    exact st2 b o e'
  refine ⟨fun b o q n hb hx => go b o hb ⟨o,q⟩ (u.keep b o q n hb hx),fun b o q n hb hx => ?_,u.free,fun b o q hx => ?_,u.tups,u.frzs,u.tbls⟩
  · obtain ⟨sl,e⟩ := u.slot b o q n hb hx
    obtain ⟨o1,e1,hd⟩ := fd b hb
    rw [e] at e1; cases e1
    obtain ⟨sl2,e2⟩ := up b _ e hd
    exact ⟨sl2,e2⟩
  · obtain ⟨o',e⟩ := u.there b o q hx
    by_cases hb : b ∈ fs
    · obtain ⟨o1,e1,hd⟩ := fd b hb
      rw [e] at e1; cases e1
      obtain ⟨sl2,e2⟩ := up b _ e hd
      exact ⟨_,e2⟩
    · exact ⟨o',go b o' hb ⟨o,q⟩ e⟩
theorem hok_step {P : Program} {w : World} {fs : List Addr} {H' : Hp} {s : Shared} {h1 h2 B : Heap} (ok : HOk P w H' h1) (c : Cov B fs s H') (st1 : B.StaysIn h1) (st2 : B.StaysIn h2) (nf : ∀ b ∈ fs,H' b = none) : HOk P w H' h2 := fun b u q =>
  (ok b u q).stay (fun d v hd e => by
    have hn : ∃ o,H' d = some o := by
      rcases hd with rfl | hd
      · exact ⟨_,q⟩
      · exact ⟨_,hd⟩
    have hf : d ∉ fs := fun z => by obtain ⟨o,ho⟩ := hn; rw [nf d z] at ho; cases ho
    obtain ⟨o',e'⟩ := c d hf (.inr hn)
    have := st1 d o' e'
    rw [e] at this; cases this
    exact st2 d v e') (fun _ r => r) fun _ _ r => r
theorem flying_data {B h : Heap} {l : List Env} {a : Addr} {cls a0 : Value} (fl : Heap.FlyingW B l a cls a0 h) : ∀ b ∈ frs l,∃ o,h.get? b = some o ∧ ∀ vs,o.data ≠ .fields vs := fun b hb => (fl.2.2.1.mem hb).2
section
variable {P : Program} {w : World} {K : PySem.W.Frag} {mg : Str → Option Value} {base : Heap} {N : List Str} {qual : Str} {scope : Scope} {f : Addr} {cd : Value} {A : Around} {outer : List Env} {s₀ : Shared} {H₀ : Hp} {E : XK}
  {pins : List (Addr × Obj)} {σ : St} {H : Hp} {s : Shared}
theorem raise_leaves {h' : Heap} {e C : Addr} {us : List Value} (I : Inv (cxOf (CX1 P w base) P w K mg base N qual scope f cd A outer s₀ H₀ E) pins σ H s) (hx : Heap.MadeExcOf s.heap h' e (.ref C) us) (hE : E (.ref C) none H) :
    (cxOf (CX1 P w base) P w K mg base N qual scope f cd A outer s₀ H₀ E).xe (.ref e) { s with heap := h' } := by
  have hst := I.stack
  have hfree := I.stkFree
  have hfr : ∀ b,b ∈ frs (envOfC qual scope s₀.heap.objs.size f cd :: outer) ↔ b = s₀.heap.objs.size ∨ b ∈ frs outer := fun b => by
    show b ∈ s₀.heap.objs.size :: frs outer ↔ _
    exact List.mem_cons
  have old : ∀ b o,s₀.heap.get? b = some o → b ≠ s₀.heap.objs.size := fun b o q => Nat.ne_of_lt (Heap.lt_size q)
  have hin : ∀ env ∈ (envOfC qual scope s₀.heap.objs.size f cd :: outer),∀ b,env.frame = some b → b ∈ frs (envOfC qual scope s₀.heap.objs.size f cd :: outer) := fun env he b hb => List.mem_filterMap.mpr ⟨env,he,hb⟩
  have c0 : Ctx0 e none none h' := by
    obtain ⟨t,g,_⟩ := hx.there
    exact ⟨_,_,g,rfl,rfl,rfl⟩
  refine wpAny_mono (tame_any (a := e) (s := { s with heap := h' }) tame_leaving c0 (wpAny_leaves_madeW (E := fun _ _ => False) (Q := fun _ s2 => ∃ (h2 : Heap) (t : Addr),s2 = { s with heap := h2 } ∧ Heap.FlyingW (PySem.W.hideAll s.heap (frs (envOfC qual scope s₀.heap.objs.size f cd :: outer))) outer e (.ref C) (.ref t) h2 ∧ h2.TupAt t us ∧ (PySem.W.hideAll s.heap (frs (envOfC qual scope s₀.heap.objs.size f cd :: outer))).get? t = none ∧ h'.UpToSlots h2) (base := PySem.W.hideAll s.heap (frs (envOfC qual scope s₀.heap.objs.size f cd :: outer))) (h := s.heap) I.ok.frames rfl (fun b o q => PySem.W.of_hideAll _ q) (PySem.W.funFrames_hide hst hin) hx fun h2 t fl tup tn up => ⟨h2,t,rfl,fl,tup,tn,up⟩)) (fun _ s2 ⟨⟨h2,t,e2,fl,tup,tn,up⟩,c2⟩ => ?_) (fun _ _ z => z.1.elim)
  subst e2
  have keep : ∀ b o,b ∉ frs (envOfC qual scope s₀.heap.objs.size f cd :: outer) → s.heap.get? b = some o → h2.get? b = some o := fun b o hb q => fl.1 b o (PySem.W.hideAll_get _ q hb)
  have slots : ∀ b o,b ∈ frs (envOfC qual scope s₀.heap.objs.size f cd :: outer) → s.heap.get? b = some o → ∃ sl,h2.get? b = some { o with slots := sl } := fun b o hb q => by
    obtain ⟨_,o1,e1,hd⟩ := hst.mem hb
    rw [q] at e1; cases e1
    exact up b o (hx.keeps b o q) hd
  refine ⟨e,C,.ref t,H,_,rfl,I.os,I.bare,⟨fun b o q n hb hx => ?_,fun b o q n hb hx => ?_,I.base.free,fun b o q hx => ?_,I.base.tups,I.base.frzs,I.base.tbls⟩,fun b u q => ?_,fl,fun b o q => ?_,fun b hb hh => ?_,fun b hb => hfree b ((hfr b).mpr (.inr hb)),none,none,c2,(fun _ => rfl),XcOk.none,hE⟩
  · refine keep b o (fun z => ?_) (I.base.keep b o q n hb hx)
    rcases (hfr b).mp z with z | z
    · exact old b o q z
    · exact hb z
  · obtain ⟨sl,e1⟩ := I.base.slot b o q n hb hx
    obtain ⟨sl2,e2⟩ := slots b _ ((hfr b).mpr (.inr hb)) e1
    exact ⟨sl2,e2⟩
  · obtain ⟨o1,e1⟩ := I.base.there b o q hx
    by_cases z : b ∈ frs (envOfC qual scope s₀.heap.objs.size f cd :: outer)
    · obtain ⟨sl2,e2⟩ := slots b _ z e1
      exact ⟨_,e2⟩
    · exact ⟨_,keep b _ z e1⟩
  · refine (I.hok b u q).stay (fun d v hd r => keep d v (fun z => ?_) r) (fun _ r => r) fun _ _ r => r
    have hn : ∃ o,H d = some o := by
      rcases hd with rfl | hd
      · exact ⟨_,q⟩
      · exact ⟨_,hd⟩
    obtain ⟨o,ho⟩ := hn
    rw [hfree d z] at ho; cases ho
  · refine PySem.W.hideAll_get _ (I.bk b o q) fun z => ?_
    have := (hst.mem z).1
    have q' : base.get? b = some o := q
    rw [show (cxOf (CX1 P w base) P w K mg base N qual scope f cd A outer s₀ H₀ E).base = base from rfl] at this
    rw [q'] at this; cases this
  · have hs : (∃ o,s.heap.get? b = some o) ∧ b ≠ s₀.heap.objs.size := by
      rcases hh with ⟨o,ho⟩ | ⟨o,ho⟩
      · exact ⟨I.base.there b o ho (by intro z; cases z),old b o ho⟩
      · refine ⟨hok_there I.hok ho,fun z => ?_⟩
        have := I.free
        rw [z] at ho
        rw [show (cxOf (CX1 P w base) P w K mg base N qual scope f cd A outer s₀ H₀ E).env.locals = s₀.heap.objs.size from rfl] at this
        rw [this] at ho; cases ho
    obtain ⟨⟨o,ho⟩,hne⟩ := hs
    exact ⟨o,PySem.W.hideAll_get _ ho fun z => ((hfr b).mp z).elim hne hb⟩
theorem passes_on : Passes (CX1 P w base) (cxOf (CX1 P w base) P w K mg base N qual scope f cd A outer s₀ H₀ E) E := by
  intro pins σ H s e s' I h
  obtain ⟨a,C,a0,H',B,rfl,os,bare,un,hok,fl,st,cov,nf,od,oc,c0,oz,xc,hE⟩ := h
  have hfr : ∀ b,b ∈ frs (envOfC qual scope s₀.heap.objs.size f cd :: outer) ↔ b = s₀.heap.objs.size ∨ b ∈ frs outer := fun b => by
    show b ∈ s₀.heap.objs.size :: frs outer ↔ _
    exact List.mem_cons
  have old : ∀ b o,s₀.heap.get? b = some o → b ≠ s₀.heap.objs.size := fun b o q => Nat.ne_of_lt (Heap.lt_size q)
  refine wpAny_mono (tame_any (a := a) (s := s') tame_leaving c0 (wpAny_leaves_onW (E := fun _ _ => False) (Q := fun _ s2 => ∃ h2 : Heap,s2 = { s' with heap := h2 } ∧ Heap.FlyingW B outer a (.ref C) a0 h2 ∧ s'.heap.UpToSlots h2) I.ok.frames rfl fl fun h2 fl2 up => ⟨h2,rfl,fl2,up⟩)) (fun _ s2 ⟨⟨h2,e2,fl2,up⟩,c2⟩ => ?_) (fun _ _ z => z.1.elim)
  subst e2
  have un2 := un_step un cov fl.1 fl2.1 up (flying_data fl)
  have I2 : Inv (cxOf (CX1 P w base) P w K mg base N qual scope f cd A outer s₀ H₀ E) pins σ H' { s' with heap := h2 } := I.call' (s' := { s' with heap := h2 }) os un2 (hok_step hok cov fl.1 fl2.1 nf) bare (fun b z => by cases z)
  refine ⟨a,C,a0,H',B,rfl,I2.os,I2.bare,I2.base,I2.hok,fl2,st,fun b hb hh => ?_,fun b hb => nf b ((hfr b).mpr (.inr hb)),od,oc,c2,oz,xc,hE⟩
  have hne : b ≠ s₀.heap.objs.size := by
    rcases hh with ⟨o,ho⟩ | ⟨o,ho⟩
    · exact old b o ho
    · intro z
      have := nf b ((hfr b).mpr (.inl z))
      rw [this] at ho; cases ho
  refine cov b (fun z => ((hfr b).mp z).elim hne hb) ?_
  rcases hh with ⟨o,ho⟩ | hh
  · exact .inl (I.base.there b o ho (by intro z; cases z))
  · exact .inr hh
end
end L2
namespace L2
open PySem PySem.Spec PyProof.Rows
abbrev bmV : List Value := [.type "ValueError",.type "Exception",.type "BaseException",.type "object"]
theorem exc_in {K : PySem.W.Frag} {h : Heap} {C : Addr} {bmB : List Value} {newId : String} (X : K.In h) (q : PySem.W.excIn K C bmB newId = true) :
    ∃ bm N nm qn bs hdct sn sub ab col dd k0 k1 k2 k3 k5 mN,h.get? C = some (excClassObj nm qn C N bs bm hdct sn sub ab col dd k0 k1 k2 k3 k5 newId) ∧ h.Ns N mN ∧ mN "__init__" = none ∧ OwnTail h bmB bm := by
  revert q
  unfold PySem.W.excIn
  split
  · rename_i d1 cdat slots hlook
    split
    · rename_i C1 tl1 z0 z1 z2 z3 nid z5 hmro hslots
      intro q
      rw [Bool.and_eq_true,Bool.and_eq_true,Bool.and_eq_true,Bool.and_eq_true,Bool.and_eq_true] at q
      obtain ⟨⟨⟨⟨⟨qa,qb⟩,qc⟩,qd⟩,qe⟩,qf⟩ := q
      have ea : C1 = C := by simpa using qa
      have eb : nid = newId := by simpa using qb
      have ec : cdat.hasDel = false := by simpa using qc
      have ef : PySem.W.nsIn K cdat.ns "__init__" = some none := by simpa using qf
      subst ea eb
      cases cdat with
      | mk nm bs mro ns qn hd sn sub ab col del =>
        simp only at hmro ec qe ef
        subst hmro ec
        cases slots with
        | mk sl =>
          simp only at hslots
          subst hslots
          exact ⟨tl1,ns,nm,qn,bs,hd,sn,sub,ab,col,d1,z0,z1,z2,z3,z5,_,X _ _ hlook,.of_isNs (PySem.W.isNs_of_in X qe),PySem.W.nsMap_none_of_in X qe ef,PySem.W.tail_of_in X qd⟩
    · intro q; cases q
  · intro q; cases q
def tRaise (C : Addr) (E : XK) (ta : TA) : TS := fun _ σ H => ta σ H fun vs H1 => vs.length ≤ sizeLine ∧ E (.ref C) none H1
section
variable {P : Program} {w : World} {K : PySem.W.Frag} {mg : Str → Option Value} {base : Heap} {N : List Str} {qual : Str} {scope : Scope} {f : Addr} {cd : Value} {A : Around} {outer : List Env} {s₀ : Shared} {H₀ : Hp} {E : XK}
abbrev cxR (P : Program) (w : World) (K : PySem.W.Frag) (mg : Str → Option Value) (base : Heap) (N : List Str) (qual : Str) (scope : Scope) (f : Addr) (cd : Value) (A : Around) (outer : List Env) (s₀ : Shared) (H₀ : Hp) (E : XK) : Cx :=
  cxOf (CX1 P w base) P w K mg base N qual scope f cd A outer s₀ H₀ E
theorem ps_raise {x : Str} {np cpos pos : Pos} {e : Expr} {es : List Expr} {ta : TA} {C : Addr} (q : PySem.W.excIn K C bmV "ValueError.__new__" = true) (hm : mg x = some (.ref C)) (ha : PA (cxR P w K mg base N qual scope f cd A outer s₀ H₀ E) (e :: es) ta)
    (hg : Gl (cxR P w K mg base N qual scope f cd A outer s₀ H₀ E) x := by rfl) (he : notStar e = true := by rfl) (hpl : es.all notStar = true := by rfl) (hdb : (x == ("__debug__" : Str)) = false := by decide) :
    PS (cxR P w K mg base N qual scope f cd A outer s₀ H₀ E) (.Raise (some (.Call (.Name x np) (e :: es) [] cpos)) none pos) (tRaise C E ta) := by
  intro pins s σ H D I h
  obtain ⟨bm,Nn,nm,qn,bs,hdct,sn,sub,ab,col,dd,k0,k1,k2,k3,k5,mN,hC,hN,hni,T⟩ := exc_in (X := I.mod.kin) q
  have hh : (cxR P w K mg base N qual scope f cd A outer s₀ H₀ E).A.handled = none := I.ok.hd rfl
  have hall : (e :: es).all notStar = true := by rw [List.all_cons,he,hpl]; rfl
  refine wpAny_Raise_call_subU (nm := nm) (q := qn) (C := C) (N := Nn) (bs := bs) (hdct := hdct) (sn := sn) (sub := sub) (ab := ab) (col := col) (dd := dd) (k0 := k0) (k1 := k1) (k2 := k2) (k3 := k3) (k5 := k5) PySem.F.excBase_ValueError (by decide) PySem.F.excBase_ValueError (T.hasType (by decide)) hh (star_none hall) hni ?_
  refine ld_glob I hg hm ⟨rfl, ?_⟩ hdb
  have hA := ha cpos pins s σ H _ I h
  rw [star_cons he] at hA ⊢
  refine Calls.evalArgs_plain ?_
  refine thn hA fun us s2 ⟨vs,H2,I2,r2,hl,q2⟩ => ⟨rfl, ?_,I2.bk _ _ hC,hN.keeps I2.bk,T.keeps I2.bk,fun h' a hx => raise_leaves I2 hx q2⟩
  rw [← r2.length]; exact hl
end
section
variable {P : Program} {w : World} {K : PySem.W.Frag} {mg : Str → Option Value} {base : Heap}
theorem Fun.okX {x qual : Str} {st : Stmt} {f : Addr} {fd : FuncData} {N ps : List Str} {k : Nat} {sp : Sp} (F : Fun K x qual st f fd) (S : FnScope N ps (defScope st)) (len : ∀ vs H Q E,sp vs H Q E → vs.length = ps.length)
    (hbody : ∀ (cdv : Value) (A : Around) (outer : List Env) (s : Shared) (H : Hp) (vs : List V) (Q : VK) (E : XK),Room k (A.deeper (envOfC qual (defScope st) s.heap.objs.size f cdv)) → sp vs H Q E →
      ∃ t,PSs (cxR P w K mg base N qual (defScope st) f cdv A outer s H E) (defBody st) t ∧ t { nx := fun _ H' => Q .non H',rt := Q } (start N vs) H) : FnOk P w K mg base (CX1 P w base) (k + 1) f fd ps sp := by
  obtain ⟨oc,od,kV,doc,pm,an,cdv,ct,osl,rfl,lk,hcd⟩ := F.ex
  exact fn_of lk hcd S len fun A outer s H vs Q E hr hsp => hbody cdv A outer s H vs Q E hr hsp
def KnowsX (P : Program) (w : World) (K : PySem.W.Frag) (mg : Str → Option Value) (base : Heap) (k : Nat) (x : Str) (ps : List Str) (sp : Sp) : Prop :=
  ∃ f fd,mg x = some (.ref f) ∧ PySem.W.keepIn K (.ref f) = true ∧ Binds K fd ps [] ∧ FnOk P w K mg base (CX1 P w base) k f fd ps sp
theorem Def.okX {x : Str} {st : Stmt} {N ps : List Str} {k : Nat} {sp : Sp} (D : Def K mg x st ps) (S : FnScope N ps (defScope st)) (len : ∀ vs H Q E,sp vs H Q E → vs.length = ps.length)
    (hbody : ∀ (f : Addr) (cdv : Value) (A : Around) (outer : List Env) (s : Shared) (H : Hp) (vs : List V) (Q : VK) (E : XK),Room k (A.deeper (envOfC x (defScope st) s.heap.objs.size f cdv)) → sp vs H Q E →
      ∃ t,PSs (cxR P w K mg base N x (defScope st) f cdv A outer s H E) (defBody st) t ∧ t { nx := fun _ H' => Q .non H',rt := Q } (start N vs) H) : KnowsX P w K mg base (k + 1) x ps sp := by
  obtain ⟨f,fd,F,hm,hb⟩ := D.ex
  exact ⟨f,fd,hm,F.kp,hb,F.okX S len fun cdv A outer s H vs Q E hr h => hbody f cdv A outer s H vs Q E hr h⟩
end
section
variable {X : Cx} {CX : CXT} {x m : Str} {ps : List Str} {sp : Sp} {j k : Nat} {e o : Expr} {es : List Expr} {ta : TE} {t : TA} {p pos apos : Pos} {E : XK} {C : Addr}
theorem pe_callX (F : KnowsX X.prog X.w X.K X.mg X.base j x ps sp) (hr : Room k X.A) (hx : Passes (CX1 X.prog X.w X.base) X E) (ha : PA X (e :: es) t) (hjk : j ≤ k := by decide) (hg : Gl X x := by rfl) (hdb : (x == ("__debug__" : Str)) = false := by decide)
    (he : notStar e = true := by rfl) (hpl : es.all notStar = true := by rfl) : PE X (.Call (.Name x p) (e :: es) [] pos) (tCall sp [] E t) := by
  obtain ⟨f,fd,hm,hk,hb,F⟩ := F
  exact pe_call F (hr.mono hjk) hg hm hk hb .nil hx ha hdb (star_cons he) (star_none hpl)
end
end L2
namespace L2
open PySem PySem.Spec PyProof.Rows
abbrev Cx.inTry (X : Cx) (pn : List (Addr × Obj)) (xe : Value → Shared → Prop) : Cx := { X with pn := pn,xe := xe }
abbrev Cx.inExc (X : Cx) (a : Addr) : Cx := { X with A := X.A.mark (some (.ref a)),calm := false }
section
variable {X : Cx} {pins : List (Addr × Obj)} {σ : St} {H : Hp} {s : Shared} {xe : Value → Shared → Prop} {a : Addr}
theorem Inv.inTry (I : Inv X pins σ H s) (xe : Value → Shared → Prop) : Inv (X.inTry (X.pn ++ pins) xe) [] σ H s :=
  ⟨⟨I.ok.mod,I.ok.kind,I.ok.glob,I.ok.blt,I.ok.above,I.ok.inj,I.ok.has,I.ok.cab,I.ok.hd,I.ok.frames,I.ok.stk,I.ok.exf,I.ok.bs,I.ok.bsz,I.ok.noex,I.ok.exfs,I.ok.funs,I.ok.frf⟩,
    I.os,I.bare,I.base,I.loc,I.cell,I.free,I.freeC,fun p hp => I.pin p (by simpa using hp),I.hok,I.len⟩
theorem Inv.outTry {pins' : List (Addr × Obj)} (I : Inv (X.inTry (X.pn ++ pins) xe) pins' σ H s) : Inv X pins σ H s :=
  ⟨⟨I.ok.mod,I.ok.kind,I.ok.glob,I.ok.blt,I.ok.above,I.ok.inj,I.ok.has,I.ok.cab,I.ok.hd,I.ok.frames,I.ok.stk,I.ok.exf,I.ok.bs,I.ok.bsz,I.ok.noex,I.ok.exfs,I.ok.funs,I.ok.frf⟩,
    I.os,I.bare,I.base,I.loc,I.cell,I.free,I.freeC,fun p hp => I.pin p (List.mem_append_left _ hp),I.hok,I.len⟩
theorem Inv.inExc (I : Inv X pins σ H s) (a : Addr) : Inv (X.inExc a) pins σ H s :=
  ⟨⟨I.ok.mod,I.ok.kind,I.ok.glob,I.ok.blt,I.ok.above,I.ok.inj,I.ok.has,I.ok.cab,(fun z => by cases z),I.ok.frames,I.ok.stk,I.ok.exf,I.ok.bs,I.ok.bsz,I.ok.noex,I.ok.exfs,I.ok.funs,I.ok.frf⟩,
    I.os,I.bare,I.base,I.loc,I.cell,I.free,I.freeC,I.pin,I.hok,I.len⟩
theorem Inv.outExc (ok : X.Ok) (I : Inv (X.inExc a) pins σ H s) : Inv X pins σ H s :=
  ⟨ok,I.os,I.bare,I.base,I.loc,I.cell,I.free,I.freeC,I.pin,I.hok,I.len⟩
theorem SP.outTry {D : Ends} {f : Flow} {s' : Shared} (h : SP (X.inTry (X.pn ++ pins) xe) [] D f s') : SP X pins D f s' := by
  cases f with
  | next => obtain ⟨σ',H',I,q⟩ := h; exact ⟨σ',H',I.outTry,q⟩
  | brk => obtain ⟨σ',H',I,q⟩ := h; exact ⟨σ',H',I.outTry,q⟩
  | cont => obtain ⟨σ',H',I,q⟩ := h; exact ⟨σ',H',I.outTry,q⟩
  | ret u => obtain ⟨v,σ',H',I,r,q⟩ := h; exact ⟨v,σ',H',I.outTry,r,q⟩
theorem SP.outExc (ok : X.Ok) {D : Ends} {f : Flow} {s' : Shared} (h : SP (X.inExc a) pins D f s') : SP X pins D f s' := by
  cases f with
  | next => obtain ⟨σ',H',I,q⟩ := h; exact ⟨σ',H',I.outExc ok,q⟩
  | brk => obtain ⟨σ',H',I,q⟩ := h; exact ⟨σ',H',I.outExc ok,q⟩
  | cont => obtain ⟨σ',H',I,q⟩ := h; exact ⟨σ',H',I.outExc ok,q⟩
  | ret u => obtain ⟨v,σ',H',I,r,q⟩ := h; exact ⟨v,σ',H',I.outExc ok,r,q⟩
end
abbrev Lands (X : Cx) (Eb : St → XK) : Prop := ∀ (pins : List (Addr × Obj)) (σ : St) (H : Hp) (s : Shared) (e : Value) (s' : Shared),Inv X pins σ H s → CX1 X.prog X.w X.base X.stack H s (Eb σ) e s' → X.xe e s'
section
variable {X : Cx} {x : Str} {np hpos pos : Pos} {body : List Stmt} {b₀ : Stmt} {suite : List Stmt} {Dc : Addr} {tb : (St → XK) → TS} {ts : TS}
end
end L2
namespace L2
open PySem PySem.Spec PyProof.Rows
section
variable {X : Cx} {k j : Nat} {f C : Addr} {fd : FuncData} {ps : List Str} {sp : Sp} {Eb : St → XK} {x m : Str} {p pos apos : Pos} {e o : Expr} {es : List Expr} {ta : TE} {t : TA}
theorem run_fnS {pins : List (Addr × Obj)} {σ : St} {H : Hp} {s : Shared} {Q : VK} {us : List Value} {vs : List V} (F : FnOk X.prog X.w X.K X.mg X.base (CX1 X.prog X.w X.base) k f fd ps sp) (hr : Room k X.A) (hb : Binds X.K fd ps []) (hx : Lands X Eb)
    (I : Inv X pins σ H s) (r : Vals vs us) (h : sp vs H Q (Eb σ)) : wpAny (model X.prog X.w) X.A (call (.ref f) us) (EP X pins σ Q) X.xe s := by
  have hl : us.length = ps.length := by rw [← r.length]; exact F.len _ _ _ _ h
  have hbind := hb s us I.kIn (by rw [List.append_nil]; exact hl)
  rw [List.append_nil] at hbind
  refine wpAny_call (codeAny_mono (F.run X.A X.stack s H ⟨us,[]⟩ us vs Q (Eb σ) hr I.env0 hbind r h) fun res s' hq => ?_)
  cases res with
  | error e => exact hx pins σ H s e s' I hq
  | ok fl =>
    cases fl with
    | ret u => exact I.after hq
    | next => exact False.elim hq
    | brk => exact False.elim hq
    | cont => exact False.elim hq
def tCallS (sp : Sp) (Eb : St → XK) (t : TA) : TE := fun σ H Q => t σ H fun vs H1 => sp vs H1 Q (Eb σ)
theorem pe_callS (F : KnowsX X.prog X.w X.K X.mg X.base j x ps sp) (hr : Room k X.A) (hx : Lands X Eb) (ha : PA X (e :: es) t) (hjk : j ≤ k := by decide) (hg : Gl X x := by rfl) (hdb : (x == ("__debug__" : Str)) = false := by decide)
    (he : notStar e = true := by rfl) (hpl : es.all notStar = true := by rfl) : PE X (.Call (.Name x p) (e :: es) [] pos) (tCallS sp Eb t) := by
  obtain ⟨f,fd,hm,hk,hb,F⟩ := F
  intro pins s σ H Q I h
  refine wpAny_Call_Name_kw (ld_glob I hg hm ?_ hdb)
  refine PySem.W.callWith_K (h₀ := X.base) I.ok.mod.kin hk (thn (ha pos pins s σ H _ I h) fun us s1 ⟨vs,H1,I1,r,q⟩ => ⟨I1.kIn, ?_⟩) (star_cons he) (star_none hpl)
  exact run_fnS F (hr.mono hjk) hb hx I1 r q
end
end L2
namespace L2
open PySem PySem.Spec PyProof.Rows
end L2
namespace L2
open PySem PySem.Spec PyProof.Rows
open PySem.AutoSeq1 (wpAny_loadPart')
open PySem.MeetsSeq
section
variable {X : Cx}
end
end L2
namespace L2
open PySem PySem.Spec PyProof.Rows
section
variable {X : Cx} {pos : Pos}
end
theorem weight_all {ns : List Int} : ∀ v ∈ ns,(PySem.W.WData.weight (.int v)) ≤ PySem.W.WData.weightAll (ns.map .int) := by
  intro v hv
  induction ns with
  | nil => cases hv
  | cons n r ih =>
    have e : PySem.W.WData.weightAll ((n :: r).map PySem.W.WData.int) = PySem.W.WData.weight (.int n) + 1 + PySem.W.WData.weightAll (r.map .int) := by
      rw [List.map_cons,PySem.W.WData.weightAll]
    rw [e]
    rcases List.mem_cons.mp hv with rfl | hv
    · omega
    · have := ih hv
      omega
end L2
namespace Att
open PySem PySem.W PySem.Calls PyProof.Rows L2
theorem small_of {ns : List Int} (h : WData.layableAll [WData.list (ns.map WData.int)] = true) : ∀ v ∈ ns,Builtin.Int.intBits v ≤ 1048576 := by
  intro v hv
  unfold WData.layableAll at h
  rw [List.all_cons,Bool.and_eq_true] at h
  have h1 := h.1
  unfold WData.layable at h1
  rw [Bool.and_eq_true] at h1
  have h2 := of_decide_eq_true h1.2
  have e : WData.weight (WData.list (ns.map WData.int)) = WData.weightAll (ns.map WData.int) := by rw [WData.weight]
  rw [e] at h2
  have h3 := weight_all v hv
  have e2 : WData.weight (.int v) = Builtin.Int.intBits v := by
    rw [WData.weight]
    rfl
  rw [e2] at h3
  have : (2 : Nat) ^ 20 = 1048576 := by decide
  omega
theorem attach_callW {l : OpenLaw} {n : Nat} {q : Program} {loose : List Str} {XP : (Str → Option Value) → Heap → Prop} {YP : World → Heap → Prop} {d : DefRec}
    (hn : l.most = some n) (hdf : d.params.defaults = [])
    (call : ∀ (w : World) (s₀ s₁ : Shared) (mg mb : Str → Option Value) (fa : Addr) (o : Obj) (pm cd doc : Value) (a : Addr) (vs : List Value) (ns : List Int),
      Ground q loose [] XP w s₀ mg mb s₁.heap → YP w s₁.heap →
      s₁.heap.get? fa = some o → o.data = .func (docDef d.name d.params d.body d.scope pm cd doc) → s₁.heap.CodeRec cd d.name → mg d.name = some (.ref fa) →
      s₁.heap.get? a = some { cls := .type "list",data := .seq vs.toArray } → IntsAre vs ns → ns.length ≤ n → (∀ v ∈ ns,Builtin.Int.intBits v ≤ 1048576) → s₁.gens = #[] →
      codeAny (model l.prog w) callerA (.call (.ref fa) ⟨[.ref a],[]⟩) (fun r s' => r = .ok (.ret (.bool true)) ∧ OldK s₁.heap s'.heap ∧ s'.os = s₁.os ∧ AllBare s'.gens) s₁) :
    WalkO q loose XP YP l.row.toRowW d [] (fun f vs => PySem.call f vs) := by
  intro w s₀ s₁ mg mb G Y fa o pm cd doc dV kV ho hd hcd hD hmg hg args vals as hpre hlay hrd hwl hlo
  obtain rfl : dV = .none := Dflts.none hD hdf
  obtain rfl : kV = .none := Dflts.noKw hD
  obtain ⟨a,vs,ns,rfl,rfl,hobj,hints,hlen⟩ := script_of hn hpre hwl
  refine enter_call (codeAny_mono (call w s₀ s₁ mg mb fa o pm cd doc a vs ns G Y ho (fd_plain hd) hcd hmg hobj hints hlen (small_of hlay) hg) fun r s' hq => ?_)
  obtain ⟨rfl,h2,h3,h4⟩ := hq
  exact ⟨.inl ⟨.bool true,.bool true,[],rfl,fun _ => rfl,.bool true,post_true l _,fun _ => ⟨List.Pairwise.nil,fun _ hm => (nomatch hm)⟩⟩,h2,h3,h4⟩
end Att
namespace L2
open PySem PySem.Spec PyProof.Rows
theorem walk_ofW {l : PySem.W.OpenLaw} {n k : Nat} {q : Program} {loose : List Str} {XP : (Str → Option Value) → Heap → Prop} {YP : World → Heap → Prop} {d : DefRec} {K : Params → PySem.W.Frag} {CX : World → CXT} {sp : World → Sp} {x : Str}
    (hn : l.most = some n) (hn2 : n ≤ sizeLine) (hdf : d.params.defaults = []) (hr : Room k callerA)
    (hY : ∀ (w : World) (h : Heap),YP w h → (K w.params).In h)
    (F : ∀ (w : World) (mg : Str → Option Value) (fa : Addr) (h : Heap),(K w.params).In h → h.Ns mainGlobals mg → mg d.name = some (.ref fa) →
      ∃ fd : FuncData,(∀ (s : Shared) (u : Value),BindsTo s fd ⟨[u],[]⟩ [(x,u)]) ∧
        ∀ base : Heap,(K w.params).In base → base.Ns mainGlobals mg → FnOk l.prog w (K w.params) mg base (CX w) k fa fd [x] (sp w))
    (hsp : ∀ (w : World) (H : Hp) (a : Addr) (ns : List Int),ns.length ≤ n → (∀ v ∈ ns,Builtin.Int.intBits v ≤ 1048576) → Only H → SqL (K w.params) H a (ns.map V.int) → sp w [.ref a] H (fun v _ => v = .bl true) fun _ _ _ => False)
    (hCX : ∀ (w : World) (H : Hp) (s : Shared) (e : Value) (s' : Shared),CX w [] H s (fun _ _ _ => False) e s' → False) :
    PySem.W.WalkO q loose XP YP l.row.toRowW d [] (fun f vs => PySem.call f vs) := by
  refine Att.attach_callW hn hdf fun w s₀ s₁ mg mb fa o pm cd doc a vs ns G Y ho hd hcd hmg hobj hints hlen hsm hg => ?_
  have KX := hY w _ Y
  obtain ⟨fd,hb,hF⟩ := F w mg fa _ KX G.T.g hmg
  exact law_call KX G.T.g G.T.b G.T.builtins G.T.nolimit hg hobj hints (Nat.le_trans hlen hn2) hr hF hb (fun H hO hS => hsp w H a ns hlen hsm hO hS) fun H e s' => hCX w H s₁ e s'
end L2
namespace L2
open PySem PySem.Spec PyProof.Rows
section
variable {X : Cx} {CX : CXT} {x : Str} {ps : List Str} {sp : Sp} {j k : Nat} {e : Expr} {es : List Expr} {t : TA} {p pos : Pos} {E : XK} {C : Addr}
end
end L2
namespace L2
open PySem PySem.Spec PyProof.Rows
theorem def_mk {K : PySem.W.Frag} {h : Heap} {mg : Str → Option Value} (X : K.In h) (G : h.Ns mainGlobals mg) {x : Str} {st : Stmt} {ps : List Str} {f : Addr} {oc : Value} {od an : Option Addr} {osl : Array (Option Value)} {kV doc pm cdv ct : Value}
    (a : PySem.W.nsIn K mainGlobals x = some (some (.ref f))) (l : K.lookup f = some ⟨oc,od,.func (PySem.W.fnOf x x (defArgs st) (defBody st) (defScope st) .none kV doc pm an cdv ct),osl⟩) (c : PySem.W.codeIn K cdv x = true) (k : PySem.W.keepIn K (.ref f) = true)
    (b : ∀ (kV doc pm : Value) (an : Option Addr) (cdv ct : Value) (us : List Value),us.length = ps.length → bindArgs (PySem.W.fnOf x x (defArgs st) (defBody st) (defScope st) .none kV doc pm an cdv ct) ⟨us,[]⟩ = pure (ps.zip us)) : Def K mg x st ps :=
  ⟨⟨_,_,fun_mk l c k,PySem.W.mg_of X G a,(fun_mk l c k).binds b⟩⟩
section
variable {P : Program} {w : World} {K : PySem.W.Frag} {mg : Str → Option Value} {base : Heap} {C : Addr}
end
end L2
namespace L2
open PySem PySem.Spec PyProof.Rows
section
variable {X : Cx}
end
end L2
namespace L2
open PySem PySem.Spec PyProof.Rows
set_option maxHeartbeats 1000000 in
structure CEnd (X : Cx) (pins : List (Addr × Obj)) (H : Hp) (C : Addr) : Prop where
  no : H C = none
  ne : C ≠ X.env.locals
  new : X.s₀.heap.objs.size ≤ C
  cl : ∀ x c,X.env.cells.lookup x = some c → c ≠ C
  pn : ∀ p ∈ X.pn ++ pins,p.1 ≠ C
set_option maxHeartbeats 1000000 in
theorem comp_gen {X : Cx} {elt iter tg : Expr} {pos ppos : Pos} {ifs : List Expr} {scope : Scope} {wi : TI} {g : TG} {tc : TT} {te : TE} {use : Option (Value → Sem Unit)} {Qf : Value → Shared → Prop} (own : List Str) (js : List Nat) (N' : List Str) (hc : X.calm = true)
    (hi : PI X tg iter wi)
    (hg : ∀ C s₀ H₀ ex,PG (cxComp X scope N' C s₀ H₀ ex) tg g)
    (ht : ∀ C s₀ H₀ ex,PTs (cxComp X scope N' C s₀ H₀ ex) ifs tc)
    (he : ∀ C s₀ H₀ ex,PE (cxComp X scope N' C s₀ H₀ ex) elt te)
    (hN' : N' = own ++ js.map fun j => X.N.getD j Str.empty)
    (hk : scope.kind = .function)
    (hcell : ∀ y ∈ scope.names,y.2 ≠ .cell)
    (hnames : ∀ y ∈ scope.names,y.2 = .local → scope.names.lookup y.1 = some .local)
    (hfr : (scope.names.all fun y => y.2 != .free || X.env.scope.names.lookup y.1 == some .cell) = true)
    (hjs : (js.all fun j => scope.names.lookup (X.N.getD j Str.empty) == some .free && (X.N[j]?).isSome) = true)
    (hs : ∀ z,foldedSetIterable iter X.env z = pure z)
    {pins : List (Addr × Obj)} {s : Shared} {σ : St} {H : Hp} {Q : VK} (I : Inv X pins σ H s) (h : tComp own.length js wi g tc te σ H Q)
    (fin : ∀ (D C : Addr) (H' : Hp) (s4 : Shared) (m : Str → Option Value),Inv X pins σ H' s4 → Q (.ref D) H' → s4.heap.Ns C m → CEnd X pins H' C → compPost (model X.prog X.w) X.A X.xe use Qf (.ref D) C (.ok .next) s4) :
    wpAny (model X.prog X.w) X.A (comprehension (.ListComp elt [⟨tg,iter,ifs,0⟩] scope pos) scope X.env ppos (newList []) false (eval iter X.env) use) Qf X.xe s := by
  have free_cell : ∀ y ∈ scope.names,y.2 = .free → X.env.kindOf y.1 = some .cell := fun y hy hf => by
    have := List.all_eq_true.mp hfr y hy
    rw [hf] at this
    simp at this
    exact this
  have hcl : ∀ y ∈ scope.names,y.2 = .free → ∃ c,X.env.cells.lookup y.1 = some c := fun y hy hf => I.ok.has y.1 (.inl (free_cell y hy hf))
  refine wpAny_comprehension_free (use := use) rfl hs (closureFor_eq hcl) hk hnames ?_
  refine thn (hi pins s σ H _ I h) fun v s1 h1 => thn h1 fun itv s2 h2 => ?_
  obtain ⟨it,fp,tn,J,H2,e,I2,T,st2,f2,W,⟨m0,w0⟩,turn⟩ := h2
  subst e
  refine wpAny_newObj_type (wpAny_newFunctionEnv hcell (by intro y hy; simp at hy) (fun h₁ hns₁ hsb₁ => ?_) hk)
  dsimp only at hns₁ hsb₁ ⊢
  generalize hG : s2.heap.push { cls := .type "list",dict := none,data := .seq ([] : List Value).toArray } = G at hns₁ hsb₁ ⊢
  have hC : G.objs.size = s2.heap.objs.size + 1 := by rw [← hG,Heap.size_push]
  have hDC : s2.heap.objs.size ≠ G.objs.size := by rw [hC]; exact Nat.ne_of_lt (Nat.lt_succ_self _)
  have below : ∀ b,b < s2.heap.objs.size → b ≠ G.objs.size ∧ b ≠ s2.heap.objs.size := fun b hb => ⟨by rw [hC]; exact Nat.ne_of_lt (Nat.lt_succ_of_lt hb),Nat.ne_of_lt hb⟩
  have old : ∀ b o,s2.heap.get? b = some o → h₁.get? b = some o := fun b o e => hsb₁.extBut b o (below b (Heap.lt_size e)).1 (Heap.get?_push_of_some _ (hG ▸ Heap.get?_push_of_some _ e))
  have hacc : h₁.get? s2.heap.objs.size = some { cls := .type "list",data := .seq ([] : List Value).toArray 0 } := hsb₁.extBut _ _ hDC (Heap.get?_push_of_some _ (hG ▸ Heap.get?_push_size _ rfl))
  have fplt : ∀ b ∈ fp,b < s2.heap.objs.size := fun b hb => let ⟨_,e,_⟩ := T.obj _ _ st2 b hb; Heap.lt_size e
  have ok' : (cxComp X scope N' G.objs.size s2 H2 fp).Ok := by
    refine ⟨I2.ok.mod,hk,I2.ok.glob,I2.ok.blt,by show s2.heap.objs.size ≤ G.objs.size; rw [hC]; exact Nat.le_succ _,fun x y c e1 e2 => I2.ok.inj x y c (lookup_closOf hcl e1) (lookup_closOf hcl e2),fun x hx => ?_,
      fun x c hx _ => (nomatch hx),I2.ok.hd,I2.ok.frames,.inl rfl,fun b hb => ⟨(below b (fplt b hb)).1,fun x c e => (f2 b hb).2.2.2.2.1 x c (lookup_closOf hcl e)⟩,I2.bs,Nat.le_trans I2.ok.bsz I2.sz,fun b o e hb => ?_,fun b hb z => ?_,I2.stack,I2.stkFree⟩
    · have hx' : (relabel scope X.env).names.lookup x = some .cell ∨ (relabel scope X.env).names.lookup x = some .free := hx
      have : (x,NameKind.free) ∈ scope.names ∨ (x,NameKind.cell) ∈ scope.names := by
        rcases hx' with z | z
        · exact relabel_back z (.inl rfl)
        · exact relabel_back z (.inr rfl)
      rcases this with z | z
      · exact has_closOf z
      · exact absurd rfl (hcell _ z)
    · rcases (f2 b hb).2.2.2.1 with z | z
      · exact I2.ok.noex b o e z
      · have h1 : b < X.base.objs.size := Heap.lt_size e
        exact absurd (Nat.lt_of_lt_of_le h1 (Nat.le_trans I2.ok.bsz z)) (Nat.lt_irrefl _)
    · rcases List.mem_cons.mp (I2.stkSub b z) with e | e
      · exact (f2 b hb).2.1 e
      · exact (f2 b hb).2.2.1 e
  have kindCap : ∀ i y,(js.map fun j => X.N.getD j Str.empty)[i]? = some y → ∃ j,js[i]? = some j ∧ X.N[j]? = some y ∧ scope.names.lookup y = some .free := fun i y e => by
    rw [List.getElem?_map] at e
    cases q : js[i]? with
    | none => rw [q] at e; cases e
    | some j =>
      rw [q] at e
      have e' : X.N.getD j Str.empty = y := Option.some.inj e
      have hj := List.all_eq_true.mp hjs j (List.mem_of_getElem? q)
      rw [Bool.and_eq_true] at hj
      obtain ⟨hj1,hj2⟩ := hj
      rw [e'] at hj1
      obtain ⟨z,hz⟩ := Option.isSome_iff_exists.mp hj2
      rw [List.getD_eq_getElem?_getD,hz] at e'
      exact ⟨j,q,by rw [hz]; exact congrArg some e',by simpa using hj1⟩
  have I0 : ∀ tk : Nat,Inv (cxComp X scope N' G.objs.size s2 H2 fp) [(s2.heap.objs.size,{ cls := .type "list",data := .seq ([] : List Value).toArray 0 })] (List.replicate own.length none ++ caps σ js) H2 { s2 with heap := h₁,toks := tk } := fun tk => by
    refine ⟨ok',rfl,I2.bare,Un.kept old,⟨_,hns₁,fun i y v e1 e2 e3 => ?_⟩,fun x c e => ?_,I2.hok.fresh (by show s2.heap.objs.size ≤ G.objs.size; rw [hC]; exact Nat.le_succ _),fun x c e => I2.freeC x c (lookup_closOf hcl e),fun p hp => ?_,I2.hok.kept old, ?_⟩
    · by_cases hlt : i < own.length
      · rw [List.getElem?_append_left (by simpa using hlt),List.getElem?_replicate] at e2
        split at e2 <;> cases e2
      · have e1' : N'[i]? = some y := e1
        rw [hN',List.getElem?_append_right (by omega)] at e1'
        rw [List.getElem?_append_right (by simpa using hlt),List.length_replicate] at e2
        obtain ⟨j,hj,hs2⟩ := caps_get e2
        obtain ⟨j',hj',hN,hfree⟩ := kindCap _ _ e1'
        rw [hj] at hj'; cases hj'
        obtain ⟨m,hm,hl⟩ := I2.loc
        have hcell' : X.env.kindOf y = some .cell := free_cell (y,.free) (PySem.mem_of_lookup hfree) rfl
        obtain ⟨u,r,l⟩ := hl j y v hN hs2 (.inr (.inl hcell'))
        refine ⟨u,r, ?_⟩
        rcases l with ⟨hk',_⟩ | ⟨hk',c,hc',z⟩
        · rw [hcell'] at hk'; cases hk'
        · obtain ⟨c',e'⟩ := has_closOf (env := X.env) (PySem.mem_of_lookup hfree)
          have := lookup_closOf hcl e'
          rw [hc'] at this; cases this
          refine .inr ⟨.inl (lookup_relabel_free I2.ok.kind hfree hcell'),c,e', ?_⟩
          obtain ⟨o,ho,hd⟩ := z
          exact ⟨o,old _ _ ho,hd⟩
    · obtain ⟨v,o,ho,hd⟩ := I2.cell x c (lookup_closOf hcl e)
      exact ⟨v,o,old _ _ ho,hd⟩
    · have hp' : p = (s2.heap.objs.size,{ cls := .type "list",data := .seq ([] : List Value).toArray 0 }) := by
        rcases List.mem_append.mp hp with z | z
        · exact absurd (show p ∈ ([] : List (Addr × Obj)) from z) (by simp)
        · simpa using z
      subst hp'
      refine ⟨hacc,I2.hok.fresh (Nat.le_refl _),hDC,fun z => ?_,fun v z => by cases z⟩
      exact absurd (show s2.heap.objs.size ∈ frs X.stack from z) fun z => by
        rcases List.mem_cons.mp (I2.stkSub _ z) with e | e
        · have := I2.lt
          rw [← e] at this
          exact Nat.lt_irrefl _ this
        · exact I2.nofs (Nat.le_refl _) e
    · show _ = N'.length
      rw [hN']
      simp [caps]
  have stat : ∀ {H' : Hp} {ob : Obj},(∀ b ∈ fp,H' b = none) → ∀ b ∈ fp,FpOk (cxComp X scope N' G.objs.size s2 H2 fp) [(s2.heap.objs.size,ob)] H' b := fun {H' ob} hn b hb =>
    ⟨hn b hb,(below b (fplt b hb)).1,fun z => ok'.exfs b hb z,.inl hb,fun x c e => (f2 b hb).2.2.2.2.1 x c (lookup_closOf hcl e),fun p hp => by
      have hp' : p = (s2.heap.objs.size,ob) := by
        rcases List.mem_append.mp hp with z | z
        · exact absurd (show p ∈ ([] : List (Addr × Obj)) from z) (by simp)
        · simpa using z
      subst hp'
      exact Ne.symm (below b (fplt b hb)).2⟩
  have loop : ∀ s₃ : Shared,s₃ = { s2 with heap := h₁,toks := s2.toks + ([] : List (Str × Value)).length } →
      codeAny (model X.prog X.w) X.A (.compLoop (.ListComp elt [⟨tg,iter,ifs,0⟩] scope pos) 0 (.ref it) (.ref s2.heap.objs.size) (compEnvC scope (closOf scope X.env) G.objs.size X.env))
        (compPost (model X.prog X.w) X.A X.xe use Qf (.ref s2.heap.objs.size) G.objs.size) s₃ := by
    rintro s₃ rfl
    refine comp_loop (fun n s' => ∃ (i : Nat) (os : St) (H' : Hp) (ys : List V) (its : List Value) (k : Nat),os.length = own.length ∧
      Inv (cxComp X scope N' G.objs.size s2 H2 fp) [(s2.heap.objs.size,{ cls := .type "list",data := .seq its.toArray k })] (os ++ caps σ js) H' s' ∧ tn i s'.heap ∧ (∀ b ∈ fp,H' b = none) ∧ Vals ys its ∧ W i n ys H') ?_ m0
      ⟨0,_,H2,[],[],0,by simp,I0 _,T.keep _ _ _ st2 fun b _ o e => old b o e,fun b hb => (f2 b hb).1,.nil,w0⟩
    rintro n s3 ⟨i,os,H3,ys,its,k,hos,I3,st3,fr3,rv3,w3⟩
    have pinD : ∀ {σ' : St} {H' : Hp} {s' : Shared},Inv (cxComp X scope N' G.objs.size s2 H2 fp) [(s2.heap.objs.size,{ cls := .type "list",data := .seq its.toArray k })] σ' H' s' → s'.heap.get? s2.heap.objs.size = some { cls := .type "list",data := .seq its.toArray k } ∧ H' s2.heap.objs.size = none :=
      fun I => let q := I.pin (s2.heap.objs.size,{ cls := .type "list",data := .seq its.toArray k }) (List.mem_append_right _ (by simp)); ⟨q.1,q.2.1⟩
    rcases turn i n ys H3 w3 with ⟨stop,hz,qn⟩ | ⟨go,hz,step⟩
    · refine thn (T.done (cxComp X scope N' G.objs.size s2 H2 fp) rfl rfl rfl hc i _ s3 _ H3 _ I3 (stat fr3) st3 stop) fun r s4 ⟨hr,I4⟩ => ?_
      subst hr
      obtain ⟨hD4,hn4⟩ := pinD I4
      obtain ⟨m,hm,_⟩ := I4.loc
      have hsb : Heap.SameBut G.objs.size s4.heap s4.heap := ⟨rfl,fun _ _ => rfl⟩
      have b4 := I4.base
      have nC : ∀ b o,s2.heap.get? b = some o → b ≠ G.objs.size := fun b o e => (below b (Heap.lt_size e)).1
      have nD : ∀ b o,s2.heap.get? b = some o → b ≠ s2.heap.objs.size := fun b o e => (below b (Heap.lt_size e)).2
      have hok' : HOk X.prog X.w H3 s4.heap := fun b ob e => by
        refine (I4.hok b ob e).stay (fun c w' hc' q => (hsb.2 c ?_).trans q) (fun _ q => q) fun _ _ q => q
        rintro rfl
        rcases hc' with hc' | hc'
        · rw [← hc',show H3 G.objs.size = none from I4.free] at e; cases e
        · rw [show H3 G.objs.size = none from I4.free] at hc'; cases hc'
      have hD' : s4.heap.get? s2.heap.objs.size = some { cls := .type "list",data := .seq its.toArray k } := (hsb.2 _ hDC).trans hD4
      have hCn : H3 G.objs.size = none := I4.free
      have hC2 : s2.heap.objs.size ≤ G.objs.size := by rw [hC]; exact Nat.le_succ _
      refine fin s2.heap.objs.size G.objs.size (upd H3 s2.heap.objs.size (.lst ys)) s4 m ?_ (qn _ hn4) hm ⟨by rw [upd_ne (Ne.symm hDC)]; exact hCn,fun z => ?_,Nat.le_trans I2.sz hC2,fun x c e z => ?_,fun p hp z => ?_⟩
      rotate_left
      · have h9 := I2.lt
        rw [← z] at h9
        exact Nat.lt_irrefl _ (Nat.lt_of_lt_of_le h9 hC2)
      · obtain ⟨v,o,ho,_⟩ := I2.cell x c e
        have h9 := Heap.lt_size ho
        rw [z] at h9
        exact Nat.lt_irrefl _ (Nat.lt_of_lt_of_le h9 hC2)
      · have h9 := Heap.lt_size (I2.pin p hp).1
        rw [z] at h9
        exact Nat.lt_irrefl _ (Nat.lt_of_lt_of_le h9 hC2)
      refine I2.call' (ch := fp) I4.os ⟨fun b o e n hb hx => ?_,fun b o e n hb hx => ?_,fun b o e n hx => ?_,fun b o e hx => ?_,fun b xs q => ?_,fun b o u q => ?_,fun b ps q => ?_⟩ (hok'.track hn4 ⟨hz,its,k,rv3,hD'⟩) I4.bare fun b hb => ⟨(f2 b hb).2.2.2.1,(f2 b hb).2.1,(f2 b hb).2.2.2.2.1,(f2 b hb).2.2.2.2.2⟩
      · exact (hsb.2 b (nC b o e)).trans (b4.keep b o e n hb hx)
      · obtain ⟨sl,e1⟩ := b4.slot b o e n hb hx
        exact ⟨sl,(hsb.2 b (nC b o e)).trans e1⟩
      · rw [upd_ne (nD b o e)]; exact b4.free b o e n hx
      · obtain ⟨o',e1⟩ := b4.there b o e hx
        exact ⟨o',(hsb.2 b (nC b o e)).trans e1⟩
      · have z := b4.tups b xs q
        rw [upd_ne (ne_of_none z hn4)]; exact z
      · have z := b4.frzs b o u q
        rw [upd_ne (ne_of_none z hn4)]; exact z
      · obtain ⟨more,z⟩ := b4.tbls b ps q
        exact ⟨more,by rw [upd_ne (ne_of_none z hn4)]; exact z⟩
    · refine thn (T.item (cxComp X scope N' G.objs.size s2 H2 fp) rfl rfl rfl hc i _ s3 _ H3 _ I3 (stat fr3) st3 go) fun r s4 ⟨u,hr,h4⟩ => ?_
      subst hr
      refine thn h4 fun _ s5 ⟨x,H5,I5,r5,y5,st5,fr5⟩ => ?_
      have fpo := T.obj _ _ st5
      have I5' := I5.pinned (stat fr5) fpo
      refine wpAny_mono (hg _ _ _ _ _ s5 _ H5 x u _ I5' r5 (step x H5 y5 os hos)) (fun _ s6 ⟨σ6,H6,I6,⟨os',hos',e6⟩,q6⟩ => ?_) fun _ _ z => False.elim z
      subst e6
      refine wpAny_mono (ht _ _ _ _ _ s6 _ H6 _ I6 q6) (fun ok s7 ⟨H7,I7,q7⟩ => ?_) fun _ _ z => False.elim z
      have keepFp : ∀ {σ' : St} {H' : Hp} {s' : Shared},Inv (cxComp X scope N' G.objs.size s2 H2 fp) ([(s2.heap.objs.size,{ cls := .type "list",data := .seq its.toArray k })] ++ pinsAt fp s5.heap) σ' H' s' → tn (i + 1) s'.heap ∧ ∀ b ∈ fp,H' b = none := fun I => by
        refine ⟨T.keep _ _ _ st5 fun b hb o e => (I.pin (b,o) (List.mem_append_right _ (List.mem_append_right _ (mem_pinsAt hb e)))).1,fun b hb => ?_⟩
        obtain ⟨o,e,d⟩ := fpo b hb
        exact (I.pin (b,o) (List.mem_append_right _ (List.mem_append_right _ (mem_pinsAt hb e)))).2.1
      cases ok with
      | false =>
        obtain ⟨m',hm',w'⟩ := q7
        obtain ⟨k1,k2⟩ := keepFp I7
        exact ⟨m',hm',i + 1,os',H7,ys,its,k,hos',I7.unpinned,k1,k2,rv3,w'⟩
      | true =>
        rw [if_pos rfl]
        refine wpAny_mono (he _ _ _ _ _ s7 _ H7 _ I7 q7) (fun yv s8 ⟨y,H8,I8,r8,q8⟩ => ?_) fun _ _ z => False.elim z
        obtain ⟨m',hm',w'⟩ := q8
        obtain ⟨k1,k2⟩ := keepFp I8
        have I8' := I8.unpinned
        obtain ⟨hD8,hn8⟩ := pinD I8'
        have hil : its.length < sizeLine := by rw [← rv3.length]; exact hz
        refine call_meets F.slot_list_append ⟨_,hD8,rfl⟩ F.entry_list_append (F.args_list_append_2 _ _) (PySem.list_append _ its.toArray k yv (by rw [List.size_toArray]; omega)) ⟨hD8, ?_⟩
        have q : (s8.heap.update s2.heap.objs.size (Obj.mapSeq fun a => a.push yv)).get? s2.heap.objs.size = some { cls := .type "list",data := .seq (its ++ [yv]).toArray (if (its.toArray.push yv).size == its.toArray.size then k else k + 1) } := by
          have q0 := PySem.IsL.update hD8 (fun a : Array Value => a.push yv)
          have ea : its.toArray.push yv = (its ++ [yv]).toArray := by simp
          rw [← ea]
          exact q0
        refine ⟨m',hm',i + 1,os',H8,ys ++ [y],its ++ [yv],(if (its.toArray.push yv).size == its.toArray.size then k else k + 1),hos', ?_,T.keep _ _ _ k1 fun b hb o e => (Heap.get?_update_other s8.heap _ (below b (fplt b hb)).2.symm).trans e,k2,rv3.append (.cons r8 .nil),w'⟩
        have In : Inv (cxComp X scope N' G.objs.size s2 H2 fp) [] (os' ++ caps σ js) H8 s8 := I8'.pins_of fun p hp => absurd hp (by simp)
        have It : Inv (cxComp X scope N' G.objs.size s2 H2 fp) [] (os' ++ caps σ js) H8 { s8 with heap := s8.heap.update s2.heap.objs.size (Obj.mapSeq fun a => a.push yv) } :=
          In.turned (it := s2.heap.objs.size) (t' := s8.toks) (fun b o hb e => (Heap.get?_update_other s8.heap _ (Ne.symm hb)).trans e) hn8 hDC (.inr (Nat.le_refl _)) (fun x c e z => by
            obtain ⟨v,o,ho,hd⟩ := I8'.cell x c e
            rw [z,hD8] at ho
            cases ho
            cases hd) fun p hp => absurd hp (by simp [cxComp])
        refine It.pins_of fun p hp => ?_
        have hp' : p = (s2.heap.objs.size,{ cls := .type "list",data := .seq (its ++ [yv]).toArray (if (its.toArray.push yv).size == its.toArray.size then k else k + 1) }) := List.mem_singleton.mp hp
        subst hp'
        exact ⟨q,hn8,hDC,(I8'.pin _ (List.mem_append_right _ (List.mem_singleton.mpr rfl))).2.2.2.1,fun v z => by cases z⟩
  exact codeAny_compStart_list (loop _ rfl) (T.self _ 0 _ _ _ (T.keep _ _ _ st2 fun b _ o e => old b o e) (loop _ rfl))
theorem ps_setC {X : Cx} {elt iter : Expr} {x y : Str} {px py pos spos : Pos} {ifs : List Expr} {scope : Scope} {wi : TI} {tc : TT} {te : TE} {i : Nat} (js : List Nat) (N' : List Str) (hN : X.N.Nodup) (hy : X.N[i]? = some y) (hl : Loc X.env.scope y) (hc : X.calm = true)
    (hi : PI X (.Name x px) iter wi)
    (ht : ∀ C s₀ H₀ ex,PTs (cxComp X scope N' C s₀ H₀ ex) ifs tc)
    (he : ∀ C s₀ H₀ ex,PE (cxComp X scope N' C s₀ H₀ ex) elt te)
    (hsw : swapsWith (.ListComp elt [⟨.Name x px,iter,ifs,0⟩] scope pos) (some (.Name y py)) spos.line X.env = pure true := by rfl)
    (hf : X.fn y = true ∨ X.env.scope.names.lookup y = some .local := by first | exact .inl rfl | exact .inr rfl | assumption)
    (nd : N'.Nodup := by decide +kernel)
    (hx : scope.names.lookup x = some .local := by rfl)
    (hN' : N' = [x] ++ js.map fun j => X.N.getD j Str.empty := by rfl)
    (hk : scope.kind = .function := by rfl)
    (hcell : ∀ y ∈ scope.names,y.2 ≠ .cell := by decide +kernel)
    (hnames : ∀ y ∈ scope.names,y.2 = .local → scope.names.lookup y.1 = some .local := by decide +kernel)
    (hfr : (scope.names.all fun y => y.2 != .free || X.env.scope.names.lookup y.1 == some .cell) = true := by rfl)
    (hjs : (js.all fun j => scope.names.lookup (X.N.getD j Str.empty) == some .free && (X.N[j]?).isSome) = true := by rfl)
    (hs : ∀ z,foldedSetIterable iter X.env z = pure z := by intro _; rfl) :
    PS X (.Assign [.Name y py] (.ListComp elt [⟨.Name x px,iter,ifs,0⟩] scope pos) spos) (tAsg (tComp 1 js wi (gName 0) tc te) (gName i)) := by
  intro pins s σ H D I h
  rw [exec_Assign_Name_used _ _ _ _ hsw]
  refine wpAny_bind (wpAny_standAt (wpAny_bind ?_))
  show wpAny _ _ (do let _ ← comprehension (.ListComp elt [⟨.Name x px,iter,ifs,0⟩] scope pos) scope X.env _ (newList []) false (eval iter X.env) (some (assign (.Name y py) X.env))) _ _ s
  refine wpAny_bind (wpAny_mono (comp_gen (use := some (assign (.Name y py) X.env)) (Qf := fun _ s' => SP X pins D .next s') [x] js N' hc hi (fun C s₀ H₀ ex => pg_name (X := cxComp X scope N' C s₀ H₀ ex) (i := 0) nd (by show N'[0]? = some x; rw [hN']; rfl) (Or.inl (lookup_relabel_local hx)) (.inr (lookup_relabel_local hx)))
    ht he hN' hk hcell hnames hfr hjs hs I h ?_) (fun _ s' hq => wpAny_pure (wpAny_pure hq)) fun _ _ e => e)
  intro B C H' s4 m I4 q hn ce
  refine wpAny_assign_Name (store_ok2 I4 hN hy hl (v := .ref B) rfl (fun s5 I5 ⟨a,sb,ha⟩ => ?_) hf)
  have hne : C ≠ a := by
    rcases ha with rfl | ha
    · exact ce.ne
    · exact Ne.symm (ce.cl _ _ ha)
  refine ⟨m,hn.sameBut sb hne,fun h' hsb => ⟨_,H',I5.turned (t' := s5.toks) (it := C) (fun b o hb e => (hsb.2 b hb).trans e) ce.no ce.ne (.inr ce.new) ce.cl ce.pn,q⟩⟩
end L2
namespace L2
open PySem PySem.Spec PyProof.Rows
section
variable {P : Program} {w : World} {A : Around} {E : Value → Shared → Prop} {s : Shared}
theorem nextT_item {it t : Addr} {i : Nat} {its : Array Value} {v : Value} {R : Value → Shared → Prop} (g : IsTupIter s.heap it t i) (ht : IsTup s.heap t its) (hv : its[i]? = some v)
    (k : ∀ h',IsTupIter h' it t (i + 1) → Heap.SameBut it s.heap h' → R v { s with heap := h' }) : wpAny (model P w) A (Builtin.SmallTypes.nextOf (.ref it)) R E s := by
  obtain ⟨ob,e1,c1,d1⟩ := id g
  obtain ⟨ot,e2,_,m,d2⟩ := ht
  unfold Builtin.SmallTypes.nextOf
  refine wpAny_bind (wpAny_callSpecial?_slot (name := Str.ofString "__next__") g.typeIs slot_tupleiter_next (wpAny_call_entry slot_tupleiter_next g.typeIs entry_tupleiter_next (?_ : wpAny _ _ (field (.ref it) 0 >>= _) _ _ s) (args_tupleiter_next _)))
  refine wpAny_bind (wpAny_field e1 d1 (x := .ref t) rfl (?_ : wpAny _ _ (if (Value.ref t == Value.none) = true then _ else _) _ _ s))
  rw [if_neg (fun q => Bool.false_ne_true q : ¬ ((Value.ref t == Value.none) = true))]
  refine wpAny_bind (wpAny_field e1 d1 (x := .int i 0) rfl (wpAny_bind (wpAny_seqItems e2 d2 ?_)))
  simp only [Int.toNat_natCast,hv]
  exact wpAny_bind (wpAny_setField e1 d1 (by simp) (wpAny_pure ⟨v,rfl,wpAny_pure (k _ ⟨_,Heap.get?_update_self _ e1 (Obj.isFreed_of_fields (Obj.data_mapFields d1 _)),(Obj.cls_mapFields ..).trans c1,by rw [Obj.data_mapFields d1]; simp [rawInt]⟩ (Heap.SameBut.update ..))⟩))
theorem nextT_end {it t : Addr} {i : Nat} {its : Array Value} {R : Value → Shared → Prop} (hh : A.handled = none) (g : IsTupIter s.heap it t i) (ht : IsTup s.heap t its) (hv : its[i]? = none)
    (k : ∀ h' e,Heap.ExtBut it s.heap h' → (∃ o,h'.get? e = some o ∧ o.cls = .type "StopIteration") → E (.ref e) { s with heap := h' }) : wpAny (model P w) A (Builtin.SmallTypes.nextOf (.ref it)) R E s := by
  obtain ⟨ob,e1,c1,d1⟩ := id g
  obtain ⟨ot,e2,_,m,d2⟩ := ht
  unfold Builtin.SmallTypes.nextOf
  refine wpAny_bind (wpAny_callSpecial?_slot (name := Str.ofString "__next__") g.typeIs slot_tupleiter_next (wpAny_call_entry slot_tupleiter_next g.typeIs entry_tupleiter_next (?_ : wpAny _ _ (field (.ref it) 0 >>= _) _ _ s) (args_tupleiter_next _)))
  refine wpAny_bind (wpAny_field e1 d1 (x := .ref t) rfl (?_ : wpAny _ _ (if (Value.ref t == Value.none) = true then _ else _) _ _ s))
  rw [if_neg (fun q => Bool.false_ne_true q : ¬ ((Value.ref t == Value.none) = true))]
  refine wpAny_bind (wpAny_field e1 d1 (x := .int i 0) rfl (wpAny_bind (wpAny_seqItems e2 d2 ?_)))
  simp only [Int.toNat_natCast,hv]
  refine wpAny_bind (wpAny_rule (wpAny_bind (wpAny_setField e1 d1 (by simp) (?_ : wpAny _ _ (newExc (.type "StopIteration") [] >>= _) _ _ _))))
  refine wpAny_bind ?_
  simp only [newExc,newTuple]
  refine wpAny_bind (wpAny_newObj_type (wpAny_bind (m := firstArgMember _ _) (wpAny_of_eq (a := Value.none) (by first | rfl | (simp only [firstArgMember]; rfl)) (wpAny_newObj_type ?_ (by size_fits)))) (by size_fits))
  simp only [raiseNew]
  refine wpAny_bind (wpAny_handled ?_)
  have hh' : A.in1.handled = none := hh
  first | rw [hh'] | rw [hh]
  exact wpAny_bind (wpAny_pure (wpAny_throw (k _ _ (((Heap.SameBut.update ..).extBut.push _).push _) ⟨_,Heap.get?_push_size _ rfl,rfl⟩)))
structure ZAt (h : Heap) (z TI TO i1 i2 t1 t2 : Addr) (f : Value) (i : Nat) : Prop where
  hz : IsZip h z TI TO f
  ti : IsPair h TI (.ref i1) (.ref i2)
  to : ∃ a b,IsPair h TO a b
  j1 : IsTupIter h i1 t1 i
  j2 : IsTupIter h i2 t2 i
theorem zipT_item {z TI TO i1 i2 t1 t2 : Addr} {i : Nat} {xs ys : Array Value} {x y : Value} {R : Option Value → Shared → Prop} (D : ZipApart z TI TO i1 i2 t1 t2) (Z : ZAt s.heap z TI TO i1 i2 t1 t2 .none i)
    (h1 : IsTup s.heap t1 xs) (h2 : IsTup s.heap t2 ys) (hx : xs[i]? = some x) (hy : ys[i]? = some y)
    (k : ∀ h',ZAt h' z TI TO i1 i2 t1 t2 (rawInt s.heap.objs.size) (i + 1) → IsPair h' s.heap.objs.size x y → (∀ c o,c ≠ z → c ≠ TO → c ≠ i1 → c ≠ i2 → s.heap.get? c = some o → h'.get? c = some o) → R (some (.ref s.heap.objs.size)) { s with heap := h' }) :
    wpAny (model P w) A (pyNext (.ref z)) R E s := by
  obtain ⟨hz,hTI,⟨a,b,hTO⟩,j1,j2⟩ := Z
  have ty : s.TypeIs (.ref z) "zip" := ⟨_,hz,rfl⟩
  unfold pyNext
  refine wpAny_bind (wpAny_attempt (wpAny_callSpecial?_slot (name := Str.ofString "__next__") ty F.slot_zip_next (wpAny_call_entry F.slot_zip_next ty F.entry_zip_next (?_ : wpAny _ _ (field (.ref z) 2 >>= _) _ _ _) (F.args_zip_next_1 _))))
  refine wpAny_bind (wpAny_field hz rfl (x := .bool false) rfl (?_ : wpAny _ _ (field (.ref z) 3 >>= _) _ _ _))
  refine wpAny_bind (wpAny_field hz rfl (x := .ref TI) rfl (wpAny_bind (wpAny_seqItems hTI rfl (?_ : wpAny _ _ (Builtin.SmallTypes.ownedTupleIsFree (.ref z) >>= _) _ _ _))))
  refine wpAny_bind ?_
  unfold Builtin.SmallTypes.ownedTupleIsFree
  refine wpAny_bind (wpAny_field hz rfl (x := .none) rfl (wpAny_pure ?_))
  simp only [if_true]
  refine wpAny_bind (wpAny_rule (wpAny_bind (wpAny_field hz rfl (x := .ref TO) rfl (wpAny_bind (wpAny_setField_rec hz (by simp) fun g1 hz1 q1 => ?_)))))
  have z1 : IsZip g1 z TI TO .ellipsis := hz1
  refine wpAny_bind ?_
  simp only [List.zipIdx_cons,List.zipIdx_nil,List.forIn_cons,List.forIn_nil]
  refine wpAny_bind (wpAny_bind (wpAny_onRaise (?_ : wpAny _ _ (Builtin.SmallTypes.nextOf (.ref i1) >>= _) _ _ _)))
  refine wpAny_bind (nextT_item (j1.extBut q1.extBut D.i1z) (h1.extBut q1.extBut D.l1z) hx fun g2 n1 q2 => wpAny_pure ?_)
  have p2 : IsPair g2 TO a b := q2.extBut _ _ D.TOi1 (q1.extBut _ _ D.TOz hTO)
  refine wpAny_bind (wpAny_seqItems p2 rfl (wpAny_bind (wpAny_updateSeq_pair p2 fun g3 r3 q3 => wpAny_bind (wpAny_letGo (wpAny_pure ?_)))))
  have p3 : IsPair g3 TO x b := r3
  refine wpAny_bind (wpAny_bind (wpAny_onRaise (?_ : wpAny _ _ (Builtin.SmallTypes.nextOf (.ref i2) >>= _) _ _ _)))
  refine wpAny_bind (nextT_item (((j2.extBut q1.extBut D.i2z).extBut q2.extBut D.i12.symm).extBut q3.extBut D.TOi2.symm) (((h2.extBut q1.extBut D.l2z).extBut q2.extBut D.l2i1).extBut q3.extBut D.l2TO) hy fun g4 n2 q4 => wpAny_pure ?_)
  have p4 : IsPair g4 TO x b := q4.extBut _ _ D.TOi2 p3
  refine wpAny_bind (wpAny_seqItems p4 rfl (wpAny_bind (wpAny_updateSeq_pair p4 fun g5 r5 q5 => wpAny_bind (wpAny_letGo (wpAny_pure (wpAny_pure ?_))))))
  have p5 : IsPair g5 TO x y := r5
  refine wpAny_bind (wpAny_seqItems p5 rfl (wpAny_bind (wpAny_newTuple (?_ : wpAny _ _ (Builtin.SmallTypes.ownedTupleHandOut (.ref z) (.ref g5.objs.size) >>= _) _ _ _))))
  have sz : g5.objs.size = s.heap.objs.size := by rw [q5.1,q4.1,q3.1,q2.1,q1.1]
  have z5 : IsZip g5 z TI TO .ellipsis := q5.extBut _ _ D.TOz.symm (q4.extBut _ _ D.i2z.symm (q3.extBut _ _ D.TOz.symm (q2.extBut _ _ D.i1z.symm z1)))
  have kp : ∀ c o,c ≠ z → c ≠ TO → c ≠ i1 → c ≠ i2 → s.heap.get? c = some o → g5.get? c = some o := fun c o c1 c2 c3 c4 e => q5.extBut _ _ c2 (q4.extBut _ _ c4 (q3.extBut _ _ c2 (q2.extBut _ _ c3 (q1.extBut _ _ c1 e))))
  have m1 : IsTupIter g5 i1 t1 (i + 1) := ((n1.extBut q3.extBut D.TOi1.symm).extBut q4.extBut D.i12).extBut q5.extBut D.TOi1.symm
  have m2 : IsTupIter g5 i2 t2 (i + 1) := n2.extBut q5.extBut D.TOi2.symm
  have lz : z < g5.objs.size := Heap.lt_size z5
  refine wpAny_bind ?_
  unfold Builtin.SmallTypes.ownedTupleHandOut
  have z6 : IsZip (g5.push { cls := .type "tuple",data := .seq #[x,y] }) z TI TO .ellipsis := Heap.get?_push_of_some _ z5
  refine wpAny_bind (wpAny_setField_rec z6 (by simp) fun g7 r7 q7 => ?_)
  have z7 : IsZip g7 z TI TO (rawInt g5.objs.size) := r7
  refine wpAny_setField_rec z7 (by simp) fun g8 r8 q8 => ?_
  have z8 : IsZip g8 z TI TO (rawInt g5.objs.size) := r8
  have up : ∀ c o,c ≠ z → g5.get? c = some o → g8.get? c = some o := fun c o c1 e => q8.extBut _ _ c1 (q7.extBut _ _ c1 (Heap.get?_push_of_some _ e))
  have p8 : IsPair g8 g5.objs.size x y := q8.extBut _ _ (Nat.ne_of_gt lz) (q7.extBut _ _ (Nat.ne_of_gt lz) (Heap.get?_push_size _ rfl))
  rw [sz] at z8 p8
  refine wpAny_pure ⟨_,rfl,wpAny_pure ?_⟩
  show R (some (.ref g5.objs.size)) _
  rw [sz]
  refine k g8 ⟨z8, ?_,⟨_,_,up _ _ D.TOz p5⟩, ?_, ?_⟩ p8 fun c o c1 c2 c3 c4 e => up c o c1 (kp c o c1 c2 c3 c4 e)
  · exact up _ _ D.TIz (kp _ _ D.TIz D.TITO D.TIi1 D.TIi2 hTI)
  · obtain ⟨o,e,r⟩ := m1
    exact ⟨o,up _ _ D.i1z e,r⟩
  · obtain ⟨o,e,r⟩ := m2
    exact ⟨o,up _ _ D.i2z e,r⟩
theorem zipT_end {z TI TO i1 i2 t1 t2 : Addr} {i : Nat} {xs ys : Array Value} {R : Option Value → Shared → Prop} (hh : A.handled = none) (D : ZipApart z TI TO i1 i2 t1 t2) (Z : ZAt s.heap z TI TO i1 i2 t1 t2 .none i)
    (h1 : IsTup s.heap t1 xs) (h2 : IsTup s.heap t2 ys) (hend : xs[i]? = none ∨ ys[i]? = none)
    (k : ∀ h',(∀ c o,c ≠ z → c ≠ TO → c ≠ i1 → c ≠ i2 → s.heap.get? c = some o → h'.get? c = some o) → R none { s with heap := h' }) :
    wpAny (model P w) A (pyNext (.ref z)) R E s := by
  obtain ⟨hz,hTI,⟨a,b,hTO⟩,j1,j2⟩ := Z
  have ty : s.TypeIs (.ref z) "zip" := ⟨_,hz,rfl⟩
  have stp : ∀ h' e,(∀ c o,c ≠ z → c ≠ TO → c ≠ i1 → c ≠ i2 → s.heap.get? c = some o → h'.get? c = some o) → (∃ o,h'.get? e = some o ∧ o.cls = .type "StopIteration") →
      wpAny (model P w) A (do if (← isInstance (.ref e) (.type "StopIteration")) then pure none else throw (.ref e)) R E { s with heap := h' } := by
    rintro h' e kk ⟨o,ho,hc⟩
    exact wpAny_bind (wpAny_isInstance (T := "StopIteration") (b := true) ⟨o,ho,hc⟩ isSubtype_stop (wpAny_pure (k _ kk)))
  unfold pyNext
  refine wpAny_bind (wpAny_attempt (wpAny_callSpecial?_slot (name := Str.ofString "__next__") ty F.slot_zip_next (wpAny_call_entry F.slot_zip_next ty F.entry_zip_next (?_ : wpAny _ _ (field (.ref z) 2 >>= _) _ _ _) (F.args_zip_next_1 _))))
  refine wpAny_bind (wpAny_field hz rfl (x := .bool false) rfl (?_ : wpAny _ _ (field (.ref z) 3 >>= _) _ _ _))
  refine wpAny_bind (wpAny_field hz rfl (x := .ref TI) rfl (wpAny_bind (wpAny_seqItems hTI rfl (?_ : wpAny _ _ (Builtin.SmallTypes.ownedTupleIsFree (.ref z) >>= _) _ _ _))))
  refine wpAny_bind ?_
  unfold Builtin.SmallTypes.ownedTupleIsFree
  refine wpAny_bind (wpAny_field hz rfl (x := .none) rfl (wpAny_pure ?_))
  simp only [if_true]
  refine wpAny_bind (wpAny_rule (wpAny_bind (wpAny_field hz rfl (x := .ref TO) rfl (wpAny_bind (wpAny_setField_rec hz (by simp) fun g1 hz1 q1 => ?_)))))
  have z1 : IsZip g1 z TI TO .ellipsis := hz1
  refine wpAny_bind ?_
  simp only [List.zipIdx_cons,List.zipIdx_nil,List.forIn_cons,List.forIn_nil]
  refine wpAny_bind (wpAny_bind (wpAny_onRaise (?_ : wpAny _ _ (Builtin.SmallTypes.nextOf (.ref i1) >>= _) _ _ _)))
  have fin : ∀ (h2 h' : Heap) (e : Addr),IsZip h2 z TI TO .ellipsis → (∃ o,h2.get? e = some o ∧ o.cls = .type "StopIteration") → e ≠ z := by
    rintro h2 h' e hz2 ⟨o,ho,hc⟩ rfl
    rw [hz2] at ho
    cases ho
    simp at hc
  cases hx : xs[i]? with
  | none =>
    refine wpAny_bind (nextT_end hh (j1.extBut q1.extBut D.i1z) (h1.extBut q1.extBut D.l1z) hx fun g2 e q2 he => ?_)
    have z2 : IsZip g2 z TI TO .ellipsis := q2 _ _ D.i1z.symm z1
    have ne := fin g2 g2 e z2 he
    obtain ⟨oe,he1,he2⟩ := he
    exact wpAny_setField_rec z2 (by simp) fun g3 _ q3 => stp g3 e (fun c o c1 _ c3 _ x => q3.extBut _ _ c1 (q2 _ _ c3 (q1.extBut _ _ c1 x))) ⟨oe,q3.extBut _ _ ne he1,he2⟩
  | some x =>
    have hy : ys[i]? = none := by
      rcases hend with q | q
      · rw [hx] at q; cases q
      · exact q
    refine wpAny_bind (nextT_item (j1.extBut q1.extBut D.i1z) (h1.extBut q1.extBut D.l1z) hx fun g2 n1 q2 => wpAny_pure ?_)
    have p2 : IsPair g2 TO a b := q2.extBut _ _ D.TOi1 (q1.extBut _ _ D.TOz hTO)
    refine wpAny_bind (wpAny_seqItems p2 rfl (wpAny_bind (wpAny_updateSeq_pair p2 fun g3 r3 q3 => wpAny_bind (wpAny_letGo (wpAny_pure ?_)))))
    refine wpAny_bind (wpAny_bind (wpAny_onRaise (?_ : wpAny _ _ (Builtin.SmallTypes.nextOf (.ref i2) >>= _) _ _ _)))
    refine wpAny_bind (nextT_end hh (((j2.extBut q1.extBut D.i2z).extBut q2.extBut D.i12.symm).extBut q3.extBut D.TOi2.symm) (((h2.extBut q1.extBut D.l2z).extBut q2.extBut D.l2i1).extBut q3.extBut D.l2TO) hy fun g4 e q4 he => ?_)
    have z4 : IsZip g4 z TI TO .ellipsis := q4 _ _ D.i2z.symm (q3.extBut _ _ D.TOz.symm (q2.extBut _ _ D.i1z.symm z1))
    have ne := fin g4 g4 e z4 he
    obtain ⟨oe,he1,he2⟩ := he
    exact wpAny_setField_rec z4 (by simp) fun g5 _ q5 => stp g5 e (fun c o c1 c2 c3 c4 x => q5.extBut _ _ c1 (q4 _ _ c4 (q3.extBut _ _ c2 (q2.extBut _ _ c3 (q1.extBut _ _ c1 x))))) ⟨oe,q5.extBut _ _ ne he1,he2⟩
def zH (h : Heap) (t1 t2 : Addr) : Heap :=
  ((((h.push { cls := .type "tuple_iterator",data := .fields #[.ref t1,.int 0 0] }).push { cls := .type "tuple_iterator",data := .fields #[.ref t2,.int 0 0] }).push { cls := .type "tuple",data := .seq #[.ref h.objs.size,.ref (h.objs.size + 1)] }).push { cls := .type "tuple",data := .seq #[.none,.none] }).push { cls := .type "zip",data := .fields #[.none,.bool false,.bool false,.ref (h.objs.size + 2),.ref (h.objs.size + 3)] }
theorem zT_new (t1 t2 : Addr) (xs ys : Array Value) :
    Meets (Builtin.«zip.__new__» ⟨[.type "zip",.ref t1,.ref t2],[]⟩) (fun _ R s => IsTup s.heap t1 xs ∧ IsTup s.heap t2 ys ∧ R (.ok (.ret (.ref (s.heap.objs.size + 4)))) { s with heap := zH s.heap t1 t2 }) :=
  .of_wp fun prog w A R s h => by
    obtain ⟨hp,g,d,tk,os⟩ := s
    obtain ⟨k1,k2,h⟩ := h
    have hsub := sub_zip
    have T1 : IsTup (Shared.heap ⟨hp,g,d,tk,os⟩) t1 xs := k1
    have T2 : IsTup (Shared.heap ⟨hp.push { cls := .type "tuple_iterator",data := .fields #[.ref t1,.int 0 0] },g,d,tk,os⟩) t2 ys := IsTup.push k2 _
    have e1 : (hp.push { cls := .type "tuple_iterator",data := .fields #[.ref t1,.int 0 0] }).objs.size = hp.objs.size + 1 := Heap.size_push ..
    have e2 : ((hp.push { cls := .type "tuple_iterator",data := .fields #[.ref t1,.int 0 0] }).push { cls := .type "tuple_iterator",data := .fields #[.ref t2,.int 0 0] }).objs.size = hp.objs.size + 2 := by rw [Heap.size_push,e1]
    have e3 : (((hp.push { cls := .type "tuple_iterator",data := .fields #[.ref t1,.int 0 0] }).push { cls := .type "tuple_iterator",data := .fields #[.ref t2,.int 0 0] }).push { cls := .type "tuple",data := .seq #[.ref hp.objs.size,.ref (hp.objs.size + 1)] }).objs.size = hp.objs.size + 3 := by rw [Heap.size_push,e2]
    have e4 : ((((hp.push { cls := .type "tuple_iterator",data := .fields #[.ref t1,.int 0 0] }).push { cls := .type "tuple_iterator",data := .fields #[.ref t2,.int 0 0] }).push { cls := .type "tuple",data := .seq #[.ref hp.objs.size,.ref (hp.objs.size + 1)] }).push { cls := .type "tuple",data := .seq #[.none,.none] }).objs.size = hp.objs.size + 4 := by rw [Heap.size_push,e3]
    unfold zH at h
    simp only [← e1,← e2,← e3,← e4] at h
    wp_walk using iter_tuple T1,iter_tuple T2
    exact ⟨_,rfl,h⟩
theorem zT_call {t1 t2 : Addr} {xs ys : Array Value} {R : Value → Shared → Prop} (h1 : IsTup s.heap t1 xs) (h2 : IsTup s.heap t2 ys)
    (k : ∀ h',ZAt h' (s.heap.objs.size + 4) (s.heap.objs.size + 2) (s.heap.objs.size + 3) s.heap.objs.size (s.heap.objs.size + 1) t1 t2 .none 0 → (∀ c o,s.heap.get? c = some o → h'.get? c = some o) → R (.ref (s.heap.objs.size + 4)) { s with heap := h' }) :
    wpAny (model P w) A (call (.type "zip") [.ref t1,.ref t2]) R E s := by
  refine callType_new F.called_zip (by decide) (F.typeCall_zip_2 _ _) (F.newCall_zip_2 _ _) (fun obj => F.args_object_init_3 obj _ _) F.entry_zip_new (zT_new t1 t2 xs ys) ⟨h1,h2, ?_⟩
  have e1 : (s.heap.push { cls := .type "tuple_iterator",data := .fields #[.ref t1,.int 0 0] }).objs.size = s.heap.objs.size + 1 := Heap.size_push ..
  have e2 : ((s.heap.push { cls := .type "tuple_iterator",data := .fields #[.ref t1,.int 0 0] }).push { cls := .type "tuple_iterator",data := .fields #[.ref t2,.int 0 0] }).objs.size = s.heap.objs.size + 2 := by rw [Heap.size_push,e1]
  have e3 : (((s.heap.push { cls := .type "tuple_iterator",data := .fields #[.ref t1,.int 0 0] }).push { cls := .type "tuple_iterator",data := .fields #[.ref t2,.int 0 0] }).push { cls := .type "tuple",data := .seq #[.ref s.heap.objs.size,.ref (s.heap.objs.size + 1)] }).objs.size = s.heap.objs.size + 3 := by rw [Heap.size_push,e2]
  have e4 : ((((s.heap.push { cls := .type "tuple_iterator",data := .fields #[.ref t1,.int 0 0] }).push { cls := .type "tuple_iterator",data := .fields #[.ref t2,.int 0 0] }).push { cls := .type "tuple",data := .seq #[.ref s.heap.objs.size,.ref (s.heap.objs.size + 1)] }).push { cls := .type "tuple",data := .seq #[.none,.none] }).objs.size = s.heap.objs.size + 4 := by rw [Heap.size_push,e3]
  have a5 : (zH s.heap t1 t2).get? (s.heap.objs.size + 4) = some { cls := .type "zip",data := .fields #[.none,.bool false,.bool false,.ref (s.heap.objs.size + 2),.ref (s.heap.objs.size + 3)] } := by
    unfold zH
    have q := Heap.get?_push_size ((((s.heap.push { cls := .type "tuple_iterator",data := .fields #[.ref t1,.int 0 0] }).push { cls := .type "tuple_iterator",data := .fields #[.ref t2,.int 0 0] }).push { cls := .type "tuple",data := .seq #[.ref s.heap.objs.size,.ref (s.heap.objs.size + 1)] }).push { cls := .type "tuple",data := .seq #[.none,.none] }) (o := { cls := .type "zip",data := .fields #[.none,.bool false,.bool false,.ref (s.heap.objs.size + 2),.ref (s.heap.objs.size + 3)] }) rfl
    rw [e4] at q
    exact q
  have a4 : (zH s.heap t1 t2).get? (s.heap.objs.size + 3) = some { cls := .type "tuple",data := .seq #[.none,.none] } := by
    unfold zH
    have q := Heap.get?_push_size (((s.heap.push { cls := .type "tuple_iterator",data := .fields #[.ref t1,.int 0 0] }).push { cls := .type "tuple_iterator",data := .fields #[.ref t2,.int 0 0] }).push { cls := .type "tuple",data := .seq #[.ref s.heap.objs.size,.ref (s.heap.objs.size + 1)] }) (o := { cls := .type "tuple",data := .seq #[.none,.none] }) rfl
    rw [e3] at q
    exact Heap.get?_push_of_some _ q
  have a3 : (zH s.heap t1 t2).get? (s.heap.objs.size + 2) = some { cls := .type "tuple",data := .seq #[.ref s.heap.objs.size,.ref (s.heap.objs.size + 1)] } := by
    unfold zH
    have q := Heap.get?_push_size ((s.heap.push { cls := .type "tuple_iterator",data := .fields #[.ref t1,.int 0 0] }).push { cls := .type "tuple_iterator",data := .fields #[.ref t2,.int 0 0] }) (o := { cls := .type "tuple",data := .seq #[.ref s.heap.objs.size,.ref (s.heap.objs.size + 1)] }) rfl
    rw [e2] at q
    exact Heap.get?_push_of_some _ (Heap.get?_push_of_some _ q)
  have a2 : (zH s.heap t1 t2).get? (s.heap.objs.size + 1) = some { cls := .type "tuple_iterator",data := .fields #[.ref t2,.int 0 0] } := by
    unfold zH
    have q := Heap.get?_push_size (s.heap.push { cls := .type "tuple_iterator",data := .fields #[.ref t1,.int 0 0] }) (o := { cls := .type "tuple_iterator",data := .fields #[.ref t2,.int 0 0] }) rfl
    rw [e1] at q
    exact Heap.get?_push_of_some _ (Heap.get?_push_of_some _ (Heap.get?_push_of_some _ q))
  have a1 : (zH s.heap t1 t2).get? s.heap.objs.size = some { cls := .type "tuple_iterator",data := .fields #[.ref t1,.int 0 0] } := by
    unfold zH
    exact Heap.get?_push_of_some _ (Heap.get?_push_of_some _ (Heap.get?_push_of_some _ (Heap.get?_push_of_some _ (Heap.get?_push_size _ rfl))))
  have kp : ∀ c o,s.heap.get? c = some o → (zH s.heap t1 t2).get? c = some o := fun c o q => by
    unfold zH
    exact Heap.get?_push_of_some _ (Heap.get?_push_of_some _ (Heap.get?_push_of_some _ (Heap.get?_push_of_some _ (Heap.get?_push_of_some _ q))))
  exact ⟨⟨_,a5,rfl⟩,k _ ⟨a5,a3,⟨_,_,a4⟩,⟨_,a1,rfl,rfl⟩,⟨_,a2,rfl,rfl⟩⟩ kp⟩
end
def Itz (K : PySem.W.Frag) (t1 t2 : Addr) : It :=
  ⟨fun i H => ∃ xs ys x y,SqT K H t1 xs ∧ SqT K H t2 ys ∧ xs[i]? = some x ∧ ys[i]? = some y,
   fun i H v H' => ∃ T x y,H T = none ∧ v = .ref T ∧ H' = upd H T (.tup [x,y]) ∧ (∀ xs,SqT K H t1 xs → xs[i]? = some x) ∧ ∀ ys,SqT K H t2 ys → ys[i]? = some y,
   fun i H => ∃ xs ys,SqT K H t1 xs ∧ SqT K H t2 ys ∧ (xs.length ≤ i ∨ ys.length ≤ i)⟩
theorem turn_zipT {P : Program} {w : World} {K : PySem.W.Frag} {elts : List Expr} {k : Nat} {tpos : Pos} {z TI TO i1 i2 t1 t2 : Addr} (D : ZipApart z TI TO i1 i2 t1 t2) :
    Turn P w K (.Tuple elts k tpos) (Itz K t1 t2) [z,TI,TO,i1,i2] z (fun i h => ZAt h z TI TO i1 i2 t1 t2 .none i) where
  mem := by simp
  obj := fun i h st b hb => by
    obtain ⟨hz,hTI,⟨a,c,hTO⟩,⟨o1,e1,_,d1⟩,⟨o2,e2,_,d2⟩⟩ := st
    have hb' : b = z ∨ b = TI ∨ b = TO ∨ b = i1 ∨ b = i2 := by simpa using hb
    rcases hb' with rfl | rfl | rfl | rfl | rfl
    · exact ⟨_,hz,fun v q => by cases q⟩
    · exact ⟨_,hTI,fun v q => by cases q⟩
    · exact ⟨_,hTO,fun v q => by cases q⟩
    · exact ⟨o1,e1,fun v q => by rw [d1] at q; cases q⟩
    · exact ⟨o2,e2,fun v q => by rw [d2] at q; cases q⟩
  keep := fun i h h' st kk => by
    obtain ⟨hz,hTI,⟨a,c,hTO⟩,⟨o1,e1,r1⟩,⟨o2,e2,r2⟩⟩ := st
    exact ⟨kk z (by simp) _ hz,kk TI (by simp) _ hTI,⟨a,c,kk TO (by simp) _ hTO⟩,⟨o1,kk i1 (by simp) _ e1,r1⟩,⟨o2,kk i2 (by simp) _ e2,r2⟩⟩
  item := by
    intro X hP hw hK hc i pins s σ H E I hf st hg
    subst hP hw hK
    obtain ⟨xs,ys,x,y,g1,g2,hx,hy⟩ := hg
    obtain ⟨its1,rv1,p1,_⟩ := I.tuple g1
    obtain ⟨its2,rv2,p2,_⟩ := I.tuple g2
    obtain ⟨u1,hu1,ru1⟩ := rv1.get hx
    obtain ⟨u2,hu2,ru2⟩ := rv2.get hy
    refine zipT_item D st p1 p2 (x := u1) (y := u2) (by simpa using hu1) (by simpa using hu2) fun h1 Z1 hT kp => ⟨_,rfl, ?_⟩
    refine wpAny_letOwnedTupleGo_zip Z1.hz fun h2 hz2 q2 => ?_
    have hTn : H s.heap.objs.size = none := I.fresh
    have new : ∀ b o,s.heap.get? b = some o → b ≠ s.heap.objs.size := fun b o q => Nat.ne_of_lt (Heap.lt_size q)
    have hTz : s.heap.objs.size ≠ z := fun e => new _ _ st.hz e.symm
    have keep : ∀ b o,b ≠ z → b ≠ TO → b ≠ i1 → b ≠ i2 → s.heap.get? b = some o → h2.get? b = some o := fun b o c1 c2 c3 c4 q => (q2.2 b c1).trans (kp b o c1 c2 c3 c4 q)
    have trk : ∀ b o,H b = some o → b ≠ z ∧ b ≠ TO ∧ b ≠ i1 ∧ b ≠ i2 := fun b o q => by
      refine ⟨?_, ?_, ?_, ?_⟩ <;> (intro e; subst e)
      · rw [(hf b (by simp)).1] at q; cases q
      · rw [(hf b (by simp)).1] at q; cases q
      · rw [(hf b (by simp)).1] at q; cases q
      · rw [(hf b (by simp)).1] at q; cases q
    have T2 : h2.get? s.heap.objs.size = some { cls := .type "tuple",data := .seq #[u1,u2] } := (q2.2 _ hTz).trans hT
    have ok2 : HOk X.prog X.w (upd H s.heap.objs.size (.tup [x,y])) h2 := fun b v q => by
      by_cases hb : b = s.heap.objs.size
      · subst hb
        rw [upd_same] at q; cases q
        exact ⟨by show 2 ≤ sizeLine; decide,[u1,u2],.cons ru1 (.cons ru2 .nil),_,T2,rfl,0,rfl⟩
      · rw [upd_ne hb] at q
        refine (I.hok b v q).stay (fun c o hc' r => ?_) (fun c r => by rw [upd_ne (ne_of_none r hTn)]; exact r) fun c ys r => by rw [upd_ne (ne_of_none r hTn)]; exact r
        have : ∃ o,H c = some o := by
          rcases hc' with rfl | hc'
          · exact ⟨_,q⟩
          · exact ⟨_,hc'⟩
        obtain ⟨o',ho⟩ := this
        obtain ⟨n1,n2,n3,n4⟩ := trk c o' ho
        exact keep c o n1 n2 n3 n4 r
    have nin : ∀ {b : Addr},b ∉ [z,TI,TO,i1,i2] → b ≠ z ∧ b ≠ TO ∧ b ≠ i1 ∧ b ≠ i2 := fun {b} q => ⟨fun e => q (by simp [e]),fun e => q (by simp [e]),fun e => q (by simp [e]),fun e => q (by simp [e])⟩
    have I2 : Inv X pins σ (upd H s.heap.objs.size (.tup [x,y])) { s with heap := h2,toks := s.toks } := by
      refine I.call (g' := s.gens) (d' := s.drawn) (t' := s.toks) (ch := [z,TI,TO,i1,i2]) ⟨fun b o q n hb hx => ?_,fun b o q n hb hx => ?_,fun b o q n hx => ?_,fun b o q hx => ?_,fun b ys q => ?_,fun b o ys q => ?_,fun b ys q => ?_⟩ ok2 I.bare (fun b hb => ?_)
      · obtain ⟨n1,n2,n3,n4⟩ := nin hx
        exact keep b o n1 n2 n3 n4 q
      · obtain ⟨n1,n2,n3,n4⟩ := nin hx
        exact ⟨o.slots,keep b o n1 n2 n3 n4 q⟩
      · rw [upd_ne (new b o q)]; exact n
      · obtain ⟨n1,n2,n3,n4⟩ := nin hx
        exact ⟨o,keep b o n1 n2 n3 n4 q⟩
      · rw [upd_ne (ne_of_none q hTn)]; exact q
      · rw [upd_ne (ne_of_none q hTn)]; exact q
      · exact ⟨#[],by rw [upd_ne (ne_of_none q hTn),q]; simp⟩
      · obtain ⟨f0,f1,f2,f3,f4,f5⟩ := hf b hb
        exact ⟨f3,f1,f4,f5⟩
    refine ⟨.ref s.heap.objs.size,_,I2,rfl,⟨_,x,y,hTn,rfl,rfl,fun zs hz' => by rw [I.tuple_inj hz' g1]; exact hx,fun zs hz' => by rw [I.tuple_inj hz' g2]; exact hy⟩, ?_,fun b hb => ?_⟩
    · obtain ⟨_,hTI,⟨a,c,hTO⟩,⟨o1,e1,r1⟩,⟨o2,e2,r2⟩⟩ := Z1
      exact ⟨hz2,(q2.2 _ D.TIz).trans hTI,⟨a,c,(q2.2 _ D.TOz).trans hTO⟩,⟨o1,(q2.2 _ D.i1z).trans e1,r1⟩,⟨o2,(q2.2 _ D.i2z).trans e2,r2⟩⟩
    · rw [upd_ne (fun e => ?_)]
      · exact (hf b hb).1
      · obtain ⟨hz,hTI,⟨a,c,hTO⟩,⟨o1,e1,_⟩,⟨o2,e2,_⟩⟩ := st
        have hb' : b = z ∨ b = TI ∨ b = TO ∨ b = i1 ∨ b = i2 := by simpa using hb
        rcases hb' with rfl | rfl | rfl | rfl | rfl
        · exact new _ _ hz e
        · exact new _ _ hTI e
        · exact new _ _ hTO e
        · exact new _ _ e1 e
        · exact new _ _ e2 e
  done := by
    intro X hP hw hK hc i pins s σ H E I hf st hg
    subst hP hw hK
    obtain ⟨xs,ys,g1,g2,hle⟩ := hg
    obtain ⟨its1,rv1,p1,_⟩ := I.tuple g1
    obtain ⟨its2,rv2,p2,_⟩ := I.tuple g2
    have l1 := rv1.length
    have l2 := rv2.length
    have hend : its1.toArray[i]? = none ∨ its2.toArray[i]? = none := by
      rcases hle with q | q
      · exact .inl (by simp; omega)
      · exact .inr (by simp; omega)
    refine zipT_end (I.ok.hd hc) D st p1 p2 hend fun h' kp => ⟨rfl, ?_⟩
    have nin : ∀ {b : Addr},b ∉ [z,TI,TO,i1,i2] → b ≠ z ∧ b ≠ TO ∧ b ≠ i1 ∧ b ≠ i2 := fun {b} q => ⟨fun e => q (by simp [e]),fun e => q (by simp [e]),fun e => q (by simp [e]),fun e => q (by simp [e])⟩
    have trk : ∀ b o,H b = some o → b ≠ z ∧ b ≠ TO ∧ b ≠ i1 ∧ b ≠ i2 := fun b o q => by
      refine ⟨?_, ?_, ?_, ?_⟩ <;> (intro e; subst e)
      · rw [(hf b (by simp)).1] at q; cases q
      · rw [(hf b (by simp)).1] at q; cases q
      · rw [(hf b (by simp)).1] at q; cases q
      · rw [(hf b (by simp)).1] at q; cases q
    have ok2 : HOk X.prog X.w H h' := fun b v q => by
      refine (I.hok b v q).stay (fun c o hc' r => ?_) (fun c r => r) fun c ys r => r
      have : ∃ o,H c = some o := by
        rcases hc' with rfl | hc'
        · exact ⟨_,q⟩
        · exact ⟨_,hc'⟩
      obtain ⟨o',ho⟩ := this
      obtain ⟨n1,n2,n3,n4⟩ := trk c o' ho
      exact kp c o n1 n2 n3 n4 r
    refine I.call (g' := s.gens) (d' := s.drawn) (t' := s.toks) (ch := [z,TI,TO,i1,i2]) ⟨fun b o q n hb hx => ?_,fun b o q n hb hx => ?_,fun b o q n hx => n,fun b o q hx => ?_,fun b ys q => q,fun b o ys q => q,fun b ys q => ⟨#[],by rw [q]; simp⟩⟩ ok2 I.bare (fun b hb => ?_)
    · obtain ⟨n1,n2,n3,n4⟩ := nin hx
      exact kp b o n1 n2 n3 n4 q
    · obtain ⟨n1,n2,n3,n4⟩ := nin hx
      exact ⟨o.slots,kp b o n1 n2 n3 n4 q⟩
    · obtain ⟨n1,n2,n3,n4⟩ := nin hx
      exact ⟨o,kp b o n1 n2 n3 n4 q⟩
    · obtain ⟨f0,f1,f2,f3,f4,f5⟩ := hf b hb
      exact ⟨f3,f1,f4,f5⟩
  self := fun _ _ _ _ _ st h => wpAny_pyIter_zip st.hz h
theorem zapart {n a b : Nat} (la : a < n) (lb : b < n) : ZipApart (n + 4) (n + 2) (n + 3) n (n + 1) a b := by
  have ne : ∀ {i j : Nat},i < j ∨ j < i → ¬ @Eq Addr i j := fun {i j} h e => by
    have e' : @Eq Nat i j := e
    omega
  exact ⟨ne (by omega),ne (by omega),ne (by omega),ne (by omega),ne (by omega),ne (by omega),ne (by omega),ne (by omega),ne (by omega),ne (by omega),ne (by omega),ne (by omega),ne (by omega),ne (by omega),ne (by omega),ne (by omega),ne (by omega),ne (by omega)⟩
theorem zle {n c : Nat} (h : c = n + 4 ∨ c = n + 2 ∨ c = n + 3 ∨ c = n ∨ c = n + 1) : n ≤ c := by omega
def iZipT (K : PySem.W.Frag) (t1 t2 : TE) : TI := fun σ H R => t1 σ H fun x H1 => t2 σ H1 fun y H2 => ∃ a b,x = .ref a ∧ y = .ref b ∧ (∃ xs,SqT K H2 a xs) ∧ (∃ ys,SqT K H2 b ys) ∧ R (Itz K a b) H2
theorem boot_zip' : bootBuiltins "zip" = some (.type "zip") := by kernel_rfl
theorem pi_zipT {X : Cx} {elts : List Expr} {k : Nat} {tpos p pos : Pos} {l m : Expr} {tl tm : TE} (hm : X.mg "zip" = none) (hl : PE X l tl) (hl2 : PE X m tm) (hg : Gl X "zip" := by rfl) (hs : notStar l = true := by rfl) (hs2 : notStar m = true := by rfl) :
    PI X (.Tuple elts k tpos) (.Call (.Name "zip" p) [l,m] [] pos) (iZipT X.K tl tm) := by
  intro pins s σ H R I h
  refine wpAny_Call_Name_kw (ld_blt I hg hm boot_zip' ?_)
  have h' : (tCons tl (tCons tm tNil)) σ H (fun vs H1 => match vs with | [x,y] => (∃ a b,x = .ref a ∧ y = .ref b ∧ (∃ xs,SqT X.K H1 a xs) ∧ (∃ ys,SqT X.K H1 b ys) ∧ R (Itz X.K a b) H1) | _ => False) := h
  refine PyProof.Rows.callWith_type1 (thn ((pa_c hl (pa_c hl2 pa_nil hs2) hs) pos pins s σ H _ I h') fun us s1 ⟨vs,H1,I1,r1,q1⟩ => ?_) (star_cons hs) (star_none (by simp [hs2]))
  match vs,q1,r1 with
  | [x,y],q1,r1 =>
  obtain ⟨a,b,rfl,rfl,⟨xs,g1⟩,⟨ys,g2⟩,q⟩ := q1
  cases r1 with
  | cons ra rest =>
  obtain ⟨u,rfl,rb⟩ := Vals.one rest
  cases ra
  cases rb
  obtain ⟨its1,rv1,p1,_⟩ := I1.tuple g1
  obtain ⟨its2,rv2,p2,_⟩ := I1.tuple g2
  have la := p1.lt
  have lb := p2.lt
  refine zT_call p1 p2 fun h2 Z kp => ?_
  refine wpAny_pyIter_zip Z.hz ?_
  have I2 : Inv X pins σ H1 { s1 with heap := h2 } := I1.kept (t' := s1.toks) kp
  have D : ZipApart (s1.heap.objs.size + 4) (s1.heap.objs.size + 2) (s1.heap.objs.size + 3) s1.heap.objs.size (s1.heap.objs.size + 1) a b := zapart la lb
  refine ⟨_,_,_,_,H1,rfl,I2,turn_zipT D,Z,fun c hc => ?_,q⟩
  have hc2 : s1.heap.objs.size ≤ c := by
    have hc' : c = s1.heap.objs.size + 4 ∨ c = s1.heap.objs.size + 2 ∨ c = s1.heap.objs.size + 3 ∨ c = s1.heap.objs.size ∨ c = s1.heap.objs.size + 1 := by simpa using hc
    exact zle hc'
  exact I1.fpOk hc2 (I1.hok.fresh hc2)
theorem for_zipT {K : PySem.W.Frag} {t1 t2 : Addr} {xs ys : List V} {n : Nat} {g : TG} {tb : TS} {D : Ends} {σ : St} {H : Hp} (hn : n = min xs.length ys.length) (Pv : Nat → St → Hp → Prop) (h0 : Pv 0 σ H) (hl : ∀ i σ H,i ≤ n → Pv i σ H → SqT K H t1 xs ∧ SqT K H t2 ys)
    (hs : ∀ i x y σ H T,xs[i]? = some x → ys[i]? = some y → Pv i σ H → H T = none → g (.ref T) σ (upd H T (.tup [x,y])) fun σ2 H2 => tb { D with nx := Pv (i + 1),ct := Pv (i + 1),bk := D.nx } σ2 H2) (hd : ∀ σ H,Pv n σ H → D.nx σ H) :
    ∃ W : Nat → Nat → St → Hp → Prop,(∃ m,W 0 m σ H) ∧ ∀ i m σ H,W i m σ H →
      ((Itz K t1 t2).stop i H ∧ D.nx σ H) ∨ ((Itz K t1 t2).go i H ∧ ∃ N : St → Hp → Prop,(∀ σ' H',N σ' H' → ∃ m',m' < m ∧ W (i + 1) m' σ' H') ∧ ∀ x H',(Itz K t1 t2).yld i H x H' → g x σ H' fun σ2 H2 => tb { D with nx := N,ct := N,bk := D.nx } σ2 H2) := by
  refine ⟨fun i m σ H => m = n - i ∧ i ≤ n ∧ Pv i σ H,⟨n,by simp,Nat.zero_le _,h0⟩, ?_⟩
  rintro i m σ H ⟨rfl,hi,p⟩
  obtain ⟨q1,q2⟩ := hl i σ H hi p
  by_cases hlt : i < n
  · have a1 : i < xs.length := by omega
    have a2 : i < ys.length := by omega
    refine .inr ⟨⟨xs,ys,xs[i],ys[i],q1,q2,by simp [a1],by simp [a2]⟩,Pv (i + 1),fun σ' H' p' => ⟨n - (i + 1),by omega,rfl,hlt,p'⟩,fun v H' y => ?_⟩
    obtain ⟨T,x',y',hT,rfl,rfl,hx,hy⟩ := y
    exact hs i x' y' σ H T (hx xs q1) (hy ys q2) p hT
  · have e : i = n := by omega
    subst e
    exact .inl ⟨⟨xs,ys,q1,q2,by omega⟩,hd σ H p⟩
end L2
namespace L2
open PySem PySem.Spec PyProof.Rows
@[reducible] def keyBEq : BEq Key := instBEqOfDecidableEq
local instance (priority := 10000) keyBEqI : BEq Key := keyBEq
local instance (priority := 10000) keyLaw : @LawfulBEq Key keyBEq := inferInstanceAs (@LawfulBEq Key instBEqOfDecidableEq)
def addK (σ : List Key) (k : Key) : List Key := if k ∈ σ then σ else σ ++ [k]
def metK (val : Nat → Key) : Nat → List Key
  | 0 => []
  | i + 1 => addK (metK val i) (val i)
theorem metK_le (val : Nat → Key) : ∀ i,(metK val i).length ≤ i
  | 0 => Nat.le_refl _
  | i + 1 => by
    have := metK_le val i
    show (addK (metK val i) (val i)).length ≤ i + 1
    unfold addK
    split
    · omega
    · rw [List.length_append]; simp; omega
def uniqK (ks : List Key) : List Key := metK (fun i => ks.getD i (.inl 0)) ks.length
section
variable {P : Program} {w : World} {A : Around} {R : Result → Shared → Prop} {I : Addr} {fp wr : List Addr} {G : Array GenState → Array GenState → Prop} {n : Nat} {Pr : Nat → Value → Prop} {St : Nat → Shared → Prop}
theorem setFill (W : WalksS P w A.in1 I fp wr G n Pr St) (D : Addr) (hD : D ∉ fp) (val : Nat → Key) (hval : ∀ i v,Pr i v → (mixKind P w).is (val i) v = true ∧ v.scannable = true) (hb : n + 1 < scanBound) :
    ∀ (k i : Nat) (s : Shared),n - i = k → i ≤ n → St i s → s.heap.SetOf (mixKind P w) D (fun q => decide (q ∈ metK val i)) (metK val i).length →
      (∀ s',Moved (D :: wr) G s s' → s'.heap.SetOf (mixKind P w) D (fun q => decide (q ∈ metK val n)) (metK val n).length → R (.ok (.ret .none)) s') →
      codeAny (model P w) A (.builtin "set.update.loop" ⟨[.ref D,.ref I],[]⟩) R s := by
  have hDw : D ∉ wr := fun h => hD (W.sub _ h)
  have sub : ∀ b ∈ wr,b ∈ D :: wr := fun b h => List.mem_cons_of_mem _ h
  have mv : ∀ {s s' : Shared} {T : Key → Bool} {m : Nat},Moved wr G s s' → s.heap.SetOf (mixKind P w) D T m → s'.heap.SetOf (mixKind P w) D T m := fun hm h => by
    obtain ⟨o,es,ep,tb,ho,rest⟩ := h
    exact ⟨o,es,ep,tb,hm.heap D _ hDw ho,rest⟩
  intro k
  induction k with
  | zero =>
    intro i s hk hi hst hS hR
    obtain rfl : i = n := by omega
    refine codeAny_builtin F.entry_set_update_loop ?_
    rw [Around.under_plainId F.plain_set_update_loop _]
    exact wpAny_bind (m := pyNext (.ref I)) (W.done s _ _ hst fun s' hm => wpAny_pure (hR s' (hm.mono sub) (mv hm hS)))
  | succ k ih =>
    intro i s hk hi hst hS hR
    have lt : i < n := by omega
    refine codeAny_builtin F.entry_set_update_loop ?_
    rw [Around.under_plainId F.plain_set_update_loop _]
    refine wpAny_bind (m := pyNext (.ref I)) (W.item i s _ _ lt hst fun v s' hP hst' hm => ?_)
    obtain ⟨hi1,hi2⟩ := hval i v hP
    have hS' := mv hm hS
    refine wpAny_bind (m := holding [v] (setAdd D v)) (wpAny_holding ?_)
    unfold setAdd
    refine wpAny_holding (wpAny_bind ((mixKind P w).pyHash (k := val i) hi1 ?_))
    have room : (metK val i).length + 1 < scanBound := by have := metK_le val i; omega
    refine wpAny_setAddHashed_of (knd := mixKind P w) (s := { s' with toks := s'.toks + 1 }) hi1 hi2 hS' room fun h' sb S2 => ?_
    have Sn : h'.SetOf (mixKind P w) D (fun q => decide (q ∈ metK val (i + 1))) (metK val (i + 1)).length := by
      refine SetOf_congr S2 (fun q => ?_) ?_
      · show (decide (q ∈ metK val i) || decide (q = val i)) = decide (q ∈ addK (metK val i) (val i))
        unfold addK
        by_cases h1 : val i ∈ metK val i
        · rw [if_pos h1]
          by_cases e : q = val i
          · subst e; simp [h1]
          · simp [e]
        · rw [if_neg h1]
          simp
      · show (if decide (val i ∈ metK val i) = true then _ else _) = (addK (metK val i) (val i)).length
        unfold addK
        by_cases h1 : val i ∈ metK val i
        · rw [if_pos h1,if_pos (decide_eq_true h1)]
        · rw [if_neg h1,if_neg (by simpa using h1)]
          simp
    refine wpAny_pure ⟨plainId_quiet F.plain_set_update_loop _,ih (i + 1) _ (by omega) lt (W.frame _ s' _ _ hst' (Nat.le_succ _) fun b hb' o e => ?_) Sn fun s'' m2 T2 => ?_⟩
    · rw [sb.2 b (fun h => hD (h ▸ hb'))]; exact e
    · refine hR s'' (Moved.trans W.gtrans ((hm.mono sub).then_heap (Nat.le_succ _) fun b o hb' e => ?_) m2) T2
      rw [sb.2 b (fun h => hb' (h ▸ List.mem_cons_self))]; exact e
end
section
variable {P : Program} {w : World} {A : Around} {E : Value → Shared → Prop} {s : Shared}
theorem call_set_keys {l : Addr} {items : Array Value} {ks : List Key} {Q : Value → Shared → Prop} (hh : A.handled = none) (hl : s.heap.IsList l items) (hlen : items.size = ks.length) (hi : ∀ i v,items[i]? = some v → (mixKind P w).is (ks.getD i (.inl 0)) v = true ∧ v.scannable = true) (hb : items.size + 1 < scanBound)
    (h : ∀ (h' : Heap) (tk : Nat),h'.SetOf (mixKind P w) s.heap.objs.size (fun q => decide (q ∈ uniqK ks)) (uniqK ks).length → (∀ b o,b < s.heap.objs.size → s.heap.get? b = some o → h'.get? b = some o) → Q (.ref s.heap.objs.size) { s with heap := h',toks := tk }) :
    wpAny (model P w) A (call (.type "set") [.ref l]) Q E s := by
  obtain ⟨c,tl,hmro⟩ := F.called_set.mro
  have hmade := F.called_set.made
  have hsub := F.called_set.sub
  refine wpAny_call (codeAny_of_tree (?_ : wpAny _ _ (callAny (.type "set") _) _ _ _))
  refine wpAny_pure ⟨Code.quiet_builtin _ (by decide +kernel),codeAny_builtin F.entry_type_call ?_⟩
  rw [Around.under_plain (weight_type_call_type "set" [.ref l] []) rfl]
  have k1 := F.called_set.notType
  have k2 := F.called_set.canCreate
  have hct := F.typeCall_set_1 (.ref l)
  repeat (any_goals (first | assumption | wp_step))
  refine codeAny_mono (code_set_new_1 (.ref l) (E := E) (Q₁ := fun obj s₁ => ∃ led : Bool,obj = .ref s.heap.objs.size ∧ s₁ = { s with heap := s.heap.push ⟨.type "set",none,.set #[] 0 (.fresh 0 0 led),#[]⟩ }) fun led => ⟨led,rfl,rfl⟩) fun r s₁ hr => ?_
  cases r with
  | error e => exact hr
  | ok fl =>
    cases fl with
    | ret obj =>
      obtain ⟨led,rfl,rfl⟩ := hr
      have hS : (s.heap.push ⟨.type "set",none,.set #[] 0 (.fresh 0 0 led),#[]⟩).get? s.heap.objs.size = some ⟨.type "set",none,.set #[] 0 (.fresh 0 0 led),#[]⟩ := Heap.get?_push_size _ rfl
      have hT : Shared.TypeIs { s with heap := s.heap.push ⟨.type "set",none,.set #[] 0 (.fresh 0 0 led),#[]⟩ } (.ref s.heap.objs.size) "set" := ⟨_,hS,rfl⟩
      have hli := F.called_set.init.lookup
      have hbi := F.called_set.init.bind (.ref s.heap.objs.size)
      repeat (any_goals (first | assumption | wp_step))
      refine codeAny_mono (codeAny_call_builtin (R := wants (fun r s₂ => r = .none ∧ ∃ h' tk,s₂ = { s with heap := h',toks := tk } ∧ h'.SetOf (mixKind P w) s.heap.objs.size (fun q => decide (q ∈ uniqK ks)) (uniqK ks).length ∧ (∀ b o,b < s.heap.objs.size → s.heap.get? b = some o → h'.get? b = some o)) E) F.called_set.init.plain F.entry_set_init (check_set_init_1 hT ?_)) fun r₂ s₂ hr₂ => ?_
      · obtain ⟨ol,hol,hcl,nl,hdl⟩ := hl
        obtain ⟨ocls,odict,odata,oslots⟩ := ol
        simp only at hcl hdl
        subst hcl; subst hdl
        have hol' : (s.heap.push ⟨.type "set",none,.set #[] 0 (.fresh 0 0 led),#[]⟩).get? l = some { cls := .type "list",dict := odict,data := .seq items nl,slots := oslots } := Heap.get?_push_of_some _ hol
        have hsls := F.sub_list_set
        have hslf := F.sub_list_frozenset
        have hne : (Value.type "list" == Value.type "dict") = false := by decide
        have hl1 : (s.heap.push ⟨.type "set",none,.set #[] 0 (.fresh 0 0 led),#[]⟩).IsList l items := ⟨_,hol',rfl,nl,rfl⟩
        unfold Builtin.«set.__init__» noKeywords Builtin.Frozenset.updateFrom
        generalize hPI : pyIter = PI
        wp_walk
        subst hPI
        refine wpAny_pyIter_list hl1 (wpAny_bind (wpAny_runValue ?_))
        have hlS : l < s.heap.objs.size := Heap.lt_size hol
        have hh3 : A.in1.in1.in1.handled = none := by simp [hh]
        have hneI : l ≠ (s.heap.push ⟨.type "set",none,.set #[] 0 (.fresh 0 0 led),#[]⟩).objs.size := by rw [Heap.size_push]; exact Nat.ne_of_lt (Nat.lt_succ_of_lt hlS)
        have hSf : s.heap.objs.size ∉ [(s.heap.push ⟨.type "set",none,.set #[] 0 (.fresh 0 0 led),#[]⟩).objs.size,l] := by
          rw [Heap.size_push]
          intro q
          rcases List.mem_cons.mp q with q | q
          · exact Nat.ne_of_lt (Nat.lt_succ_self _) q
          · exact Nat.ne_of_gt hlS (List.mem_singleton.mp q)
        refine setFill ((Walks.list hh3 _ l hneI items).toS) s.heap.objs.size hSf (fun i => ks.getD i (.inl 0)) hi hb (items.size - 0) 0 _ (by omega) (Nat.zero_le _) ⟨⟨_,Heap.get?_push_size _ rfl,rfl,rfl⟩,(hl1.push _)⟩ ?hS0 ?hR
        case hS0 =>
          have hget : ((s.heap.push ⟨.type "set",none,.set #[] 0 (.fresh 0 0 led),#[]⟩).push { cls := .type "list_iterator",data := .fields #[.ref l,.int 0 0] }).get? s.heap.objs.size = some ⟨.type "set",none,.set #[] 0 (.fresh 0 0 led),#[]⟩ := Heap.get?_push_of_some _ hS
          exact SetOf_congr ((setObjOf_fresh (knd := mixKind P w) led).setOf hget (by unfold scanBound; omega)) (fun q => by show false = decide (q ∈ ([] : List Key)); simp) rfl
        case hR =>
          intro s' hm hS'
          obtain ⟨h',g',d',tk',os'⟩ := s'
          obtain rfl : g' = s.gens := hm.gens
          obtain rfl : d' = s.drawn := hm.drawn
          obtain rfl : os' = s.os := hm.os
          show wpAny _ _ _ _ _ _
          refine wpAny_pure (?_ : wpAny _ _ (ret Value.none) _ _ _)
          rw [hlen] at hS'
          refine wpAny_pure ⟨rfl,h',tk',rfl,hS',fun b o hb' e => ?_⟩
          have n1 : b ≠ s.heap.objs.size := Nat.ne_of_lt hb'
          have n2 : b ≠ (s.heap.push ⟨.type "set",none,.set #[] 0 (.fresh 0 0 led),#[]⟩).objs.size := by rw [Heap.size_push]; exact Nat.ne_of_lt (Nat.lt_succ_of_lt hb')
          refine hm.heap b o (fun q => ?_) (Heap.get?_push_of_some _ (Heap.get?_push_of_some _ e))
          rcases List.mem_cons.mp q with q | q
          · exact n1 q
          · exact n2 (List.mem_singleton.mp q)
      · cases r₂ with
        | error e => exact hr₂
        | ok fl₂ =>
          cases fl₂ with
          | ret r =>
            obtain ⟨rfl,h',tk,rfl,hS',hk'⟩ := hr₂
            repeat (any_goals (first | assumption | wp_step))
            exact h _ _ hS' hk'
          | _ => exact hr₂.elim
    | _ => exact hr.elim
end
end L2
namespace L2
open PySem PySem.Spec PyProof.Rows
section
variable {X : Cx} {e l : Expr} {te tl : TE} {p pos p2 pos2 : Pos}
def tLenSet (K : PySem.W.Frag) (tl : TE) : TE := fun σ H Q => tl σ H fun x H1 => ∃ a ks,x = .ref a ∧ SqL K H1 a (ks.map kV) ∧ ks.length + 1 < scanBound ∧ Q (.int ((uniqK ks).length : Int)) H1
theorem boot_set : bootBuiltins "set" = some (.type "set") := by kernel_rfl
theorem kV_scan {k : Key} {u : Value} (r : RelV (kV k) u) : u.scannable = true := by
  cases k with
  | inl i => obtain ⟨t,rfl⟩ := (show ∃ t,u = Value.int i t from r); rfl
  | inr x => obtain ⟨t,rfl⟩ := (show ∃ t,u = Value.str x t from r); rfl
theorem pe_lenset (hc : X.calm = true) (h1 : X.mg "len" = none) (h2 : X.mg "set" = none) (hl : PE X l tl) (hg1 : Gl X "len" := by rfl) (hg2 : Gl X "set" := by rfl) (hs : notStar l = true := by rfl) :
    PE X (.Call (.Name "len" p) [.Call (.Name "set" p2) [l] [] pos2] [] pos) (tLenSet X.K tl) := by
  intro pins s σ H Q I h
  refine wpAny_Call_Name_kw (ld_blt I hg1 h1 boot_len ?_)
  refine PyProof.Rows.callWith_builtin1 ?_ (star_cons rfl) (star_none rfl)
  rw [star_cons rfl]
  refine (Calls.spliced_cons ?_ : wpAny _ _ (spliced ((false,eval (.Call (.Name "set" p2) [l] [] pos2) X.env) :: backTo pos (starEach [] X.env))) _ _ s)
  refine wpAny_Call_Name_kw (ld_blt I hg2 h2 boot_set ?_)
  have h' : (tCons tl tNil) σ H (fun vs H1 => match vs with | [x] => (∃ a ks,x = .ref a ∧ SqL X.K H1 a (ks.map kV) ∧ ks.length + 1 < scanBound ∧ Q (.int ((uniqK ks).length : Int)) H1) | _ => False) := h
  refine PyProof.Rows.callWith_type1 (thn ((pa_c hl pa_nil hs) pos2 pins s σ H _ I h') fun us s1 ⟨vs,H1,I1,r1,q1⟩ => ?_) (star_cons hs) (star_none rfl)
  match vs,q1,r1 with
  | [x],q1,r1 =>
  obtain ⟨a,ks,rfl,hq,hb,q⟩ := q1
  obtain ⟨u,rfl,ru⟩ := r1.one
  cases ru
  obtain ⟨its,rv,pl,hz⟩ := I1.list hq
  have hlen := rv.length
  rw [List.length_map] at hlen
  refine call_set_keys (ks := ks) (I1.ok.hd hc) pl.isList (by simpa using hlen.symm) (fun i v hv => ?_) (by rw [List.size_toArray,← hlen]; exact hb) fun h' tk so k => Calls.spliced_nil ?_
  · have hv' : its[i]? = some v := by simpa using hv
    have hi : i < ks.length := by have := (List.getElem?_eq_some_iff.mp hv').1; omega
    obtain ⟨u',e',r'⟩ := rv.get (i := i) (x := kV ks[i]) (by simp [hi])
    rw [e'] at hv'
    cases hv'
    have e2 : ks.getD i (.inl 0) = ks[i] := by simp [List.getD_eq_getElem?_getD,hi]
    rw [e2]
    exact ⟨kV_is r',kV_scan r'⟩
  · obtain ⟨o,es,ep,t,ho,hex,hd,_,_,hsz,hf,hn⟩ := so
    have hbig : scanBound ≤ 2 ^ 62 := by decide
    refine call_len_set ho hex hd hf (by omega) ⟨.int ((uniqK ks).length : Int),H1, ?_,⟨_,by rw [hn]⟩,q⟩
    exact I1.kept fun b o e => k b o (Heap.lt_size e) e
variable {lo hi : Option Expr} {st : Expr} {t1 t2 t3 : TO}
end
section
variable {X : Cx} {pins : List (Addr × Obj)} {σ : St} {H : Hp} {s : Shared}
theorem tyKit {x : V} {u t : Value} (I : Inv X pins σ H s) (rx : RelV x u) (ty : TyOf X.K H x t) : ∃ G : Heap → Prop,PySem.W.KitX X.K u t G ∧ G s.heap ∧ u ≠ .builtin "__main__.__loader__#opaque" := by
  cases ty with
  | non => cases (show u = Value.none from rx); exact ⟨_,PySem.W.kitx_none,True.intro,fun z => nomatch z⟩
  | bl y => cases (show u = Value.bool y from rx); exact ⟨_,PySem.W.kitx_bool,True.intro,fun z => nomatch z⟩
  | int i => obtain ⟨t,rfl⟩ := (show ∃ t,u = Value.int i t from rx); exact ⟨_,PySem.W.kitx_int,True.intro,fun z => nomatch z⟩
  | str y => obtain ⟨t,rfl⟩ := (show ∃ t,u = Value.str y t from rx); exact ⟨_,PySem.W.kitx_str,True.intro,fun z => nomatch z⟩
  | flt y => obtain ⟨t,rfl⟩ := (show ∃ t,u = Value.float y t from rx); exact ⟨_,PySem.W.kitx_float,True.intro,fun z => nomatch z⟩
  | @lst a xs ea =>
    cases (show u = Value.ref a from rx)
    obtain ⟨_,_,n,_,g⟩ := (show ObjOk X.prog X.w H s.heap a (.lst xs) from I.hok a _ ea)
    exact ⟨_,PySem.W.kitx_list,⟨_,g,rfl⟩,fun z => nomatch z⟩
  | @frz a ob xs ea =>
    cases (show u = Value.ref a from rx)
    obtain ⟨_,_,_,n,_,g⟩ := (show ObjOk X.prog X.w H s.heap a (.frz ob (.lst xs)) from I.hok a _ ea)
    exact ⟨_,PySem.W.kitx_list,⟨_,g,rfl⟩,fun z => nomatch z⟩
  | @tup a xs ea =>
    cases (show u = Value.ref a from rx)
    obtain ⟨_,_,_,o,g1,g2,_⟩ := (show ObjOk X.prog X.w H s.heap a (.tup xs) from I.hok a _ ea)
    exact ⟨_,PySem.W.kitx_tuple,⟨o,g1,g2⟩,fun z => nomatch z⟩
  | @dK a kvs ea =>
    cases (show u = Value.ref a from rx)
    obtain ⟨_,_,vs,_,o,es,ep,g1,g2,_⟩ := (show ObjOk X.prog X.w H s.heap a (.dK kvs) from I.hok a _ ea)
    exact ⟨_,PySem.W.kitx_dict,⟨o,g1,g2.1⟩,fun z => nomatch z⟩
  | @dT a kvs ea =>
    cases (show u = Value.ref a from rx)
    obtain ⟨_,_,xs,_,o,es,ep,g1,g2,_⟩ := (show ObjOk X.prog X.w H s.heap a (.dT kvs) from I.hok a _ ea)
    exact ⟨_,PySem.W.kitx_dict,⟨o,g1,g2.1⟩,fun z => nomatch z⟩
  | @ins a C dx fs ea cl ha hn htk hm =>
    cases (show u = Value.ref a from rx)
    obtain ⟨mA,O,_⟩ := ins_get I.hok ea
    obtain ⟨od,J,_⟩ := O.look
    exact ⟨_,PySem.W.kitx_own (cl.get _) cl.hd ha hn htk hm,J,fun z => nomatch z⟩
def rIsiT (K : PySem.W.Frag) (ns : List String) : List V → Hp → VK → Prop := fun xs H Q => ∃ x T t b,xs = [x,.ref T] ∧ H T = some (.tup (ns.map V.ty)) ∧ TyOf K H x t ∧ PySem.W.kitAny K t (ns.map Value.type) = some b ∧ Q (.bl b) H
theorem vals_ty : ∀ {ns : List String} {us : List Value},Vals (ns.map V.ty) us → us = ns.map Value.type
  | [],_,.nil => rfl
  | n :: ns,_,.cons r t => by
    rw [vals_ty t]
    cases (show _ = Value.type n from r)
    rfl
theorem call_isiT (ns : List String) : CallR X (.builtin "isinstance") (rIsiT X.K ns) := by
  intro pins s σ H xs us Q I r h
  obtain ⟨x,T,t,b,rfl,hT,ty,e,q⟩ := h
  cases r with
  | cons rx rest =>
  obtain ⟨u,rfl,ru⟩ := Vals.one rest
  cases ru
  obtain ⟨G,Z,g,ne⟩ := tyKit I rx ty
  obtain ⟨_,its,rv,⟨cl,dd,dt,sl⟩,g1,g2,n,g3⟩ := (show ObjOk X.prog X.w H s.heap T (.tup (ns.map V.ty)) from I.hok T _ hT)
  have g2' : cl = .type "tuple" := g2
  have g3' : dt = .seq its.toArray n := g3
  subst g2' g3'
  exact PySem.W.kia_tup Z I.kIn g g1 (by rw [vals_ty rv]; exact e) ne fun tk => ⟨.bl b,H,I.tok _,rfl,q⟩
end
end L2
namespace L2
open PySem PySem.Spec PyProof.Rows
inductive Bi where
  | p (i : Nat)
  | k (j : Nat)
  | d (j : Nat) (v : V)
def Bi.val (ds us ws : List Value) : Bi → Value
  | .p i => us.getD i .none
  | .k j => ws.getD j .none
  | .d j _ => ds.getD j .none
def Bi.vv (vs zs : List V) : Bi → V
  | .p i => vs.getD i .non
  | .k j => zs.getD j .non
  | .d _ v => v
def Bi.ok (ds : List Value) : Bi → Prop
  | .d j v => RelV v (ds.getD j .none)
  | _ => True
theorem vals_getD {vs : List V} {us : List Value} (r : Vals vs us) (i : Nat) : RelV (vs.getD i .non) (us.getD i .none) := by
  rw [List.getD_eq_getElem?_getD,List.getD_eq_getElem?_getD]
  cases h : vs[i]? with
  | none =>
    have : us[i]? = none := by
      rw [List.getElem?_eq_none_iff] at h ⊢
      have := r.length
      omega
    rw [this]
    rfl
  | some x =>
    obtain ⟨u,hu,ru⟩ := r.get h
    rw [hu]
    exact ru
theorem bi_vals {ds us ws : List Value} {vs zs : List V} (r : Vals vs us) (rz : Vals zs ws) : ∀ {T : List Bi},(∀ b ∈ T,b.ok ds) → Vals (T.map (Bi.vv vs zs)) (T.map (Bi.val ds us ws))
  | [],_ => .nil
  | b :: T,h => by
    refine .cons ?_ (bi_vals r rz fun c hc => h c (List.mem_cons_of_mem _ hc))
    have hb := h b List.mem_cons_self
    cases b with
    | p i => exact vals_getD r i
    | k j => exact vals_getD rz j
    | d j v => exact hb
structure BT (K : PySem.W.Frag) (fd : FuncData) (ps : List Str) (np : Nat) (ks : List Str) (T : List Bi) : Prop where
  ex : ∃ ds : List Value,(∀ b ∈ T,b.ok ds) ∧ ∀ (s : Shared) (self : Value) (us ws : List Value),K.In s.heap → us.length = np → ws.length = ks.length → BindsTo s fd ⟨self :: us,ks.zip ws⟩ (ps.zip (self :: T.map (Bi.val ds us ws)))
theorem bt_mk {K : PySem.W.Frag} {fd : FuncData} {ps : List Str} {np : Nat} {ks : List Str} {T : List Bi} {A : Addr} {o : Obj} {items : List Value} {n : Nat} (hd : fd.defaults = .ref A) (ho : K.lookup A = some o) (hs : o.data = .seq items.toArray n) (hok : ∀ b ∈ T,b.ok items)
    (hb : ∀ (self : Value) (us ws : List Value),us.length = np → ws.length = ks.length → ∃ k,bindArgs fd ⟨self :: us,ks.zip ws⟩ = seqItems? fd.defaults >>= k ∧ k (some items.toArray) = pure (ps.zip (self :: T.map (Bi.val items us ws)))) : BT K fd ps np ks T :=
  ⟨items,hok,fun s self us ws X h1 h2 => let ⟨_,a,b⟩ := hb self us ws h1 h2; PySem.W.binds_K X hd ho hs a b⟩
def okAll (ds : List Value) : List Bi → Prop
  | [] => True
  | b :: T => b.ok ds ∧ okAll ds T
theorem okAll_mem {ds : List Value} : ∀ {T : List Bi},okAll ds T → ∀ b ∈ T,b.ok ds
  | [],_,b,hb => by cases hb
  | c :: T,h,b,hb => by
    rcases List.mem_cons.mp hb with rfl | hb
    · exact h.1
    · exact okAll_mem h.2 b hb
theorem bt_mk' {K : PySem.W.Frag} {fd : FuncData} {ps : List Str} {np : Nat} {ks : List Str} {T : List Bi} {A : Addr} {o : Obj} {items : List Value} {n : Nat} (hd : fd.defaults = .ref A) (ho : K.lookup A = some o) (hs : o.data = .seq items.toArray n) (hok : okAll items T)
    (hb : ∀ (self : Value) (us ws : List Value),us.length = np → ws.length = ks.length → ∃ k,bindArgs fd ⟨self :: us,ks.zip ws⟩ = seqItems? fd.defaults >>= k ∧ k (some items.toArray) = pure (ps.zip (self :: T.map (Bi.val items us ws)))) : BT K fd ps np ks T :=
  bt_mk hd ho hs (okAll_mem hok) hb
structure FunD (K : PySem.W.Frag) (x qual : Str) (st : Stmt) (f : Addr) (fd : FuncData) : Prop where
  ex : ∃ (oc : Value) (od : Option Addr) (dV kV doc pm : Value) (an : Option Addr) (cdv ct : Value) (osl : Array (Option Value)),
    fd = PySem.W.fnOf x qual (defArgs st) (defBody st) (defScope st) dV kV doc pm an cdv ct ∧ K.lookup f = some ⟨oc,od,.func fd,osl⟩ ∧ PySem.W.codeIn K cdv qual = true
section
variable {P : Program} {w : World} {K : PySem.W.Frag} {mg : Str → Option Value} {base : Heap}
end
structure IDefB (K : PySem.W.Frag) (C : Addr) (qual : Str) (st : Stmt) (Bs : PySem.W.Frag → FuncData → Prop) : Prop where
  ex : ∃ f fd,Mk K C f ∧ FunD K "__init__" qual st f fd ∧ Bs K fd
theorem initB_mk {K : PySem.W.Frag} {C : Addr} {qual : Str} {st : Stmt} {Bs : PySem.W.Frag → FuncData → Prop} {f : Addr} {oc : Value} {od an : Option Addr} {osl : Array (Option Value)} {dV kV doc pm cdv ct : Value}
    (a : PySem.W.findIn K (.ref C) "__init__" = some (some (.ref f))) (n : PySem.W.isFn K (.ref f) = true) (l : K.lookup f = some ⟨oc,od,.func (PySem.W.fnOf "__init__" qual (defArgs st) (defBody st) (defScope st) dV kV doc pm an cdv ct),osl⟩) (c : PySem.W.codeIn K cdv qual = true)
    (mk : PySem.W.makesIn K C = true) (kC : PySem.W.keepIn K (.ref C) = true) (b : Bs K (PySem.W.fnOf "__init__" qual (defArgs st) (defBody st) (defScope st) dV kV doc pm an cdv ct)) : IDefB K C qual st Bs :=
  ⟨⟨f,_,⟨mk,a,n,kC⟩,⟨⟨oc,od,dV,kV,doc,pm,an,cdv,ct,osl,rfl,l,c⟩⟩,b⟩⟩
def KnowsIB (CX : CXT) (P : Program) (w : World) (K : PySem.W.Frag) (mg : Str → Option Value) (base : Heap) (k : Nat) (C : Addr) (ps : List Str) (sp : Sp) (Bs : PySem.W.Frag → FuncData → Prop) : Prop :=
  ∃ f fd,Mk K C f ∧ Bs K fd ∧ FnOk P w K mg base CX k f fd ps sp
theorem IDefB.knows {P : Program} {w : World} {K : PySem.W.Frag} {mg : Str → Option Value} {base : Heap} {C : Addr} {CX : CXT} {qual : Str} {st : Stmt} {ps : List Str} {k : Nat} {sp : Sp} {Bs : PySem.W.Frag → FuncData → Prop} (D : IDefB K C qual st Bs)
    (h : ∀ f fd,FunD K "__init__" qual st f fd → FnOk P w K mg base CX k f fd ps sp) : KnowsIB CX P w K mg base k C ps sp Bs := by
  obtain ⟨f,fd,hm,F,hb⟩ := D.ex
  exact ⟨f,fd,hm,hb,h f fd F⟩
def tMakeB (C : Addr) (sp : Sp) (np nk : Nat) (T : List Bi) (E : XK) (t tk : TA) : TE := fun σ H Q => t σ H fun vs H1 => tk σ H1 fun zs H2 => vs.length = np ∧ zs.length = nk ∧
  ∀ x dx,H2 x = none → H2 dx = none → dx ≠ x → sp (.ref x :: T.map (Bi.vv vs zs)) (upd (upd H2 dx (.own x)) x (.ins C dx [])) (fun v H3 => v = .non ∧ Q (.ref x) H3) E
section
variable {X : Cx} {CX : CXT} {x : Str} {ps ks : List Str} {sp : Sp} {j k np : Nat} {T : List Bi} {e : Expr} {es : List Expr} {kws : List Keyword} {t tk : TA} {p pos : Pos} {E : XK} {C f : Addr} {fd : FuncData} {Bs : PySem.W.Frag → FuncData → Prop}
theorem run_makeB {pins : List (Addr × Obj)} {σ : St} {H : Hp} {s : Shared} {Q : VK} {us ws : List Value} {vs zs : List V} (M : Mk X.K C f) (F : FnOk X.prog X.w X.K X.mg X.base CX k f fd ps sp) (hr : Room (k + 1) X.A) (hb : BT X.K fd ps np ks T)
    (hx : Passes CX X E) (I : Inv X pins σ H s) (r : Vals vs us) (rz : Vals zs ws) (l1 : vs.length = np) (l2 : zs.length = ks.length)
    (h : ∀ x dx,H x = none → H dx = none → dx ≠ x → sp (.ref x :: T.map (Bi.vv vs zs)) (upd (upd H dx (.own x)) x (.ins C dx [])) (fun v H2 => v = .non ∧ Q (.ref x) H2) E) :
    wpAny (model X.prog X.w) X.A (call (.ref C) us (ks.zip ws)) (EP X pins σ Q) X.xe s := by
  have hq := h (s.heap.objs.size + 1) s.heap.objs.size (I.hok.fresh (Nat.le_succ _)) (I.hok.fresh (Nat.le_refl _)) (Nat.ne_of_lt (Nat.lt_succ_self _))
  have I2 := Inv.made (C := C) I
  obtain ⟨ds,ok,bt⟩ := hb.ex
  have r2 : Vals (V.ref (s.heap.objs.size + 1) :: T.map (Bi.vv vs zs)) (Value.ref (s.heap.objs.size + 1) :: T.map (Bi.val ds us ws)) := .cons rfl (bi_vals r rz ok)
  refine wpAny_call (make_map (f := f) (vs := us) (kw := ks.zip ws) I.kIn M.makes M.init (beq_iff_eq.mp M.fn) (codeAny_mono (F.run _ X.stack _ _ ⟨Value.ref (s.heap.objs.size + 1) :: us,ks.zip ws⟩ (Value.ref (s.heap.objs.size + 1) :: T.map (Bi.val ds us ws)) _ _ E (hr.make C us _)
    (I2.env0.make C us _) (bt _ _ us ws I2.kIn (by rw [← r.length]; exact l1) (by rw [← rz.length]; exact l2)) r2 hq) fun r s' hq' => ?_))
  cases r with
  | error e => exact hx pins σ _ _ e s' I2 hq'
  | ok fl =>
    cases fl with
    | ret u =>
      obtain ⟨v,H',I3,rv,ev,q3⟩ := I2.after hq'
      subst ev
      exact ⟨rv,⟨V.ref (s.heap.objs.size + 1),H',I3,rfl,q3⟩⟩
    | next => exact False.elim hq'
    | brk => exact False.elim hq'
    | cont => exact False.elim hq'
theorem pe_makeB (F : KnowsIB CX X.prog X.w X.K X.mg X.base j C ps sp Bs) (sel : ∀ fd,Bs X.K fd → BT X.K fd ps np ks T) (hr : Room k X.A) (hm : X.mg x = some (.ref C)) (hx : Passes CX X E) (ha : PA X (e :: es) t) (hkw : PK X kws tk) (hjk : j + 1 ≤ k := by decide) (hg : Gl X x := by rfl)
    (hall : (backToKw pos (keywordEach kws X.env)).all (·.1.isSome) = true := by rfl) (hks : (backToKw pos (keywordEach kws X.env)).filterMap (·.1) = ks := by rfl) (hdb : (x == ("__debug__" : Str)) = false := by decide) (he : notStar e = true := by rfl)
    (hpl : ((backTo pos (starEach (e :: es) X.env)).any (·.1) || (backToKw pos (keywordEach kws X.env)).any (·.1.isNone)) = false := by rfl) :
    PE X (.Call (.Name x p) (e :: es) kws pos) (tMakeB C sp np ks.length T E t tk) := by
  obtain ⟨f,fd,M,hB,F⟩ := F
  have hb := sel fd hB
  intro pins s σ H Q I h
  refine wpAny_Call_Name_kw (ld_glob I hg hm ?_ hdb)
  refine PySem.W.callWith_KW (h₀ := X.base) I.ok.mod.kin M.kp hall (thn (ha pos pins s σ H _ I h) fun us s1 ⟨vs,H1,I1,r,q⟩ => ?_) hpl (star_cons he)
  refine thn (hkw pos pins s1 σ H1 _ I1 q) fun ws s2 ⟨zs,H2,I2,rz,l1,l2,q2⟩ => ⟨I2.kIn, ?_⟩
  rw [hks]
  exact run_makeB M F (hr.mono hjk) hb hx I2 r rz l1 l2 q2
end
end L2
namespace L2
open PySem PySem.Spec PyProof.Rows
section
variable {P : Program} {w : World} {A : Around} {E : Value → Shared → Prop} {s : Shared}
end
namespace F
end F
section
variable {P : Program} {w : World} {A : Around} {R : Result → Shared → Prop} {I : Addr} {fp wr : List Addr} {G : Array GenState → Array GenState → Prop} {n : Nat} {Pr : Nat → Value → Prop} {St : Nat → Shared → Prop}
end
section
variable {P : Program} {w : World} {A : Around} {E : Value → Shared → Prop} {s : Shared}
end
section
variable {X : Cx}
end
end L2
namespace L2
open PySem PySem.Spec PyProof.Rows
section
variable {X : Cx}
end
section
variable {X : Cx} {pins : List (Addr × Obj)} {σ : St} {H : Hp} {s : Shared}
def rIsiO (K : PySem.W.Frag) (C : Addr) : List V → Hp → VK → Prop := fun xs H Q => ∃ x t b,xs = [x,.ref C] ∧ TyOf K H x t ∧ PySem.W.kitOne K t (.ref C) = some b ∧ Q (.bl b) H
theorem call_isiO (C : Addr) : CallR X (.builtin "isinstance") (rIsiO X.K C) := by
  intro pins s σ H xs us Q I r h
  obtain ⟨x,t,b,rfl,ty,e,q⟩ := h
  cases r with
  | cons rx rest =>
  obtain ⟨u,rfl,ru⟩ := Vals.one rest
  cases ru
  exact isinst_ok I rx ty e fun tk => ⟨.bl b,H,I.tok _,rfl,q⟩
end
end L2
namespace L2
open PySem PySem.Spec PyProof.Rows
end L2
namespace L2
open PySem PySem.Spec PyProof.Rows
section
variable {X : Cx} {CX : CXT} {ι : Type} {c : ι → Addr} {m : Str} {ps : List Str} {sp : ι → Sp} {j k : Nat} {o e : Expr} {es : List Expr} {ta : TE} {t : TA} {apos pos : Pos} {E : XK}
end
end L2
namespace L2
open PySem PySem.Spec PyProof.Rows
def CtxOk (h : Heap) (fs : Array Value) : Prop := fs[2]? = some Value.none ∨ ∃ (a1 C1 : Addr) (o1 : Obj) (fs1 : Array Value),fs[2]? = some (Value.ref a1) ∧ h.get? a1 = some o1 ∧ o1.cls = .ref C1 ∧ o1.data = .fields fs1 ∧ fs1[2]? = some Value.none
def Quiet (A : Around) (h : Heap) : Prop := A.handled = none ∨ ∃ (a : Addr) (o : Obj) (fs : Array Value),A.handled = some (.ref a) ∧ h.get? a = some o ∧ o.data = .fields fs ∧ CtxOk h fs
theorem Quiet.ext {A : Around} {h h' : Heap} (q : Quiet A h) (e : ∀ a o,(A.handled = some (.ref a) ∨ ∃ C,o.cls = .ref C) → h.get? a = some o → h'.get? a = some o) : Quiet A h' := by
  rcases q with q | ⟨a,o,fs,a1,a2,a3,a4⟩
  · exact .inl q
  · refine .inr ⟨a,o,fs,a1,e a o (.inl a1) a2,a3, ?_⟩
    rcases a4 with a4 | ⟨b1,C1,o1,fs1,c1,c2,c3,c4,c5⟩
    · exact .inl a4
    · exact .inr ⟨b1,C1,o1,fs1,c1,e b1 o1 (.inr ⟨C1,c3⟩) c2,c3,c4,c5⟩
theorem Quiet.in1 {A : Around} {h : Heap} (q : Quiet A h) : Quiet A.in1 h := q
theorem entry_unchain : entryFor table "proto.unchain" = some Builtin.«proto.unchain» := by kernel_rfl
section
variable {prog : Program} {w : World} {A : Around} {E : Value → Shared → Prop} {s : Shared}
theorem raiseNewQ {α : Type} {x : Addr} {ox : Obj} {vs : Array Value} {Q : α → Shared → Prop} (hq : Quiet A s.heap) (hx : s.heap.get? x = some ox) (hd : ox.data = .fields vs) (h3 : 2 < vs.size) (hne : A.handled ≠ some (.ref x)) (hcx : ∀ C,ox.cls ≠ .ref C)
    (hE : ∀ h',Heap.SameBut x s.heap h' → (∃ o',h'.get? x = some o' ∧ o'.cls = ox.cls) → E (.ref x) { s with heap := h' }) : wpAny (model prog w) A (raiseNew (.ref x) : Sem α) Q E s := by
  simp only [raiseNew]
  refine wpAny_bind (wpAny_handled ?_)
  rcases hq with q | ⟨a,o,fs,a1,a2,a3,a4⟩
  · rw [q]
    exact wpAny_bind (wpAny_pure (wpAny_throw (hE s.heap (Heap.SameBut.refl ..) ⟨_,hx,rfl⟩)))
  · rw [a1]
    have hax : a ≠ x := fun z => hne (by rw [a1,z])
    have hb : ((Value.ref a) != (Value.ref x)) = true := by
      rw [bne_iff_ne]
      exact fun z => hax (by injection z)
    dsimp only
    rw [if_pos hb]
    refine wpAny_bind (wpAny_holding (wpAny_runValue ?_))
    refine codeAny_builtin entry_unchain ?_
    have fin : wpAny (model prog w) A (do updateField x 2 (.ref a); (throw (.ref x) : Sem α)) Q E s := by
      refine wpAny_bind ?_
      simp only [updateField]
      refine wpAny_bind (wpAny_load hx ?_)
      rw [hd]
      dsimp only
      rw [if_pos h3]
      exact wpAny_update hx (wpAny_throw (hE _ (Heap.SameBut.update ..) ⟨_,Heap.get?_update_self _ hx (Obj.isFreed_of_fields (Obj.data_mapFields hd _)),Obj.cls_mapFields ..⟩))
    show wpAny _ _ (field (.ref a) 2 >>= _) _ _ s
    rcases a4 with a4 | ⟨b1,C1,o1,fs1,c1,c2,c3,c4,c5⟩
    · refine wpAny_bind (wpAny_field a2 a3 a4 ?_)
      show wpAny _ _ (ret Value.none) _ _ s
      exact wpAny_pure fin
    · have n1 : b1 ≠ x := fun z => by
        subst z
        rw [hx] at c2; cases c2
        exact hcx C1 c3
      have n2 : b1 ≠ a := fun z => by
        subst z
        rw [a2] at c2; cases c2
        rw [a3] at c4; cases c4
        rw [c1] at c5; cases c5
      refine wpAny_bind (wpAny_field a2 a3 c1 ?_)
      rw [if_neg (by simp),if_neg (by simp [n1]),if_neg (by simp [n2])]
      refine wpAny_bind (wpAny_pure (wpAny_pure ⟨Code.quiet_builtin _ (by decide +kernel),codeAny_builtin entry_unchain ?_⟩))
      show wpAny _ _ (field (.ref b1) 2 >>= _) _ _ s
      refine wpAny_bind (wpAny_field c2 c4 c5 ?_)
      show wpAny _ _ (ret Value.none) _ _ s
      exact wpAny_pure fin
end
end L2
namespace L2
open PySem PySem.Spec PyProof.Rows
def XdOk (H : Hp) (od : Option Addr) : Prop := ∀ dx,od = some dx → ∃ fs,H dx = some (.xd fs)
theorem exc_ok {P : Program} {w : World} {H : Hp} {h : Heap} {a C : Addr} {od oc : Option Addr} (c : Ctx0 a od oc h) (hc : ∃ o,h.get? a = some o ∧ o.cls = .ref C) : ObjOk P w H h a (ExcC a C od oc) := by
  obtain ⟨o,fs,e,d,g,k⟩ := c
  obtain ⟨o',e',q⟩ := hc
  rw [e] at e'; cases e'
  refine ⟨⟨o,fs,e,q,d,g,k⟩,⟨o,e⟩,fun h1 h2 p st => ?_⟩
  obtain ⟨o,fs,e,rest⟩ := p
  exact ⟨o,fs,st o e,rest⟩
theorem exc_at {P : Program} {w : World} {H : Hp} {h : Heap} {a C : Addr} {od oc : Option Addr} (ok : HOk P w H h) (e : H a = some (ExcC a C od oc)) : ∃ o fs,h.get? a = some o ∧ o.cls = .ref C ∧ o.data = .fields fs ∧ fs[2]? = some (ctxV oc) ∧ o.dict = od := (ok a _ e).1
structure ECls (K : PySem.W.Frag) (C : Addr) : Prop where
  ga : PySem.W.findIn K (.ref C) "__getattribute__" = some (some (.builtin "BaseException.__getattribute__"))
  gh : PySem.W.findIn K (.ref C) "__getattr__" = some none
  be : PySem.W.mroIn K C (.type "BaseException") = some true
  hd : PySem.W.hasDictIn K C = true
  ha : PySem.W.findIn K (.ref C) "__class__" = some (some (.builtin "object.__class__"))
  hm : PySem.W.mroIn K C (.type "object") = some true
structure ECls0 (K : PySem.W.Frag) : Prop where
  hn : PySem.W.specialIn K (.builtin "object.__class__") "__get__" = some (some (.builtin "getset_descriptor.__get__"))
  htk : PySem.W.takesIn K (.builtin "object.__class__") = some true
theorem exc_class {prog : Program} {w : World} {A : Around} {E : Value → Shared → Prop} {s : Shared} {K : PySem.W.Frag} {x C : Addr} {ox : Obj} {od : Option Obj} {Q : Option Value → Shared → Prop} (X : K.In s.heap) (I : PySem.W.InstAt s.heap x ox C od) (c : ECls K C) (c0 : ECls0 K)
    (q : Q (some (.ref C)) { s with toks := s.toks + 1 }) : wpAny (model prog w) A (getAttr? (.ref x) "__class__") Q E s := by
  obtain ⟨cd,hcd,_⟩ := PySem.W.any_some c.hd
  have hf : PySem.W.findObj K C od "__class__" = some (.bind (.builtin "getset_descriptor.__get__") (.builtin "object.__class__")) := by
    unfold PySem.W.findObj
    rw [hcd,Option.bind_some,c.ha,Option.bind_some]
    simp [c0.hn,c0.htk]
  obtain ⟨hh,g,d,t,os⟩ := s
  have L0 := I.type (M := model prog w)
  have L1 := PySem.W.looks_findIn (M := model prog w) X c.ga
  have LH : PySem.W.Looks (model prog w) hh (hookBefore (.ref C)) none := PySem.W.looks_hook X (by exact c.gh)
  have L2 := PySem.W.looks_find (M := model prog w) X I hf
  unfold getAttr? getAttrBy? getAttrBy
  refine wpAny_bind (wpAny_mkText (wpAny_bind (wpAny_attempt (wpAny_holding (wpAny_bind (L0.at (wpAny_bind (L1.at ?_))))))))
  dsimp only
  rw [show (onTheHeap (Value.ref C) && Value.builtin "BaseException.__getattribute__" == Value.builtin "object.__getattribute__") = false from by rw [show (Value.builtin "BaseException.__getattribute__" == Value.builtin "object.__getattribute__") = false from by decide +kernel,Bool.and_false],if_neg (by decide)]
  unfold getAttrByItsOwn
  refine wpAny_bind (LH.at (wpAny_bind (wpAny_attempt (wpAny_holding ?_))))
  unfold callGetattribute
  rw [show (false && onTheHeap (Value.builtin "BaseException.__getattribute__")) = false from rfl,if_neg (by decide)]
  unfold boundAndCalled
  rw [F.excAttr_ValueError.ga.bind]
  refine wpAny_bind (wpAny_pure ?_)
  show wpAny _ _ (call (.builtin "BaseException.__getattribute__") [.ref x,.str "__class__" t]) _ _ _
  refine wpAny_call ?_
  refine codeAny_call_builtin F.excAttr_ValueError.ga.plain F.entry_bexc_ga ?_
  refine @PySem.W.check_slot (model prog w) _ _ { heap := hh,gens := g,drawn := d,toks := t + 1,os := os } "BaseException.__getattribute__" "BaseException" "__getattribute__" (.ref x) [.str "__class__" t] [] _ (by decide +kernel) (by decide +kernel) (L0.andThen (PySem.W.looks_subIn X c.be)) (F.args_bexc_ga _ _) ?_
  unfold Builtin.«object.__getattribute__»
  refine wpAny_bind (wpAny_pure (wpAny_bind (wpAny_pure (wpAny_bind (L0.at (wpAny_bind (L2.at ?_)))))))
  show wpAny _ _ (holding [.builtin "object.__class__"] (call (.builtin "getset_descriptor.__get__") [.builtin "object.__class__",.ref x,.ref C]) >>= ret) _ _ _
  refine wpAny_bind (wpAny_holding (wpAny_call (PySem.W.class_get (s := { heap := hh,gens := g,drawn := d,toks := t + 1,os := os }) (ox := ox) (od := od) X I c.hm ?_)))
  refine wpAny_pure ?_
  exact PySem.W.handed_on rfl (wpAny_pure q)
theorem kitx_exc {K : PySem.W.Frag} {a C : Addr} (c : ECls K C) (c0 : ECls0 K) : PySem.W.KitX K (.ref a) (.ref C) (fun h => ∃ ox od,PySem.W.InstAt h a ox C od) := by
  obtain ⟨cd,hcd,_⟩ := PySem.W.any_some c.hd
  have hc : ∃ o,K.lookup C = some o ∧ ∃ d,o.data = .cls d := by
    unfold PySem.W.clsIn at hcd
    split at hcd
    · rename_i ho
      exact ⟨_,ho,_,rfl⟩
    · cases hcd
  obtain ⟨oc,hl,dc,hdc⟩ := hc
  refine ⟨fun M h X p => ?_,fun M h X p => ?_,fun h tp dd its n sl X htp => ?_,fun {prog w A E Q s} X p q => ?_⟩
  · obtain ⟨ox,od,I⟩ := p
    exact I.type
  · intro A' Q' E' s' k q
    unfold isType loadHead
    refine wpAny_bind (wpAny_loadPart (k _ _ (X _ _ hl)) ?_)
    rw [hdc]
    exact wpAny_pure q
  · refine Bool.eq_false_iff.mpr fun q => ?_
    have e : C = tp := Value.ref.inj (beq_iff_eq.mp q)
    subst e
    have z := (X _ _ hl).symm.trans htp
    injection z with z
    rw [z] at hdc
    cases hdc
  · obtain ⟨ox,od,I⟩ := p
    exact exc_class X I c c0 q
section
variable {X : Cx}
def rIsiE (K : PySem.W.Frag) (D : Value) (vD : V) : List V → Hp → VK → Prop := fun xs H Q => ∃ a C od oc b,xs = [.ref a,vD] ∧ H a = some (ExcC a C od oc) ∧ XdOk H od ∧ ECls K C ∧ PySem.W.kitOne K (.ref C) D = some b ∧ Q (.bl b) H
theorem call_isiE {D : Value} {vD : V} (hD : ∀ u,RelV vD u → u = D) (c0 : ECls0 X.K) : CallR X (.builtin "isinstance") (rIsiE X.K D vD) := by
  intro pins s σ H xs us Q I r h
  obtain ⟨a,C,od,oc,b,rfl,e,xd,c,kit,q⟩ := h
  cases r with
  | cons rx rest =>
  obtain ⟨u,rfl,ru⟩ := Vals.one rest
  cases hD _ ru
  cases rx
  obtain ⟨o,fs,e1,e2,e3,e4,e5⟩ := exc_at I.hok e
  have dd : ∃ odo : Option Obj,match o.dict,odo with
    | some dx,some ob => s.heap.get? dx = some ob
    | none,none => True
    | _,_ => False := by
    rw [e5]
    cases od with
    | none => exact ⟨none,trivial⟩
    | some dx =>
      obtain ⟨fs',ed⟩ := xd dx rfl
      obtain ⟨_,⟨ob,_,_,eo,_⟩,_⟩ := I.hok _ _ ed
      exact ⟨some ob,eo⟩
  obtain ⟨odo,dd⟩ := dd
  refine PySem.W.kia_one (kitx_exc c c0) I.kIn ⟨o,odo,e1,e2, ?_,dd⟩ kit (fun z => nomatch z) fun tk => ⟨.bl b,H,I.tok _,rfl,q⟩
  · unfold PySem.W.notCls
    rw [e3]
end
end L2
namespace L2
open PySem PySem.Spec PyProof.Rows
section
variable {prog : Program} {w : World} {A : Around} {E : Value → Shared → Prop} {s : Shared}
theorem stopQ {α : Type} {Q : α → Shared → Prop} (hq : Quiet A s.heap) (hlt : ∀ a,A.handled = some (.ref a) → a < s.heap.objs.size)
    (hE : ∀ x h',s.heap.objs.size ≤ x → (∀ b o,s.heap.get? b = some o → h'.get? b = some o) → (∃ o',h'.get? x = some o' ∧ o'.cls = .type "StopIteration") → E (.ref x) { s with heap := h' }) :
    wpAny (model prog w) A (newExc (.type "StopIteration") [] >>= fun e => (raiseNew e : Sem α)) Q E s := by
  have ht : (s.heap.push { cls := Value.type "tuple",data := Data.seq #[] }).objs.size = s.heap.objs.size + 1 := by simp [Heap.push]
  have none_ : firstArgMember (.type "StopIteration") [] = pure Value.none := by first | rfl | (simp only [firstArgMember]; rfl)
  refine wpAny_bind ?_
  simp only [newExc,newTuple]
  refine wpAny_bind (wpAny_newObj_type (wpAny_bind (m := firstArgMember _ _) (wpAny_of_eq none_ (wpAny_newObj_type ?_ (by size_fits)))) (by size_fits))
  refine raiseNewQ (hq.ext fun a o h1 h2 => Heap.get?_push_of_some _ (Heap.get?_push_of_some _ h2)) (Heap.get?_push_size _ rfl) rfl (show 2 < 6 by decide) (fun z => ?_) (fun C z => by cases z) fun h' sb ho => ?_
  · have h3 : (s.heap.push { cls := Value.type "tuple",data := Data.seq #[] }).objs.size < s.heap.objs.size := hlt _ z
    omega
  · obtain ⟨o',h1,h2⟩ := ho
    refine hE _ h' ?_ (fun b o e => ?_) ⟨o',h1,h2⟩
    · show s.heap.objs.size ≤ (s.heap.push { cls := Value.type "tuple",data := Data.seq #[] }).objs.size
      omega
    · exact (sb.2 b (Nat.ne_of_lt (Nat.lt_of_lt_of_le (Heap.lt_size e) (by rw [ht]; exact Nat.le_succ _)))).trans (Heap.get?_push_of_some _ (Heap.get?_push_of_some _ e))
end
def HQ (A : Around) (H : Hp) : Prop := ∃ a C od oc,A.handled = some (.ref a) ∧ H a = some (ExcC a C od oc) ∧ XcOk H oc
section
variable {X : Cx} {pins : List (Addr × Obj)} {σ : St} {H : Hp} {s : Shared}
theorem HQ.quiet (q : HQ X.A H) (I : Inv X pins σ H s) : Quiet X.A s.heap := by
  obtain ⟨a,C,od,oc,h1,h2,h3⟩ := q
  obtain ⟨o,fs,e1,e2,e3,e4,e5⟩ := exc_at I.hok h2
  refine .inr ⟨a,o,fs,h1,e1,e3, ?_⟩
  cases oc with
  | none => exact .inl e4
  | some a1 =>
    obtain ⟨C1,od1,z⟩ := h3 a1 rfl
    obtain ⟨o1,fs1,z1,z2,z3,z4,_⟩ := exc_at I.hok z
    exact .inr ⟨a1,C1,o1,fs1,e4,z1,z2,z3,z4⟩
theorem HQ.lt (q : HQ X.A H) (I : Inv X pins σ H s) : ∀ a,X.A.handled = some (.ref a) → a < s.heap.objs.size := by
  obtain ⟨a,C,od,oc,h1,h2,h3⟩ := q
  obtain ⟨o,fs,e1,_⟩ := exc_at I.hok h2
  intro b hb
  rw [h1] at hb; cases hb
  exact Heap.lt_size e1
theorem HQ.same {A : Around} {H' : Hp} (q : HQ A H) (e : Same H H') : HQ A H' := by
  obtain ⟨a,C,od,oc,h1,h2,h3⟩ := q
  exact ⟨a,C,od,oc,h1,e _ _ h2,h3.same e⟩
end
end L2
namespace L2
open PySem PySem.Spec PyProof.Rows
structure TurnQ (P : Program) (w : World) (K : PySem.W.Frag) (A0 : Around) (tg : Expr) (J : It) (fp : List Addr) (it : Addr) (tn : Nat → Heap → Prop) : Prop where
  mem : it ∈ fp
  obj : ∀ i h,tn i h → ∀ b ∈ fp,∃ o,h.get? b = some o ∧ ∀ v,o.data ≠ .cell v
  keep : ∀ i h h',tn i h → (∀ b ∈ fp,∀ o,h.get? b = some o → h'.get? b = some o) → tn i h'
  item : ∀ (X : Cx),X.prog = P → X.w = w → X.K = K → X.A = A0 → ∀ (i : Nat) (pins : List (Addr × Obj)) (s : Shared) (σ : St) (H : Hp) (E : Value → Shared → Prop),Inv X pins σ H s → (∀ b ∈ fp,FpOk X pins H b) → tn i s.heap → J.go i H →
    wpAny (model P w) X.A (pyNext (.ref it)) (fun r s1 => ∃ u,r = some u ∧
      wpAny (model P w) X.A (letOwnedTupleGo tg (.ref it) u) (fun _ s2 => ∃ x H',Inv X pins σ H' s2 ∧ RelV x u ∧ J.yld i H x H' ∧ tn (i + 1) s2.heap ∧ ∀ b ∈ fp,H' b = none) E s1) E s
  done : ∀ (X : Cx),X.prog = P → X.w = w → X.K = K → X.A = A0 → ∀ (i : Nat) (pins : List (Addr × Obj)) (s : Shared) (σ : St) (H : Hp) (E : Value → Shared → Prop),Inv X pins σ H s → (∀ b ∈ fp,FpOk X pins H b) → tn i s.heap → J.stop i H →
    wpAny (model P w) X.A (pyNext (.ref it)) (fun r s1 => r = none ∧ Inv X pins σ H s1) E s
  self : ∀ (A : Around) (i : Nat) (s : Shared) (Q : Value → Shared → Prop) (E : Value → Shared → Prop),tn i s.heap → Q (.ref it) s → wpAny (model P w) A (pyIter (.ref it)) Q E s
def PIEQ (X : Cx) (pins : List (Addr × Obj)) (σ : St) (tg : Expr) (R : It → Hp → Prop) (itv : Value) (s2 : Shared) : Prop :=
  ∃ (it : Addr) (fp : List Addr) (tn : Nat → Heap → Prop) (J : It) (H' : Hp),itv = .ref it ∧ Inv X pins σ H' s2 ∧ TurnQ X.prog X.w X.K X.A tg J fp it tn ∧ tn 0 s2.heap ∧ (∀ b ∈ fp,FpOk X pins H' b) ∧ R J H'
def PIQ (X : Cx) (tg iter : Expr) (wi : TI) : Prop :=
  ∀ (pins : List (Addr × Obj)) (s : Shared) (σ : St) (H : Hp) (R : It → Hp → Prop),Inv X pins σ H s → wi σ H R →
    wpAny (model X.prog X.w) X.A (eval iter X.env) (fun v s1 => wpAny (model X.prog X.w) X.A (pyIter v) (PIEQ X pins σ tg R) X.xe s1) X.xe s
set_option maxHeartbeats 1000000 in
theorem pe_compQ {X : Cx} {elt iter tg : Expr} {pos : Pos} {ifs : List Expr} {scope : Scope} {wi : TI} {g : TG} {tc : TT} {te : TE} (own : List Str) (js : List Nat) (N' : List Str)
    (hi : PIQ X tg iter wi)
    (hg : ∀ C s₀ H₀ ex,PG (cxComp X scope N' C s₀ H₀ ex) tg g)
    (ht : ∀ C s₀ H₀ ex,PTs (cxComp X scope N' C s₀ H₀ ex) ifs tc)
    (he : ∀ C s₀ H₀ ex,PE (cxComp X scope N' C s₀ H₀ ex) elt te)
    (hN' : N' = own ++ js.map fun j => X.N.getD j Str.empty := by rfl)
    (hk : scope.kind = .function := by rfl)
    (hcell : ∀ y ∈ scope.names,y.2 ≠ .cell := by decide +kernel)
    (hnames : ∀ y ∈ scope.names,y.2 = .local → scope.names.lookup y.1 = some .local := by decide +kernel)
    (hfr : (scope.names.all fun y => y.2 != .free || X.env.scope.names.lookup y.1 == some .cell) = true := by rfl)
    (hjs : (js.all fun j => scope.names.lookup (X.N.getD j Str.empty) == some .free && (X.N[j]?).isSome) = true := by rfl)
    (hs : ∀ z,foldedSetIterable iter X.env z = pure z := by intro _; rfl) :
    PE X (.ListComp elt [⟨tg,iter,ifs,0⟩] scope pos) (tComp own.length js wi g tc te) := by
  intro pins s σ H Q I h
  have free_cell : ∀ y ∈ scope.names,y.2 = .free → X.env.kindOf y.1 = some .cell := fun y hy hf => by
    have := List.all_eq_true.mp hfr y hy
    rw [hf] at this
    simp at this
    exact this
  have hcl : ∀ y ∈ scope.names,y.2 = .free → ∃ c,X.env.cells.lookup y.1 = some c := fun y hy hf => I.ok.has y.1 (.inl (free_cell y hy hf))
  rw [eval_ListComp]
  refine wpAny_comprehension_free (use := none) rfl hs (closureFor_eq hcl) hk hnames ?_
  refine thn (hi pins s σ H _ I h) fun v s1 h1 => thn h1 fun itv s2 h2 => ?_
  obtain ⟨it,fp,tn,J,H2,e,I2,T,st2,f2,W,⟨m0,w0⟩,turn⟩ := h2
  subst e
  refine wpAny_newObj_type (wpAny_newFunctionEnv hcell (by intro y hy; simp at hy) (fun h₁ hns₁ hsb₁ => ?_) hk)
  dsimp only at hns₁ hsb₁ ⊢
  generalize hG : s2.heap.push { cls := .type "list",dict := none,data := .seq ([] : List Value).toArray } = G at hns₁ hsb₁ ⊢
  have hC : G.objs.size = s2.heap.objs.size + 1 := by rw [← hG,Heap.size_push]
  have hDC : s2.heap.objs.size ≠ G.objs.size := by rw [hC]; exact Nat.ne_of_lt (Nat.lt_succ_self _)
  have below : ∀ b,b < s2.heap.objs.size → b ≠ G.objs.size ∧ b ≠ s2.heap.objs.size := fun b hb => ⟨by rw [hC]; exact Nat.ne_of_lt (Nat.lt_succ_of_lt hb),Nat.ne_of_lt hb⟩
  have old : ∀ b o,s2.heap.get? b = some o → h₁.get? b = some o := fun b o e => hsb₁.extBut b o (below b (Heap.lt_size e)).1 (Heap.get?_push_of_some _ (hG ▸ Heap.get?_push_of_some _ e))
  have hacc : h₁.get? s2.heap.objs.size = some { cls := .type "list",data := .seq ([] : List Value).toArray 0 } := hsb₁.extBut _ _ hDC (Heap.get?_push_of_some _ (hG ▸ Heap.get?_push_size _ rfl))
  have fplt : ∀ b ∈ fp,b < s2.heap.objs.size := fun b hb => let ⟨_,e,_⟩ := T.obj _ _ st2 b hb; Heap.lt_size e
  have ok' : (cxComp X scope N' G.objs.size s2 H2 fp).Ok := by
    refine ⟨I2.ok.mod,hk,I2.ok.glob,I2.ok.blt,by show s2.heap.objs.size ≤ G.objs.size; rw [hC]; exact Nat.le_succ _,fun x y c e1 e2 => I2.ok.inj x y c (lookup_closOf hcl e1) (lookup_closOf hcl e2),fun x hx => ?_,
      fun x c hx _ => (nomatch hx),I2.ok.hd,I2.ok.frames,.inl rfl,fun b hb => ⟨(below b (fplt b hb)).1,fun x c e => (f2 b hb).2.2.2.2.1 x c (lookup_closOf hcl e)⟩,I2.bs,Nat.le_trans I2.ok.bsz I2.sz,fun b o e hb => ?_,fun b hb z => ?_,I2.stack,I2.stkFree⟩
    · have hx' : (relabel scope X.env).names.lookup x = some .cell ∨ (relabel scope X.env).names.lookup x = some .free := hx
      have : (x,NameKind.free) ∈ scope.names ∨ (x,NameKind.cell) ∈ scope.names := by
        rcases hx' with z | z
        · exact relabel_back z (.inl rfl)
        · exact relabel_back z (.inr rfl)
      rcases this with z | z
      · exact has_closOf z
      · exact absurd rfl (hcell _ z)
    · rcases (f2 b hb).2.2.2.1 with z | z
      · exact I2.ok.noex b o e z
      · have h1 : b < X.base.objs.size := Heap.lt_size e
        exact absurd (Nat.lt_of_lt_of_le h1 (Nat.le_trans I2.ok.bsz z)) (Nat.lt_irrefl _)
    · rcases List.mem_cons.mp (I2.stkSub b z) with e | e
      · exact (f2 b hb).2.1 e
      · exact (f2 b hb).2.2.1 e
  have kindCap : ∀ i y,(js.map fun j => X.N.getD j Str.empty)[i]? = some y → ∃ j,js[i]? = some j ∧ X.N[j]? = some y ∧ scope.names.lookup y = some .free := fun i y e => by
    rw [List.getElem?_map] at e
    cases q : js[i]? with
    | none => rw [q] at e; cases e
    | some j =>
      rw [q] at e
      have e' : X.N.getD j Str.empty = y := Option.some.inj e
      have hj := List.all_eq_true.mp hjs j (List.mem_of_getElem? q)
      rw [Bool.and_eq_true] at hj
      obtain ⟨hj1,hj2⟩ := hj
      rw [e'] at hj1
      obtain ⟨z,hz⟩ := Option.isSome_iff_exists.mp hj2
      rw [List.getD_eq_getElem?_getD,hz] at e'
      exact ⟨j,q,by rw [hz]; exact congrArg some e',by simpa using hj1⟩
  have I0 : ∀ tk : Nat,Inv (cxComp X scope N' G.objs.size s2 H2 fp) [(s2.heap.objs.size,{ cls := .type "list",data := .seq ([] : List Value).toArray 0 })] (List.replicate own.length none ++ caps σ js) H2 { s2 with heap := h₁,toks := tk } := fun tk => by
    refine ⟨ok',rfl,I2.bare,Un.kept old,⟨_,hns₁,fun i y v e1 e2 e3 => ?_⟩,fun x c e => ?_,I2.hok.fresh (by show s2.heap.objs.size ≤ G.objs.size; rw [hC]; exact Nat.le_succ _),fun x c e => I2.freeC x c (lookup_closOf hcl e),fun p hp => ?_,I2.hok.kept old, ?_⟩
    · by_cases hlt : i < own.length
      · rw [List.getElem?_append_left (by simpa using hlt),List.getElem?_replicate] at e2
        split at e2 <;> cases e2
      · have e1' : N'[i]? = some y := e1
        rw [hN',List.getElem?_append_right (by omega)] at e1'
        rw [List.getElem?_append_right (by simpa using hlt),List.length_replicate] at e2
        obtain ⟨j,hj,hs2⟩ := caps_get e2
        obtain ⟨j',hj',hN,hfree⟩ := kindCap _ _ e1'
        rw [hj] at hj'; cases hj'
        obtain ⟨m,hm,hl⟩ := I2.loc
        have hcell' : X.env.kindOf y = some .cell := free_cell (y,.free) (PySem.mem_of_lookup hfree) rfl
        obtain ⟨u,r,l⟩ := hl j y v hN hs2 (.inr (.inl hcell'))
        refine ⟨u,r, ?_⟩
        rcases l with ⟨hk',_⟩ | ⟨hk',c,hc',z⟩
        · rw [hcell'] at hk'; cases hk'
        · obtain ⟨c',e'⟩ := has_closOf (env := X.env) (PySem.mem_of_lookup hfree)
          have := lookup_closOf hcl e'
          rw [hc'] at this; cases this
          refine .inr ⟨.inl (lookup_relabel_free I2.ok.kind hfree hcell'),c,e', ?_⟩
          obtain ⟨o,ho,hd⟩ := z
          exact ⟨o,old _ _ ho,hd⟩
    · obtain ⟨v,o,ho,hd⟩ := I2.cell x c (lookup_closOf hcl e)
      exact ⟨v,o,old _ _ ho,hd⟩
    · have hp' : p = (s2.heap.objs.size,{ cls := .type "list",data := .seq ([] : List Value).toArray 0 }) := by
        rcases List.mem_append.mp hp with z | z
        · exact absurd (show p ∈ ([] : List (Addr × Obj)) from z) (by simp)
        · simpa using z
      subst hp'
      refine ⟨hacc,I2.hok.fresh (Nat.le_refl _),hDC,fun z => ?_,fun v z => by cases z⟩
      exact absurd (show s2.heap.objs.size ∈ frs X.stack from z) fun z => by
        rcases List.mem_cons.mp (I2.stkSub _ z) with e | e
        · have := I2.lt
          rw [← e] at this
          exact Nat.lt_irrefl _ this
        · exact I2.nofs (Nat.le_refl _) e
    · show _ = N'.length
      rw [hN']
      simp [caps]
  have stat : ∀ {H' : Hp} {ob : Obj},(∀ b ∈ fp,H' b = none) → ∀ b ∈ fp,FpOk (cxComp X scope N' G.objs.size s2 H2 fp) [(s2.heap.objs.size,ob)] H' b := fun {H' ob} hn b hb =>
    ⟨hn b hb,(below b (fplt b hb)).1,fun z => ok'.exfs b hb z,.inl hb,fun x c e => (f2 b hb).2.2.2.2.1 x c (lookup_closOf hcl e),fun p hp => by
      have hp' : p = (s2.heap.objs.size,ob) := by
        rcases List.mem_append.mp hp with z | z
        · exact absurd (show p ∈ ([] : List (Addr × Obj)) from z) (by simp)
        · simpa using z
      subst hp'
      exact Ne.symm (below b (fplt b hb)).2⟩
  have loop : ∀ s₃ : Shared,s₃ = { s2 with heap := h₁,toks := s2.toks + ([] : List (Str × Value)).length } →
      codeAny (model X.prog X.w) X.A (.compLoop (.ListComp elt [⟨tg,iter,ifs,0⟩] scope pos) 0 (.ref it) (.ref s2.heap.objs.size) (compEnvC scope (closOf scope X.env) G.objs.size X.env))
        (compPost (model X.prog X.w) X.A X.xe none (EP X pins σ Q) (.ref s2.heap.objs.size) G.objs.size) s₃ := by
    rintro s₃ rfl
    refine comp_loop (fun n s' => ∃ (i : Nat) (os : St) (H' : Hp) (ys : List V) (its : List Value) (k : Nat),os.length = own.length ∧
      Inv (cxComp X scope N' G.objs.size s2 H2 fp) [(s2.heap.objs.size,{ cls := .type "list",data := .seq its.toArray k })] (os ++ caps σ js) H' s' ∧ tn i s'.heap ∧ (∀ b ∈ fp,H' b = none) ∧ Vals ys its ∧ W i n ys H') ?_ m0
      ⟨0,_,H2,[],[],0,by simp,I0 _,T.keep _ _ _ st2 fun b _ o e => old b o e,fun b hb => (f2 b hb).1,.nil,w0⟩
    rintro n s3 ⟨i,os,H3,ys,its,k,hos,I3,st3,fr3,rv3,w3⟩
    have pinD : ∀ {σ' : St} {H' : Hp} {s' : Shared},Inv (cxComp X scope N' G.objs.size s2 H2 fp) [(s2.heap.objs.size,{ cls := .type "list",data := .seq its.toArray k })] σ' H' s' → s'.heap.get? s2.heap.objs.size = some { cls := .type "list",data := .seq its.toArray k } ∧ H' s2.heap.objs.size = none :=
      fun I => let q := I.pin (s2.heap.objs.size,{ cls := .type "list",data := .seq its.toArray k }) (List.mem_append_right _ (by simp)); ⟨q.1,q.2.1⟩
    rcases turn i n ys H3 w3 with ⟨stop,hz,qn⟩ | ⟨go,hz,step⟩
    · refine thn (T.done (cxComp X scope N' G.objs.size s2 H2 fp) rfl rfl rfl rfl i _ s3 _ H3 _ I3 (stat fr3) st3 stop) fun r s4 ⟨hr,I4⟩ => ?_
      subst hr
      obtain ⟨hD4,hn4⟩ := pinD I4
      obtain ⟨m,hm,_⟩ := I4.loc
      refine ⟨m,hm,fun h' hsb => ?_⟩
      have b4 := I4.base
      have nC : ∀ b o,s2.heap.get? b = some o → b ≠ G.objs.size := fun b o e => (below b (Heap.lt_size e)).1
      have nD : ∀ b o,s2.heap.get? b = some o → b ≠ s2.heap.objs.size := fun b o e => (below b (Heap.lt_size e)).2
      have hok' : HOk X.prog X.w H3 h' := fun b ob e => by
        refine (I4.hok b ob e).stay (fun c w' hc' q => (hsb.2 c ?_).trans q) (fun _ q => q) fun _ _ q => q
        rintro rfl
        rcases hc' with hc' | hc'
        · rw [← hc',show H3 G.objs.size = none from I4.free] at e; cases e
        · rw [show H3 G.objs.size = none from I4.free] at hc'; cases hc'
      have hD' : h'.get? s2.heap.objs.size = some { cls := .type "list",data := .seq its.toArray k } := (hsb.2 _ hDC).trans hD4
      refine ⟨.ref s2.heap.objs.size,upd H3 s2.heap.objs.size (.lst ys), ?_,rfl,qn _ hn4⟩
      refine I2.call' (ch := fp) I4.os ⟨fun b o e n hb hx => ?_,fun b o e n hb hx => ?_,fun b o e n hx => ?_,fun b o e hx => ?_,fun b xs q => ?_,fun b o u q => ?_,fun b ps q => ?_⟩ (hok'.track hn4 ⟨hz,its,k,rv3,hD'⟩) I4.bare fun b hb => ⟨(f2 b hb).2.2.2.1,(f2 b hb).2.1,(f2 b hb).2.2.2.2.1,(f2 b hb).2.2.2.2.2⟩
      · exact (hsb.2 b (nC b o e)).trans (b4.keep b o e n hb hx)
      · obtain ⟨sl,e1⟩ := b4.slot b o e n hb hx
        exact ⟨sl,(hsb.2 b (nC b o e)).trans e1⟩
      · rw [upd_ne (nD b o e)]; exact b4.free b o e n hx
      · obtain ⟨o',e1⟩ := b4.there b o e hx
        exact ⟨o',(hsb.2 b (nC b o e)).trans e1⟩
      · have z := b4.tups b xs q
        rw [upd_ne (ne_of_none z hn4)]; exact z
      · have z := b4.frzs b o u q
        rw [upd_ne (ne_of_none z hn4)]; exact z
      · obtain ⟨more,z⟩ := b4.tbls b ps q
        exact ⟨more,by rw [upd_ne (ne_of_none z hn4)]; exact z⟩
    · refine thn (T.item (cxComp X scope N' G.objs.size s2 H2 fp) rfl rfl rfl rfl i _ s3 _ H3 _ I3 (stat fr3) st3 go) fun r s4 ⟨u,hr,h4⟩ => ?_
      subst hr
      refine thn h4 fun _ s5 ⟨x,H5,I5,r5,y5,st5,fr5⟩ => ?_
      have fpo := T.obj _ _ st5
      have I5' := I5.pinned (stat fr5) fpo
      refine wpAny_mono (hg _ _ _ _ _ s5 _ H5 x u _ I5' r5 (step x H5 y5 os hos)) (fun _ s6 ⟨σ6,H6,I6,⟨os',hos',e6⟩,q6⟩ => ?_) fun _ _ z => False.elim z
      subst e6
      refine wpAny_mono (ht _ _ _ _ _ s6 _ H6 _ I6 q6) (fun ok s7 ⟨H7,I7,q7⟩ => ?_) fun _ _ z => False.elim z
      have keepFp : ∀ {σ' : St} {H' : Hp} {s' : Shared},Inv (cxComp X scope N' G.objs.size s2 H2 fp) ([(s2.heap.objs.size,{ cls := .type "list",data := .seq its.toArray k })] ++ pinsAt fp s5.heap) σ' H' s' → tn (i + 1) s'.heap ∧ ∀ b ∈ fp,H' b = none := fun I => by
        refine ⟨T.keep _ _ _ st5 fun b hb o e => (I.pin (b,o) (List.mem_append_right _ (List.mem_append_right _ (mem_pinsAt hb e)))).1,fun b hb => ?_⟩
        obtain ⟨o,e,d⟩ := fpo b hb
        exact (I.pin (b,o) (List.mem_append_right _ (List.mem_append_right _ (mem_pinsAt hb e)))).2.1
      cases ok with
      | false =>
        obtain ⟨m',hm',w'⟩ := q7
        obtain ⟨k1,k2⟩ := keepFp I7
        exact ⟨m',hm',i + 1,os',H7,ys,its,k,hos',I7.unpinned,k1,k2,rv3,w'⟩
      | true =>
        rw [if_pos rfl]
        refine wpAny_mono (he _ _ _ _ _ s7 _ H7 _ I7 q7) (fun yv s8 ⟨y,H8,I8,r8,q8⟩ => ?_) fun _ _ z => False.elim z
        obtain ⟨m',hm',w'⟩ := q8
        obtain ⟨k1,k2⟩ := keepFp I8
        have I8' := I8.unpinned
        obtain ⟨hD8,hn8⟩ := pinD I8'
        have hil : its.length < sizeLine := by rw [← rv3.length]; exact hz
        refine call_meets F.slot_list_append ⟨_,hD8,rfl⟩ F.entry_list_append (F.args_list_append_2 _ _) (PySem.list_append _ its.toArray k yv (by rw [List.size_toArray]; omega)) ⟨hD8, ?_⟩
        have q : (s8.heap.update s2.heap.objs.size (Obj.mapSeq fun a => a.push yv)).get? s2.heap.objs.size = some { cls := .type "list",data := .seq (its ++ [yv]).toArray (if (its.toArray.push yv).size == its.toArray.size then k else k + 1) } := by
          have q0 := PySem.IsL.update hD8 (fun a : Array Value => a.push yv)
          have ea : its.toArray.push yv = (its ++ [yv]).toArray := by simp
          rw [← ea]
          exact q0
        refine ⟨m',hm',i + 1,os',H8,ys ++ [y],its ++ [yv],(if (its.toArray.push yv).size == its.toArray.size then k else k + 1),hos', ?_,T.keep _ _ _ k1 fun b hb o e => (Heap.get?_update_other s8.heap _ (below b (fplt b hb)).2.symm).trans e,k2,rv3.append (.cons r8 .nil),w'⟩
        have In : Inv (cxComp X scope N' G.objs.size s2 H2 fp) [] (os' ++ caps σ js) H8 s8 := I8'.pins_of fun p hp => absurd hp (by simp)
        have It : Inv (cxComp X scope N' G.objs.size s2 H2 fp) [] (os' ++ caps σ js) H8 { s8 with heap := s8.heap.update s2.heap.objs.size (Obj.mapSeq fun a => a.push yv) } :=
          In.turned (it := s2.heap.objs.size) (t' := s8.toks) (fun b o hb e => (Heap.get?_update_other s8.heap _ (Ne.symm hb)).trans e) hn8 hDC (.inr (Nat.le_refl _)) (fun x c e z => by
            obtain ⟨v,o,ho,hd⟩ := I8'.cell x c e
            rw [z,hD8] at ho
            cases ho
            cases hd) fun p hp => absurd hp (by simp [cxComp])
        refine It.pins_of fun p hp => ?_
        have hp' : p = (s2.heap.objs.size,{ cls := .type "list",data := .seq (its ++ [yv]).toArray (if (its.toArray.push yv).size == its.toArray.size then k else k + 1) }) := List.mem_singleton.mp hp
        subst hp'
        exact ⟨q,hn8,hDC,(I8'.pin _ (List.mem_append_right _ (List.mem_singleton.mpr rfl))).2.2.2.1,fun v z => by cases z⟩
  exact codeAny_compStart_list (loop _ rfl) (T.self _ 0 _ _ _ (T.keep _ _ _ st2 fun b _ o e => old b o e) (loop _ rfl))
end L2
namespace L2
open PySem PySem.Spec PyProof.Rows
structure RoomQ (k : Nat) (A : Around) : Prop where
  dp : A.depth + 3 * k + 5 < recursionLimit
  un : A.units + 16 * k + 200 < cLine
theorem RoomQ.mono {j k : Nat} {A : Around} (r : RoomQ k A) (h : j ≤ k) : RoomQ j A := ⟨by have := r.dp; omega,by have := r.un; omega⟩
theorem RoomQ.deeper {k : Nat} {A : Around} (r : RoomQ (k + 1) A) (env : Env) : RoomQ k (A.deeper env) :=
  ⟨by have := r.dp; show A.depth + 1 + 3 * k + 5 < _; omega,by have := r.un; show A.units + 3 + 16 * k + 200 < _; omega⟩
theorem RoomQ.depth {k : Nat} {A : Around} (r : RoomQ k A) : A.depth < recursionLimit := by have := r.dp; omega
theorem RoomQ.units0 {k : Nat} {A : Around} (r : RoomQ k A) : A.units < cLine := by have := r.un; omega
theorem Room.q {k : Nat} {A : Around} (r : Room k A) : RoomQ k A := ⟨r.dp,r.un⟩
theorem RoomQ.mark {k : Nat} {A : Around} (r : RoomQ k A) (h : Option Value) : RoomQ k (A.mark h) := ⟨r.dp,r.un⟩
structure FnOkQ (P : Program) (w : World) (K : PySem.W.Frag) (mg : Str → Option Value) (base : Heap) (CX : CXT) (k : Nat) (f : Addr) (fd : FuncData) (ps : List Str) (sp : Sp) : Prop where
  len : ∀ vs H Q E,sp vs H Q E → vs.length = ps.length
  run : ∀ (A : Around) (outer : List Env) (s : Shared) (H : Hp) (args : Args) (us : List Value) (vs : List V) (Q : VK) (E : XK),RoomQ k A → HQ A H → Env0 P w K mg base A outer s H → BindsTo s fd args (ps.zip us) → Vals vs us → sp vs H Q E →
    codeAny (model P w) A (.call (.ref f) args) (CR CX outer P w H s Q E) s
def cxOfQ (CX : CXT) (P : Program) (w : World) (K : PySem.W.Frag) (mg : Str → Option Value) (base : Heap) (N : List Str) (qual : Str) (scope : Scope) (f : Addr) (cd : Value) (A : Around) (outer : List Env) (s : Shared) (H : Hp) (E : XK) : Cx :=
  { cxOf CX P w K mg base N qual scope f cd A outer s H E with calm := false }
theorem inv_startQ {CX : CXT} {P : Program} {w : World} {K : PySem.W.Frag} {mg : Str → Option Value} {base : Heap} {N ps : List Str} {qual : Str} {scope : Scope} {f : Addr} {cd : Value} {A : Around} {outer : List Env} {s s1 : Shared} {H : Hp} {E : XK} {us : List Value} {vs : List V}
    (S : FnScope N ps scope) (e0 : Env0 P w K mg base A outer s H) (hl : vs.length = ps.length) (r : Vals vs us)
    (x : InCallC s s.heap.objs.size (bindL (envOfC qual scope s.heap.objs.size f cd).kindOf (ps.zip us) fun _ => none) (cellsFrom (s.heap.objs.size + 1) scope.names []) (bindC (envOfC qual scope s.heap.objs.size f cd).kindOf (ps.zip us) fun _ => none) s1) :
    Inv (cxOfQ CX P w K mg base N qual scope f cd A outer s H E) [] (start N vs) H s1 := by
  have hpl : ps.length ≤ N.length := by have := congrArg List.length S.pre; rw [List.length_take] at this; omega
  obtain ⟨h1,tk,rfl,hk⟩ := x.done
  have noA : ∀ b : Addr,b ∉ (cxOfQ CX P w K mg base N qual scope f cd A outer s H E).ex := fun b z => absurd (show b ∈ ([] : List Addr) from z) (by simp)
  refine ⟨⟨e0.mod,S.kind,rfl,rfl,Nat.le_refl _,fun y z c h1 h2 => ?_,fun y hy => ?_,fun y c _ h => ?_,(fun z => by cases z),Around.frames_deeper e0.frames,.inr ⟨rfl,rfl⟩,fun b z => absurd z (noA b),e0.bs,e0.bsz,fun b _ _ => noA b,fun b z => absurd z (noA b),e0.funs,e0.frf⟩,
    rfl,e0.bare,Un.kept hk,⟨_,x.toInCall.ns,fun i y v h1 h2 h3 => ?_⟩,fun y c h => ⟨_,x.cell y c h⟩,e0.hok.fresh (Nat.le_refl _),fun y c h => ?_,fun p hp => absurd (show p ∈ ([] : List (Addr × Obj)) from hp) (by simp),e0.hok.kept hk, ?_⟩
  · exact name_of_addr x.apart (PySem.mem_of_lookup h1) (PySem.mem_of_lookup h2)
  · have hy : scope.names.lookup y = some .cell ∨ scope.names.lookup y = some .free := hy
    rcases hy with hy | hy
    · exact cell_has hy
    · exact absurd rfl (S.nofree _ (PySem.mem_of_lookup hy))
  · exact Nat.le_of_lt (x.above y c (PySem.mem_of_lookup h))
  · have hi : i < vs.length := by
      unfold start at h2
      by_cases hi : i < vs.length
      · exact hi
      · rw [List.getElem?_append_right (by simpa using hi)] at h2
        rw [List.getElem?_replicate] at h2
        split at h2 <;> cases h2
    have ha : vs[i]? = some v := by
      unfold start at h2
      rw [List.getElem?_append_left (by simpa using hi),List.getElem?_map] at h2
      cases e : vs[i]? with
      | none => rw [e] at h2; cases h2
      | some a => rw [e] at h2; cases h2; rfl
    obtain ⟨u,hu,rv⟩ := r.get ha
    have hp : ps[i]? = some y := by
      rw [← S.pre,List.getElem?_take_of_lt (by omega)]; exact h1
    have ndP : ps.Nodup := by rw [← S.pre]; exact S.nd.sublist (List.take_sublist _ _)
    refine ⟨u,rv, ?_⟩
    rcases S.par y (List.mem_of_getElem? hp) with k | k
    · exact .inl ⟨k,bindL_get ndP hp hu k⟩
    · obtain ⟨c,e⟩ := cell_has (n := s.heap.objs.size + 1) k
      refine .inr ⟨.inl k,c,e, ?_⟩
      have q := x.cell y c e
      rw [bindC_get ndP hp hu (by show scope.names.lookup y ≠ _; rw [k]; decide)] at q
      exact q
  · exact e0.hok.fresh (Nat.le_of_lt (x.above y c (PySem.mem_of_lookup h)))
  · unfold start
    show _ = N.length
    rw [List.length_append,List.length_map,List.length_replicate]
    omega
theorem fn_ofQ {CX : CXT} {P : Program} {w : World} {K : PySem.W.Frag} {mg : Str → Option Value} {base : Heap} {k : Nat} {f : Addr} {name qual : Str} {params : Arguments} {body : List Stmt} {scope : Scope} {dV kV doc pm cdv ct oc : Value} {an od : Option Addr}
    {osl : Array (Option Value)} {N ps : List Str} {sp : Sp} (lk : K.lookup f = some ⟨oc,od,.func (PySem.W.fnOf name qual params body scope dV kV doc pm an cdv ct),osl⟩) (hcd : PySem.W.codeIn K cdv qual = true) (S : FnScope N ps scope)
    (len : ∀ vs H Q E,sp vs H Q E → vs.length = ps.length)
    (hbody : ∀ (A : Around) (outer : List Env) (s : Shared) (H : Hp) (vs : List V) (Q : VK) (E : XK),RoomQ k (A.deeper (envOfC qual scope s.heap.objs.size f cdv)) → HQ (A.deeper (envOfC qual scope s.heap.objs.size f cdv)) H → sp vs H Q E →
      ∃ t,PSs (cxOfQ CX P w K mg base N qual scope f cdv A outer s H E) body t ∧ t { nx := fun _ H' => Q .non H',rt := Q } (start N vs) H) :
    FnOkQ P w K mg base CX (k + 1) f (PySem.W.fnOf name qual params body scope dV kV doc pm an cdv ct) ps sp := by
  refine ⟨len,fun A outer s H args us vs Q E hr hq0 e0 hb r hsp => ?_⟩
  have hl := len _ _ _ _ hsp
  have KX : K.In s.heap := e0.mod.kin.keeps fun b o e => (e0.bs b o e).1
  have lim : s.heap.NoLimit := e0.mod.nolimit.keeps fun b o e => (e0.bs b o e).1
  have hkind : ∀ y ∈ ps.zip us,scope.names.lookup y.1 = some .local ∨ (scope.names.lookup y.1 = some .cell ∧ ((cellsFrom (s.heap.objs.size + 1) scope.names []).lookup y.1).isSome = true) := fun ⟨n,v⟩ hy => by
    rcases S.par n (List.of_mem_zip hy).1 with q | q
    · exact .inl q
    · exact .inr ⟨q,PySem.W.cellsFrom_some _ _ _ (.inl q)⟩
  refine codeAny_call_function hr.depth (KX _ _ lk) rfl S.co S.gen rfl (PySem.W.codeRec_of KX hcd) (hb _ _ _ _ ?_)
  refine wpAny_newFunctionEnv_cells S.kind hkind fun env he s1 x => ?_
  subst he
  refine ⟨lim.keeps x.toInCall.keep,codeAny_func ?_⟩
  obtain ⟨t,ht,hq⟩ := hbody A outer s H vs Q E (hr.deeper _) hq0 hsp
  have I : Inv (cxOfQ CX P w K mg base N qual scope f cdv A outer s H E) [] (start N vs) H s1 := inv_startQ S e0 hl r x
  refine wpAny_mono (ht [] s1 (start N vs) H _ I hq) (fun fl s' hs => ?_) fun e s' hs => hs
  have fin : ∀ {σ' : St} {H' : Hp} {v : V} {u : Value},Inv (cxOfQ CX P w K mg base N qual scope f cdv A outer s H E) [] σ' H' s' → RelV v u → Q v H' → CE outer P w H s Q u s' :=
    fun {σ' H' v u} J rv q => ⟨v,H',J.os,J.bare,J.base,J.hok,rv,q⟩
  cases fl with
  | ret u =>
    obtain ⟨v,σ',H',J,rv,q⟩ := hs
    exact fin J rv q
  | next =>
    obtain ⟨σ',H',J,q⟩ := hs
    exact fin (v := V.non) (u := Value.none) J rfl q
  | brk =>
    obtain ⟨_,_,_,q⟩ := hs
    exact False.elim q
  | cont =>
    obtain ⟨_,_,_,q⟩ := hs
    exact False.elim q
def KnowsQ (P : Program) (w : World) (K : PySem.W.Frag) (mg : Str → Option Value) (base : Heap) (k : Nat) (x : Str) (ps : List Str) (sp : Sp) : Prop :=
  ∃ f fd,mg x = some (.ref f) ∧ PySem.W.keepIn K (.ref f) = true ∧ Binds K fd ps [] ∧ FnOkQ P w K mg base CX0 k f fd ps sp
theorem Def.okQ {P : Program} {w : World} {K : PySem.W.Frag} {mg : Str → Option Value} {base : Heap} {x : Str} {st : Stmt} {N ps : List Str} {k : Nat} {sp : Sp} (D : Def K mg x st ps) (S : FnScope N ps (defScope st)) (len : ∀ vs H Q E,sp vs H Q E → vs.length = ps.length)
    (hbody : ∀ (f : Addr) (cdv : Value) (A : Around) (outer : List Env) (s : Shared) (H : Hp) (vs : List V) (Q : VK) (E : XK),RoomQ k (A.deeper (envOfC x (defScope st) s.heap.objs.size f cdv)) → HQ (A.deeper (envOfC x (defScope st) s.heap.objs.size f cdv)) H → sp vs H Q E →
      ∃ t,PSs (cxOfQ CX0 P w K mg base N x (defScope st) f cdv A outer s H E).nox (defBody st) t ∧ t { nx := fun _ H' => Q .non H',rt := Q } (start N vs) H) : KnowsQ P w K mg base (k + 1) x ps sp := by
  obtain ⟨f,fd,F,hm,hb⟩ := D.ex
  refine ⟨f,fd,hm,F.kp,hb, ?_⟩
  obtain ⟨oc,od,kV,doc,pm,an,cdv,ct,osl,rfl,lk,hcd⟩ := F.ex
  refine fn_ofQ lk hcd S len fun A outer s H vs Q E hr hq hsp => ?_
  obtain ⟨t,h,q⟩ := hbody f cdv A outer s H vs Q E hr hq hsp
  exact ⟨t,h.nox,q⟩
def tCallQ (A : Around) (sp : Sp) (t : TA) : TE := fun σ H Q => t σ H fun vs H1 => HQ A H1 ∧ sp vs H1 Q E0
section
variable {X : Cx} {x : Str} {ps : List Str} {sp : Sp} {j k : Nat} {e : Expr} {es : List Expr} {t : TA} {p pos : Pos}
theorem pe_callQ (F : KnowsQ X.prog X.w X.K X.mg X.base j x ps sp) (hr : RoomQ k X.A) (ha : PA X (e :: es) t) (hjk : j ≤ k := by decide) (hg : Gl X x := by rfl) (hdb : (x == ("__debug__" : Str)) = false := by decide)
    (he : notStar e = true := by rfl) (hpl : es.all notStar = true := by rfl) : PE X (.Call (.Name x p) (e :: es) [] pos) (tCallQ X.A sp t) := by
  obtain ⟨f,fd,hm,hk,hb,F⟩ := F
  intro pins s σ H Q I h
  refine wpAny_Call_Name_kw (ld_glob I hg hm ?_ hdb)
  refine PySem.W.callWith_K (h₀ := X.base) I.ok.mod.kin hk (thn (ha pos pins s σ H _ I h) fun us s1 ⟨vs,H1,I1,r,q0,q⟩ => ⟨I1.kIn, ?_⟩) (star_cons he) (star_none hpl)
  have hl : us.length = ps.length := by rw [← r.length]; exact F.len _ _ _ _ q
  have hbind := hb s1 us I1.kIn (by rw [List.append_nil]; exact hl)
  rw [List.append_nil] at hbind
  refine wpAny_call (codeAny_mono (F.run X.A X.stack s1 H1 ⟨us,[]⟩ us vs Q E0 (hr.mono hjk) q0 I1.env0 hbind r q) fun res s' hq => ?_)
  cases res with
  | error e => exact pass0 pins σ H1 s1 e s' I1 hq
  | ok fl =>
    cases fl with
    | ret u => exact I1.after hq
    | next => exact False.elim hq
    | brk => exact False.elim hq
    | cont => exact False.elim hq
end
end L2
namespace L2
open PySem PySem.Spec PyProof.Rows
theorem un_track {fs ex : List Addr} {H H' : Hp} {h h' : Heap} {a : Addr} {o : HO} (u : Un fs ex H H' h h') (n : H' a = none) (new : h.get? a = none) : Un fs ex H (upd H' a o) h h' := by
  refine ⟨u.keep,u.slot,fun b ob e hn hx => ?_,u.there,fun b xs q => ?_,fun b ob v q => ?_,fun b ps q => ?_⟩
  · rw [upd_ne (fun z => by rw [z,new] at e; cases e)]
    exact u.free b ob e hn hx
  · have z := u.tups b xs q
    rw [upd_ne (ne_of_none z n)]; exact z
  · have z := u.frzs b ob v q
    rw [upd_ne (ne_of_none z n)]; exact z
  · obtain ⟨more,z⟩ := u.tbls b ps q
    exact ⟨more,by rw [upd_ne (ne_of_none z n)]; exact z⟩
theorem inv_gone {X : Cx} {pins : List (Addr × Obj)} {σ : St} {H : Hp} {s : Shared} {h' : Heap} {m' : Str → Option Value} {t' : Nat} (I : Inv X pins σ H s) (hn' : h'.Ns X.env.locals m') (hs : Heap.SameBut X.env.locals s.heap h') :
    Inv X pins (List.replicate X.N.length none) H { s with heap := h',toks := t' } := by
  have cne := I.cne
  obtain ⟨m,hn,_⟩ := id I.loc
  have lt : ∀ b o,X.s₀.heap.get? b = some o → b ≠ X.env.locals := fun b o e => Nat.ne_of_lt (Nat.lt_of_lt_of_le (Heap.lt_size e) I.ok.above)
  refine ⟨I.ok,I.os,I.bare,⟨fun b o e n hb hx => ?_,fun b o e n hb hx => ?_,I.base.free,fun b o e hx => ?_,I.base.tups,I.base.frzs,I.base.tbls⟩,⟨m',hn',fun j y v' e1 e2 e3 => ?_⟩,fun y c e => ?_,I.free,I.freeC,fun p hp => ?_,fun b ob e => ?_,by simp⟩
  · exact (hs.2 b (lt b o e)).trans (I.base.keep b o e n hb hx)
  · obtain ⟨sl,e1⟩ := I.base.slot b o e n hb hx
    exact ⟨sl,(hs.2 b (lt b o e)).trans e1⟩
  · obtain ⟨o',e1⟩ := I.base.there b o e hx
    exact ⟨o',(hs.2 b (lt b o e)).trans e1⟩
  · rw [List.getElem?_replicate] at e2
    split at e2 <;> cases e2
  · obtain ⟨w',z⟩ := I.cell y c e
    exact ⟨w',z.sameBut hs (cne y c e)⟩
  · obtain ⟨e,n,ne,nf,d⟩ := I.pin p hp
    exact ⟨(hs.2 p.1 ne).trans e,n,ne,nf,d⟩
  · refine (I.hok b ob e).stay (fun c w' hc q => (hs.2 c ?_).trans q) (fun _ q => q) fun _ _ q => q
    rintro rfl
    have hfree := I.free
    rcases hc with rfl | hc
    · rw [hfree] at e; cases e
    · rw [hfree] at hc; cases hc
abbrev Cx.inExcN (X : Cx) (a : Addr) : Cx := { X with A := X.A.mark (some (.ref a)),calm := false,xe := fun _ _ => False }
section
variable {X : Cx} {pins : List (Addr × Obj)} {σ : St} {H : Hp} {s : Shared} {a : Addr}
theorem Inv.inExcN (I : Inv X pins σ H s) (a : Addr) : Inv (X.inExcN a) pins σ H s :=
  ⟨⟨I.ok.mod,I.ok.kind,I.ok.glob,I.ok.blt,I.ok.above,I.ok.inj,I.ok.has,I.ok.cab,(fun z => by cases z),I.ok.frames,I.ok.stk,I.ok.exf,I.ok.bs,I.ok.bsz,I.ok.noex,I.ok.exfs,I.ok.funs,I.ok.frf⟩,
    I.os,I.bare,I.base,I.loc,I.cell,I.free,I.freeC,I.pin,I.hok,I.len⟩
theorem Inv.outExcN (ok : X.Ok) (I : Inv (X.inExcN a) pins σ H s) : Inv X pins σ H s :=
  ⟨ok,I.os,I.bare,I.base,I.loc,I.cell,I.free,I.freeC,I.pin,I.hok,I.len⟩
end
def tTryAs (K : PySem.W.Frag) (Dc : Addr) (i : Nat) (tb : (St → XK) → TS) (ts : Addr → TS) : TS := fun D σ H => ∃ Eb : St → XK,tb Eb D σ H ∧ ∀ σ' C od oc H',Eb σ' (.ref C) od H' → (od = none → oc = none) → XcOk H' oc → PySem.W.exmOne K (.ref C) (.ref Dc) = some true ∧
  ∀ a,H' a = none → ts a { nx := fun _ _ => False,rt := D.rt } (σ'.set i (some (.ref a))) (upd H' a (ExcC a C od oc))
section
variable {X : Cx} {x n : Str} {i : Nat} {np hpos pos : Pos} {body : List Stmt} {b₀ : Stmt} {suite : List Stmt} {Dc : Addr} {tb : (St → XK) → TS} {ts : Addr → TS}
theorem ps_tryAs (hst : X.stack = X.env :: X.outer) (hfm : X.env.frame = some X.env.locals) (hm : X.mg x = some (.ref Dc)) (hE : ∀ a,PassesOwnAt (model X.prog X.w) (X.A.mark (some (.ref a))) X.A X.env X.xe)
    (hN : X.N.Nodup) (hi : X.N[i]? = some n) (hln : X.env.scope.names.lookup n = some .local)
    (hb : ∀ (Eb : St → XK) (pn : List (Addr × Obj)) (xe : Value → Shared → Prop),Lands (X.inTry pn xe) Eb → PSs (X.inTry pn xe) body (tb Eb)) (hs : ∀ a,PSs (X.inExcN a) (b₀ :: suite) (ts a))
    (hg : Gl X x := by rfl) (hdb : (x == ("__debug__" : Str)) = false := by decide) : PS X (.Try body [.ExceptHandler (some (.Name x np)) (some n) (b₀ :: suite) hpos] [] [] pos) (tTryAs X.K Dc i tb ts) := by
  intro pins s σ H D I h
  obtain ⟨Eb,htb,hts⟩ := h
  refine wpAny_Try_except ?_
  refine wpAny_mono ((hb Eb (X.pn ++ pins) _ ?_) [] s σ H D (I.inTry _) htb) (fun f s1 hsp => ?_) (fun e s1 z => z)
  · intro pins' σ' H1 s1 e s' I1 hx
    obtain ⟨a,C,a0,H',B,rfl,os,bare,un,hok,fl,st,cov,nf,od,oc,c0,oz,xc,hEb⟩ := hx
    obtain ⟨hmatch,hts'⟩ := hts σ' C od oc H' hEb oz xc
    rw [show (X.inTry (X.pn ++ pins) _).stack = X.stack from rfl] at fl un cov nf
    have fl1 := fl
    rw [hst] at fl1
    have hfr : X.A.frames = some (X.env :: X.outer) := by rw [← hst]; exact I.ok.frames
    have afs : a ∉ frs X.stack := fun z => by
      obtain ⟨o,e1,hd⟩ := flying_data fl a z
      obtain ⟨o',fs,e2,d,_⟩ := c0
      rw [e1] at e2; cases e2
      exact hd _ d
    have hBa : B.get? a = none := fl.2.1
    have hHa : H' a = none := by
      cases z : H' a with
      | none => rfl
      | some o =>
        obtain ⟨ob,e⟩ := cov a afs (.inr ⟨o,z⟩)
        rw [hBa] at e; cases e
    have hsa : s1.heap.get? a = none := by
      cases z : s1.heap.get? a with
      | none => rfl
      | some o =>
        obtain ⟨ob,e⟩ := cov a afs (.inl ⟨o,z⟩)
        rw [hBa] at e; cases e
    have go : ∀ (h5 : Heap) (a0' : Value),Heap.FlyingW B (X.env :: X.outer) a (.ref C) a0' h5 → s'.heap.UpToSlots h5 → Inv X pins σ' H' { s' with heap := h5 } := fun h5 a0' fl5 up5 =>
      (I1.call' (s' := { s' with heap := h5 }) os (un_step un cov fl.1 fl5.1 up5 (flying_data fl)) (hok_step hok cov fl.1 fl5.1 nf) bare (fun b z => by cases z)).outTry
    have go2 : ∀ (h5 : Heap) (a0' : Value),Heap.FlyingW B (X.env :: X.outer) a (.ref C) a0' h5 → s'.heap.UpToSlots h5 → Ctx0 a od oc h5 → Inv X pins σ' (upd H' a (ExcC a C od oc)) { s' with heap := h5 } := fun h5 a0' fl5 up5 c5 =>
      (I1.call' (s' := { s' with heap := h5 }) os (un_track (un_step un cov fl.1 fl5.1 up5 (flying_data fl)) hHa hsa) ((hok_step hok cov fl.1 fl5.1 nf).track hHa (exc_ok c5 fl5.there)) bare (fun b z => by cases z)).outTry
    refine wpAny_mono (tame_any (a := a) (s := s') tame_noteFrame c0 (wpAny_looks_onW (E := fun _ _ => False) (Q := fun _ s2 => ∃ h2 : Heap,s2 = { s' with heap := h2 } ∧ Heap.HeldW B (X.env :: X.outer) a (.ref C) a0 X.env.locals h2 ∧ s'.heap.UpToSlots h2) hfr hfm fl1 fun h4 held4 up4 => ⟨h4,rfl,held4,up4⟩)) (fun _ s4 ⟨⟨h4,e4,held4,up4⟩,c4⟩ => ?_) (fun _ _ z => z.1.elim)
    subst e4
    refine wpAny_mono (tame_any (a := a) (s := { s' with heap := h4 }) tame_setFlight c4 (wpAny_landsW (E := fun _ _ => False) (Q := fun _ s2 => ∃ h2 : Heap,s2 = { s' with heap := h2 } ∧ Heap.FlyingW B (X.env :: X.outer) a (.ref C) a0 h2 ∧ h4.UpToSlots h2) held4 fun h5 fl5 up5 => ⟨h5,rfl,fl5,up5⟩)) (fun _ s5 ⟨⟨h5,e5,fl5,up5⟩,c5⟩ => ?_) (fun _ _ z => z.1.elim)
    subst e5
    have I5 := go h5 _ fl5 (up4.trans up5)
    obtain ⟨ob,hob,hobc⟩ := fl5.there
    refine wpAny_handleBy_cons (codeAny_handlers_test (ld_glob (X := X.inExc a) (I5.inExc a) hg hm ?_ hdb)) (by intro q; cases q)
    have LT : PySem.W.Looks (model X.prog X.w) h5 (typeOf (.ref a)) (.ref C) := by
      rw [← hobc]
      exact (PySem.W.Looks.ld hob).andThen .now
    refine PySem.W.exm_one I5.kIn LT hmatch _ _ _ _ (fun b o q => q) ?_
    refine codeAny_handlers_suite_as ?_
    refine wpAny_mono (tame_any (a := a) (s := { s' with heap := h5 }) tame_setFlight c5 (lands_againW (E := fun _ _ => False) (Q := fun _ s2 => ∃ h2 : Heap,s2 = { s' with heap := h2 } ∧ Heap.FlyingW B (X.env :: X.outer) a (.ref C) a0 h2 ∧ h5.UpToSlots h2) fl5 fun h6 fl6 up6 => ⟨h6,rfl,fl6,up6⟩)) (fun _ s6 ⟨⟨h6,e6,fl6,up6⟩,c6⟩ => ?_) (fun _ _ z => z.1.elim)
    subst e6
    have I6 := (go2 h6 _ fl6 ((up4.trans up5).trans up6) c6).inExcN a
    refine store_ok (X := X.inExcN a) (v := .ref a) I6 hN hi (.inl hln) rfl (fun s7 I7 => ?_) (.inr hln)
    refine wpAny_mono (hs a pins s7 _ _ { nx := fun _ _ => False,rt := D.rt } I7 (hts' a hHa)) (fun f s8 q => ?_) (fun _ _ z => z.elim)
    cases f with
    | next => obtain ⟨_,_,_,z⟩ := q; exact z.elim
    | brk => obtain ⟨_,_,_,z⟩ := q; exact z.elim
    | cont => obtain ⟨_,_,_,z⟩ := q; exact z.elim
    | ret u =>
      obtain ⟨v,σ8,H8,I8,rv,q8⟩ := q
      have I8' : Inv X pins σ8 H8 s8 := I8.outExcN I.ok
      obtain ⟨m8,hn8,_⟩ := id I8'.loc
      refine wpAny_nameGoes hln hn8 (by rw [I.ok.kind]; rfl) fun h9 m9 hn9 sb9 => ?_
      exact ⟨v,_,H8,inv_gone I8' hn9 sb9,rv,q8⟩
  · have q := hsp.outTry
    cases f with
    | next => exact wpAny_execs_nil q
    | brk => exact q
    | cont => exact q
    | ret u => exact q
end
end L2
namespace L2
open PySem PySem.Spec PyProof.Rows
end L2
namespace WM
open PySem PySem.StrLaws
def splitC (c : Nat) : List Nat → List (List Nat)
  | [] => [[]]
  | d :: r => if d = c then [] :: splitC c r else match splitC c r with
    | [] => [[d]]
    | p :: ps => (d :: p) :: ps
theorem splitC_ne (c : Nat) : ∀ l,splitC c l ≠ []
  | [] => by simp [splitC]
  | d :: r => by
    unfold splitC
    split
    · simp
    · split <;> simp
def joinC (c : Nat) : List (List Nat) → List Nat
  | [] => []
  | [p] => p
  | p :: q :: r => p ++ c :: joinC c (q :: r)
theorem splitC_app (c : Nat) (l : List Nat) : ∀ p : List Nat,c ∉ p → splitC c (p ++ l) = match splitC c l with | [] => [p] | q :: qs => (p ++ q) :: qs
  | [],_ => by
    show splitC c l = _
    cases h : splitC c l with
    | nil => exact absurd h (splitC_ne c l)
    | cons q qs => rfl
  | d :: p,h => by
    have hd : d ≠ c := fun e => h (by rw [e]; exact List.mem_cons_self)
    have ih := splitC_app c l p fun m => h (List.mem_cons_of_mem _ m)
    show (if d = c then [] :: splitC c (p ++ l) else match splitC c (p ++ l) with | [] => [[d]] | q :: ps => (d :: q) :: ps) = _
    rw [if_neg hd,ih]
    cases splitC c l with
    | nil => rfl
    | cons q qs => rfl
theorem splitC_join (c : Nat) : ∀ ps : List (List Nat),ps ≠ [] → (∀ p ∈ ps,c ∉ p) → splitC c (joinC c ps) = ps
  | [],h,_ => absurd rfl h
  | [p],_,hf => by
    have := splitC_app c [] p (hf p (by simp))
    rw [List.append_nil] at this
    show splitC c p = _
    rw [this]
    show [p ++ []] = [p]
    rw [List.append_nil]
  | p :: q :: r,_,hf => by
    have ih := splitC_join c (q :: r) (by simp) fun z hz => hf z (List.mem_cons_of_mem _ hz)
    have e : splitC c (c :: joinC c (q :: r)) = [] :: (q :: r) := by
      show (if c = c then [] :: splitC c (joinC c (q :: r)) else _) = _
      rw [if_pos rfl,ih]
    show splitC c (p ++ c :: joinC c (q :: r)) = _
    rw [splitC_app c _ p (hf p (by simp)),e]
    show (p ++ []) :: q :: r = _
    rw [List.append_nil]
theorem app_list (x y : Str) : (x ++ y).cps.toList = x.cps.toList ++ y.cps.toList := by
  show (x.cps ++ y.cps).toList = _
  simp
theorem join_list (c : Nat) : ∀ ys : List Str,(Str.join ⟨#[c]⟩ ys).cps.toList = joinC c (ys.map fun y => y.cps.toList)
  | [] => rfl
  | [x] => rfl
  | x :: y :: r => by
    show (x ++ (⟨#[c]⟩ : Str) ++ Str.join ⟨#[c]⟩ (y :: r)).cps.toList = _
    rw [app_list,app_list,join_list c (y :: r)]
    show x.cps.toList ++ [c] ++ _ = x.cps.toList ++ c :: _
    simp
theorem parts_split (x : Str) (c : Nat) (ys : List Str) (hne : ys ≠ []) (hj : Str.join ⟨#[c]⟩ ys = x) (hf : ∀ y ∈ ys,c ∉ y.cps.toList) : ys.map (fun y => y.cps.toList) = splitC c x.cps.toList := by
  rw [← hj,join_list,splitC_join]
  · intro e; exact hne (List.map_eq_nil_iff.mp e)
  · intro p hp
    obtain ⟨y,hy,rfl⟩ := List.mem_map.mp hp
    exact hf y hy
theorem txt_split (x : Str) (c : Nat) : (Txt.split x ⟨#[c]⟩).map (fun y => y.cps.toList) = splitC c x.cps.toList := by
  have one : c ∉ x.cps.toList → [x].map (fun y => y.cps.toList) = splitC c x.cps.toList := fun h =>
    parts_split x c [x] (by simp) rfl fun y hy => by rw [List.mem_singleton.mp hy]; exact h
  have parts : (Builtin.Str.partsBetween x (Builtin.Str.occurrences x ⟨#[c]⟩ 0 x.length (x.length + 1)) (⟨#[c]⟩ : Str).length).map (fun y => y.cps.toList) = splitC c x.cps.toList := by
    refine parts_split x c _ ?_ ?_ ?_
    · intro e
      have := congrArg List.length e
      rw [length_partsBetween] at this
      simp at this
    · rw [← glued_eq_join]; exact glued_between_self x ⟨#[c]⟩ _
    · obtain ⟨f,h1,h2⟩ := occ_tight x ⟨#[c]⟩ (Nat.le_refl 1)
      rw [partsBetween_eq]
      exact parts_free x c _ 0 f h1 h2
  unfold Txt.split
  by_cases h1 : (decide (x.length < (⟨#[c]⟩ : Str).length) || decide (Builtin.Str.strKind x < Builtin.Str.strKind ⟨#[c]⟩)) = true
  · rw [if_pos h1]
    apply one
    rw [Bool.or_eq_true] at h1
    rcases h1 with h1 | h1
    · have : x.length < 1 := of_decide_eq_true h1
      intro hm
      have hl : x.cps.toList.length = x.length := Array.length_toList
      have := List.length_pos_of_mem hm
      omega
    · exact kind_free x c (by simpa using h1)
  · rw [if_neg h1]
    by_cases h2 : (Builtin.Str.occurrences x ⟨#[c]⟩ 0 x.length (x.length + 1)).isEmpty = true
    · rw [if_pos h2]
      have e : Builtin.Str.occurrences x ⟨#[c]⟩ 0 x.length (x.length + 1) = [] := by simpa using h2
      rw [e] at parts
      have : Builtin.Str.partsBetween x [] (⟨#[c]⟩ : Str).length = [x] := by
        simp [Builtin.Str.partsBetween]
        exact sub_whole x
      rw [this] at parts
      exact parts
    · rw [if_neg h2]; exact parts
theorem str_ext {x y : Str} (h : x.cps.toList = y.cps.toList) : x = y := by
  cases x; cases y
  exact congrArg Str.mk (Array.toList_inj.mp h)
theorem txt_split_eq (x : Str) (c : Nat) : Txt.split x ⟨#[c]⟩ = (splitC c x.cps.toList).map fun p => (⟨p.toArray⟩ : Str) := by
  rw [← txt_split,List.map_map]
  have : ((fun p : List Nat => (⟨p.toArray⟩ : Str)) ∘ fun y : Str => y.cps.toList) = id := by
    funext y
    exact str_ext (by simp)
  rw [this,List.map_id]
theorem splitC_len (c : Nat) : ∀ l,(splitC c l).length ≤ l.length + 1
  | [] => by simp [splitC]
  | d :: r => by
    have ih := splitC_len c r
    unfold splitC
    split
    · simpa using ih
    · split
      · simp
      · rename_i p ps e
        rw [e] at ih
        simp at ih ⊢
        omega
end WM
namespace L2
open PySem PySem.Spec PyProof.Rows
section
variable {X : Cx}
end
section
variable {X : Cx} {x y : Str} {ps : List Str} {sp : Sp} {j k : Nat} {e : Expr} {es : List Expr} {t : TA} {p pos : Pos} {f : Addr}
end
end L2
namespace L2
open PySem PySem.Spec PyProof.Rows
open PySem.AutoSeq1 (wpAny_loadPart')
section
variable {s : Shared} {A : Around} {l : Addr} {o : Obj} {es : Array DictEntry} {ep : Nat}
end
theorem pass1N {P : Program} {w : World} {base : Heap} {X : Cx} : Passes (CX1 P w base) X E0 := by
  intro pins σ H s e s' I h
  obtain ⟨a,C,a0,H',B,rfl,os,bare,un,hok,fl,st,cov,nf,od,oc,c0,oz,xc,hEb⟩ := h
  exact hEb.elim
end L2
namespace L2
open PySem PySem.Spec PyProof.Rows
section
variable {X : Cx}
end
end L2
namespace L2
open PySem PySem.Spec PyProof.Rows
section
variable {X : Cx} {o : Expr} {td : TE} {apos cpos : Pos}
end
end L2
namespace L2
open PySem PySem.Spec PyProof.Rows
def PJ (X : Cx) (es : List Expr) (t : Str → TE) : Prop := ∀ (pins : List (Addr × Obj)) (s : Shared) (σ : St) (H : Hp) (Q : VK) (acc : Str),Inv X pins σ H s → t acc σ H Q →
  wpAny (model X.prog X.w) X.A (joinParts acc (evalEach es X.env)) (EP X pins σ Q) X.xe s
section
variable {X : Cx} {e a b : Expr} {es : List Expr} {te : TE} {t : Str → TE} {pos : Pos}
theorem pj_nil : PJ X [] (fun acc σ H Q => acc.length ≤ sizeLine ∧ Q (.str acc) H) := by
  intro pins s σ H Q acc I h
  exact joinParts_nil ⟨.str acc,H,I.tok _,⟨_,rfl⟩,h.2⟩ h.1
theorem pj_cons (he : PE X e te) (hr : PJ X es t) : PJ X (e :: es) (fun acc σ H Q => te σ H fun x H1 => ∃ y,x = .str y ∧ (acc ++ y).length ≤ sizeLine ∧ t (acc ++ y) σ H1 Q) := by
  intro pins s σ H Q acc I h
  show wpAny _ _ (joinParts acc (eval e X.env :: evalEach es X.env)) _ _ _
  refine joinParts_cons (thn (he pins s σ H _ I h) fun u s1 ⟨x,H1,I1,r,y,ex,hz,q⟩ => ?_)
  subst ex
  obtain ⟨tk,rfl⟩ := r
  exact ⟨hz,hr pins s1 σ H1 Q _ I1 q⟩
theorem pe_fstr (h : PJ X (a :: b :: es) t) : PE X (.JoinedStr (a :: b :: es) pos) (t Str.empty) := by
  intro pins s σ H Q I q
  exact JoinedStr_many (h pins s σ H Q Str.empty I q)
theorem pe_fmt (he : PE X e te) : PE X (.FormattedValue e (-1) none pos) (fun σ H Q => te σ H fun x H1 => (∃ z,x = .str z ∧ z.length ≤ sizeLine ∧ Q (.str z) H1) ∨ (∃ i : Int,x = .int i ∧ i.natAbs.log2 < 1920 ∧ Q (.str (toString i)) H1)) := by
  intro pins s σ H Q I h
  refine FormattedValue_plain (thn (he pins s σ H _ I h) fun u s1 ⟨x,H1,I1,r,q⟩ => ?_)
  rcases q with ⟨z,rfl,hz,q⟩ | ⟨i,rfl,hi,q⟩
  · obtain ⟨tk,rfl⟩ := r
    exact formatField_str (fun t' tk => ⟨.str z,H1,I1.tok _,⟨_,rfl⟩,q⟩) hz
  · obtain ⟨tk,rfl⟩ := r
    exact formatField_int_small hi ⟨.str (toString i),H1,I1.tok _,⟨_,rfl⟩,q⟩
end
end L2
namespace L2
open PySem PySem.Spec PyProof.Rows
section
variable {X : Cx} {k j : Nat} {f C : Addr} {fd : FuncData} {ps : List Str} {sp : Sp} {Eb : St → XK} {x m : Str} {p pos apos : Pos} {e o : Expr} {es : List Expr} {ta : TE} {t : TA}
end
end L2
namespace L2
open PySem PySem.Spec PyProof.Rows
section
variable {X : Cx}
end
end L2
namespace L2
open PySem PySem.Spec PyProof.Rows
theorem pi_or {X : Cx} {tg l : Expr} {w1 w2 : TI} (h1 : PI X tg l w1) (h2 : PI X tg l w2) : PI X tg l (fun σ H R => w1 σ H R ∨ w2 σ H R) := fun pins s σ H R I h => h.elim (h1 pins s σ H R I) (h2 pins s σ H R I)
theorem pe_either {X : Cx} {e : Expr} {t1 t2 : TE} (h1 : PE X e t1) (h2 : PE X e t2) : PE X e (fun σ H Q => t1 σ H Q ∨ t2 σ H Q) := fun pins s σ H Q I h => h.elim (h1 pins s σ H Q I) (h2 pins s σ H Q I)
local instance (priority := 10000) keyBEqJ : BEq Key := keyBEq
local instance (priority := 10000) keyLawJ : @LawfulBEq Key keyBEq := inferInstanceAs (@LawfulBEq Key instBEqOfDecidableEq)
section
variable {P : Program} {w : World} {A : Around} {E : Value → Shared → Prop} {s : Shared}
theorem call_set_keysT {l : Addr} {items : Array Value} {ks : List Key} {Q : Value → Shared → Prop} (hh : A.handled = none) (hl : s.heap.IsTuple l items) (hlen : items.size = ks.length) (hi : ∀ i v,items[i]? = some v → (mixKind P w).is (ks.getD i (.inl 0)) v = true ∧ v.scannable = true) (hb : items.size + 1 < scanBound)
    (h : ∀ (h' : Heap) (tk : Nat),h'.SetOf (mixKind P w) s.heap.objs.size (fun q => decide (q ∈ uniqK ks)) (uniqK ks).length → (∀ b o,b < s.heap.objs.size → s.heap.get? b = some o → h'.get? b = some o) → Q (.ref s.heap.objs.size) { s with heap := h',toks := tk }) :
    wpAny (model P w) A (call (.type "set") [.ref l]) Q E s := by
  obtain ⟨c,tl,hmro⟩ := F.called_set.mro
  have hmade := F.called_set.made
  have hsub := F.called_set.sub
  refine wpAny_call (codeAny_of_tree (?_ : wpAny _ _ (callAny (.type "set") _) _ _ _))
  refine wpAny_pure ⟨Code.quiet_builtin _ (by decide +kernel),codeAny_builtin F.entry_type_call ?_⟩
  rw [Around.under_plain (weight_type_call_type "set" [.ref l] []) rfl]
  have k1 := F.called_set.notType
  have k2 := F.called_set.canCreate
  have hct := F.typeCall_set_1 (.ref l)
  repeat (any_goals (first | assumption | wp_step))
  refine codeAny_mono (code_set_new_1 (.ref l) (E := E) (Q₁ := fun obj s₁ => ∃ led : Bool,obj = .ref s.heap.objs.size ∧ s₁ = { s with heap := s.heap.push ⟨.type "set",none,.set #[] 0 (.fresh 0 0 led),#[]⟩ }) fun led => ⟨led,rfl,rfl⟩) fun r s₁ hr => ?_
  cases r with
  | error e => exact hr
  | ok fl =>
    cases fl with
    | ret obj =>
      obtain ⟨led,rfl,rfl⟩ := hr
      have hS : (s.heap.push ⟨.type "set",none,.set #[] 0 (.fresh 0 0 led),#[]⟩).get? s.heap.objs.size = some ⟨.type "set",none,.set #[] 0 (.fresh 0 0 led),#[]⟩ := Heap.get?_push_size _ rfl
      have hT : Shared.TypeIs { s with heap := s.heap.push ⟨.type "set",none,.set #[] 0 (.fresh 0 0 led),#[]⟩ } (.ref s.heap.objs.size) "set" := ⟨_,hS,rfl⟩
      have hli := F.called_set.init.lookup
      have hbi := F.called_set.init.bind (.ref s.heap.objs.size)
      repeat (any_goals (first | assumption | wp_step))
      refine codeAny_mono (codeAny_call_builtin (R := wants (fun r s₂ => r = .none ∧ ∃ h' tk,s₂ = { s with heap := h',toks := tk } ∧ h'.SetOf (mixKind P w) s.heap.objs.size (fun q => decide (q ∈ uniqK ks)) (uniqK ks).length ∧ (∀ b o,b < s.heap.objs.size → s.heap.get? b = some o → h'.get? b = some o)) E) F.called_set.init.plain F.entry_set_init (check_set_init_1 hT ?_)) fun r₂ s₂ hr₂ => ?_
      · obtain ⟨ol,hol,hcl,nl,hdl⟩ := hl
        obtain ⟨ocls,odict,odata,oslots⟩ := ol
        simp only at hcl hdl
        subst hcl; subst hdl
        have hol' : (s.heap.push ⟨.type "set",none,.set #[] 0 (.fresh 0 0 led),#[]⟩).get? l = some { cls := .type "tuple",dict := odict,data := .seq items nl,slots := oslots } := Heap.get?_push_of_some _ hol
        have hsls := F.sub_tuple_set
        have hslf := F.sub_tuple_frozenset
        have hne : (Value.type "tuple" == Value.type "dict") = false := by decide
        have hl1 : (s.heap.push ⟨.type "set",none,.set #[] 0 (.fresh 0 0 led),#[]⟩).IsTuple l items := ⟨_,hol',rfl,nl,rfl⟩
        unfold Builtin.«set.__init__» noKeywords Builtin.Frozenset.updateFrom
        generalize hPI : pyIter = PI
        wp_walk
        subst hPI
        refine wpAny_pyIter_tuple hl1 (wpAny_bind (wpAny_runValue ?_))
        have hlS : l < s.heap.objs.size := Heap.lt_size hol
        have hh3 : A.in1.in1.in1.handled = none := by simp [hh]
        have hneI : l ≠ (s.heap.push ⟨.type "set",none,.set #[] 0 (.fresh 0 0 led),#[]⟩).objs.size := by rw [Heap.size_push]; exact Nat.ne_of_lt (Nat.lt_succ_of_lt hlS)
        have hSf : s.heap.objs.size ∉ [(s.heap.push ⟨.type "set",none,.set #[] 0 (.fresh 0 0 led),#[]⟩).objs.size,l] := by
          rw [Heap.size_push]
          intro q
          rcases List.mem_cons.mp q with q | q
          · exact Nat.ne_of_lt (Nat.lt_succ_self _) q
          · exact Nat.ne_of_gt hlS (List.mem_singleton.mp q)
        refine setFill ((Walks.tuple hh3 _ l hneI items).toS) s.heap.objs.size hSf (fun i => ks.getD i (.inl 0)) hi hb (items.size - 0) 0 _ (by omega) (Nat.zero_le _) ⟨⟨_,Heap.get?_push_size _ rfl,rfl,rfl⟩,(hl1.push _)⟩ ?hS0 ?hR
        case hS0 =>
          have hget : ((s.heap.push ⟨.type "set",none,.set #[] 0 (.fresh 0 0 led),#[]⟩).push { cls := .type "tuple_iterator",data := .fields #[.ref l,.int 0 0] }).get? s.heap.objs.size = some ⟨.type "set",none,.set #[] 0 (.fresh 0 0 led),#[]⟩ := Heap.get?_push_of_some _ hS
          exact SetOf_congr ((setObjOf_fresh (knd := mixKind P w) led).setOf hget (by unfold scanBound; omega)) (fun q => by show false = decide (q ∈ ([] : List Key)); simp) rfl
        case hR =>
          intro s' hm hS'
          obtain ⟨h',g',d',tk',os'⟩ := s'
          obtain rfl : g' = s.gens := hm.gens
          obtain rfl : d' = s.drawn := hm.drawn
          obtain rfl : os' = s.os := hm.os
          show wpAny _ _ _ _ _ _
          refine wpAny_pure (?_ : wpAny _ _ (ret Value.none) _ _ _)
          rw [hlen] at hS'
          refine wpAny_pure ⟨rfl,h',tk',rfl,hS',fun b o hb' e => ?_⟩
          have n1 : b ≠ s.heap.objs.size := Nat.ne_of_lt hb'
          have n2 : b ≠ (s.heap.push ⟨.type "set",none,.set #[] 0 (.fresh 0 0 led),#[]⟩).objs.size := by rw [Heap.size_push]; exact Nat.ne_of_lt (Nat.lt_succ_of_lt hb')
          refine hm.heap b o (fun q => ?_) (Heap.get?_push_of_some _ (Heap.get?_push_of_some _ e))
          rcases List.mem_cons.mp q with q | q
          · exact n1 q
          · exact n2 (List.mem_singleton.mp q)
      · cases r₂ with
        | error e => exact hr₂
        | ok fl₂ =>
          cases fl₂ with
          | ret r =>
            obtain ⟨rfl,h',tk,rfl,hS',hk'⟩ := hr₂
            repeat (any_goals (first | assumption | wp_step))
            exact h _ _ hS' hk'
          | _ => exact hr₂.elim
    | _ => exact hr.elim
end
section
variable {X : Cx} {e l : Expr} {te tl : TE} {p pos p2 pos2 : Pos}
def tLenSetT (K : PySem.W.Frag) (tl : TE) : TE := fun σ H Q => tl σ H fun x H1 => ∃ a ks,x = .ref a ∧ SqT K H1 a (ks.map kV) ∧ ks.length + 1 < scanBound ∧ Q (.int ((uniqK ks).length : Int)) H1
theorem pe_lensetT (hc : X.calm = true) (h1 : X.mg "len" = none) (h2 : X.mg "set" = none) (hl : PE X l tl) (hg1 : Gl X "len" := by rfl) (hg2 : Gl X "set" := by rfl) (hs : notStar l = true := by rfl) :
    PE X (.Call (.Name "len" p) [.Call (.Name "set" p2) [l] [] pos2] [] pos) (tLenSetT X.K tl) := by
  intro pins s σ H Q I h
  refine wpAny_Call_Name_kw (ld_blt I hg1 h1 boot_len ?_)
  refine PyProof.Rows.callWith_builtin1 ?_ (star_cons rfl) (star_none rfl)
  rw [star_cons rfl]
  refine (Calls.spliced_cons ?_ : wpAny _ _ (spliced ((false,eval (.Call (.Name "set" p2) [l] [] pos2) X.env) :: backTo pos (starEach [] X.env))) _ _ s)
  refine wpAny_Call_Name_kw (ld_blt I hg2 h2 boot_set ?_)
  have h' : (tCons tl tNil) σ H (fun vs H1 => match vs with | [x] => (∃ a ks,x = .ref a ∧ SqT X.K H1 a (ks.map kV) ∧ ks.length + 1 < scanBound ∧ Q (.int ((uniqK ks).length : Int)) H1) | _ => False) := h
  refine PyProof.Rows.callWith_type1 (thn ((pa_c hl pa_nil hs) pos2 pins s σ H _ I h') fun us s1 ⟨vs,H1,I1,r1,q1⟩ => ?_) (star_cons hs) (star_none rfl)
  match vs,q1,r1 with
  | [x],q1,r1 =>
  obtain ⟨a,ks,rfl,hq,hb,q⟩ := q1
  obtain ⟨u,rfl,ru⟩ := r1.one
  cases ru
  obtain ⟨its,rv,pl,hz⟩ := I1.tuple hq
  have hlen := rv.length
  rw [List.length_map] at hlen
  refine call_set_keysT (ks := ks) (I1.ok.hd hc) pl (by simpa using hlen.symm) (fun i v hv => ?_) (by rw [List.size_toArray,← hlen]; exact hb) fun h' tk so k => Calls.spliced_nil ?_
  · have hv' : its[i]? = some v := by simpa using hv
    have hi : i < ks.length := by have := (List.getElem?_eq_some_iff.mp hv').1; omega
    obtain ⟨u',e',r'⟩ := rv.get (i := i) (x := kV ks[i]) (by simp [hi])
    rw [e'] at hv'
    cases hv'
    have e2 : ks.getD i (.inl 0) = ks[i] := by simp [List.getD_eq_getElem?_getD,hi]
    rw [e2]
    exact ⟨kV_is r',kV_scan r'⟩
  · obtain ⟨o,es,ep,t,ho,hex,hd,_,_,hsz,hf,hn⟩ := so
    have hbig : scanBound ≤ 2 ^ 62 := by decide
    refine call_len_set ho hex hd hf (by omega) ⟨.int ((uniqK ks).length : Int),H1, ?_,⟨_,by rw [hn]⟩,q⟩
    exact I1.kept fun b o e => k b o (Heap.lt_size e) e
end
end L2
namespace L2
open PySem PySem.Spec PyProof.Rows
section
variable {prog : Program} {w : World} {A : Around} {E : Value → Shared → Prop} {s : Shared}
theorem range_endQ {it : Addr} {x left step : Int} {Q : Option Value → Shared → Prop} (hq : Quiet A s.heap) (hlt : ∀ a,A.handled = some (.ref a) → a < s.heap.objs.size) (hit : IsRangeIter s.heap it x left step) (hleft : left ≤ 0)
    (hQ : ∀ h',Heap.ExtBut it s.heap h' → Q none { s with heap := h' }) : wpAny (model prog w) A (pyNext (.ref it)) Q E s := by
  have hT : s.TypeIs (.ref it) "range_iterator" := ⟨_,hit,rfl⟩
  unfold pyNext
  refine wpAny_bind (wpAny_attempt (wpAny_callSpecial?_slot (name := Str.ofString "__next__") hT F.slot_range_iterator_next
    (wpAny_call_entry F.slot_range_iterator_next hT F.entry_range_iterator_next ?_ (F.args_range_iterator_next_1 _))))
  show wpAny _ _ (field (.ref it) 0 >>= _) _ _ s
  refine wpAny_bind (wpAny_field hit rfl (x := rawInt x) rfl ?_)
  show wpAny _ _ (field (.ref it) 1 >>= _) _ _ s
  refine wpAny_bind (wpAny_field hit rfl (x := rawInt left) rfl ?_)
  show wpAny _ _ (field (.ref it) 2 >>= _) _ _ s
  refine wpAny_bind (wpAny_field hit rfl (x := rawInt step) rfl ?_)
  show wpAny _ _ (if left ≤ 0 then _ else _) _ _ s
  rw [if_pos hleft]
  refine wpAny_bind (wpAny_rule ?_)
  refine wpAny_bind ?_
  show wpAny _ _ (newExc (.type "StopIteration") [] >>= _) _ _ _
  refine stopQ hq.in1 hlt fun y h' hx1 hx2 ⟨o',g1,g2⟩ => ?_
  exact wpAny_bind (wpAny_isInstance (T := "StopIteration") (b := true) ⟨o',g1,g2⟩ isSubtype_stop (wpAny_pure (hQ _ fun b o _ e => hx2 b o e)))
end
def Itrq (A : Around) (lo : Int) (n : Nat) : It := ⟨(Itr lo n).go,(Itr lo n).yld,fun i H => (Itr lo n).stop i H ∧ HQ A H⟩
theorem wk_rangeQ (A : Around) (lo : Int) (n : Nat) : Wk (Itrq A lo n) (rangeV lo n) (fun H => HQ A H) :=
  ⟨fun i H hi _ => (wk_range lo n).go i H hi trivial,fun i H v H' _ y => (wk_range lo n).yld i H v H' trivial y,fun H h => ⟨(wk_range lo n).stop H trivial,h⟩⟩
theorem turn_rangeQ {P : Program} {w : World} {K : PySem.W.Frag} {A0 : Around} {tg : Expr} (it : Addr) (lo : Int) (n : Nat) : TurnQ P w K A0 tg (Itrq A0 lo n) [it] it (fun i h => IsRangeIter h it (lo + (i : Nat) * 1) ((n : Int) - (i : Nat)) 1) where
  mem := (turn_range (P := P) (w := w) (K := K) (tg := tg) it lo n).mem
  obj := (turn_range (P := P) (w := w) (K := K) (tg := tg) it lo n).obj
  keep := (turn_range (P := P) (w := w) (K := K) (tg := tg) it lo n).keep
  item := by
    intro X hP hw hK hA i pins s σ H E I hf st hg
    subst hP hw hK
    have hg' : i < n := hg
    obtain ⟨f0,f1,f2,f3,f4,f5⟩ := hf it (by simp)
    refine wpAny_pyNext_range_item st (by omega) fun h' st' hs' => ?_
    have e1 : lo + (i : Int) * 1 + 1 = lo + ((i + 1 : Nat) : Int) * 1 := by omega
    have e2 : (n : Int) - (i : Int) - 1 = (n : Int) - ((i + 1 : Nat) : Int) := by omega
    rw [e1,e2] at st'
    have I1 : ∀ tk,Inv X pins σ H { s with heap := h',toks := tk } := fun tk => I.turned (fun b o hb e => (hs'.2 b hb).trans e) f0 f1 f3 f4 f5
    refine ⟨_,rfl,go_of (s := { s with heap := h',toks := _ }) (n := "range_iterator") st' rfl rfl (by decide) ⟨.int (lo + i),H,I1 _,(by rw [Int.mul_one]; exact ⟨_,rfl⟩),⟨rfl,rfl⟩,st',fun b hb => (hf b hb).1⟩⟩
  done := by
    intro X hP hw hK hA i pins s σ H E I hf st hg
    subst hP hw hK hA
    obtain ⟨hs,hQ⟩ := hg
    obtain ⟨f0,f1,f2,f3,f4,f5⟩ := hf it (by simp)
    exact range_endQ (hQ.quiet I) (hQ.lt I) st (by have : n ≤ i := hs; omega) fun h' eb => ⟨rfl,I.turned (t' := s.toks) (fun b o hb e => eb b o hb e) f0 f1 f3 f4 f5⟩
  self := (turn_range (P := P) (w := w) (K := K) (tg := tg) it lo n).self
section
variable {X : Cx} {tg : Expr}
theorem range_itQ {pins : List (Addr × Obj)} {σ : St} {H : Hp} {s : Shared} {R : It → Hp → Prop} {E : Value → Shared → Prop} {lo hi : Int} {t u v : Tok} {tk : Nat} (I : Inv X pins σ H s) (h1 : -(2 ^ 62) ≤ lo) (h2 : lo < 2 ^ 62) (h3 : -(2 ^ 62) ≤ hi) (h4 : hi < 2 ^ 62)
    (q : R (Itrq X.A lo (hi - lo).toNat) H) : wpAny (model X.prog X.w) X.A (pyIter (.ref s.heap.objs.size)) (PIEQ X pins σ tg R) E { s with heap := s.heap.push { cls := .type "range",data := .fields #[.int lo t,.int hi u,.int 1 v] },toks := tk } := by
  refine wpAny_pyIter_range (IsRange.new ..) (small_one h1 h2 h3 h4) ?_
  have I1 : Inv X pins σ H { s with heap := s.heap.push { cls := .type "range",data := .fields #[.int lo t,.int hi u,.int 1 v] },toks := tk } := I.kept fun b o e => Heap.get?_push_of_some _ e
  refine ⟨(s.heap.push { cls := .type "range",data := .fields #[.int lo t,.int hi u,.int 1 v] }).objs.size,[(s.heap.push { cls := .type "range",data := .fields #[.int lo t,.int hi u,.int 1 v] }).objs.size],_,_,H,rfl,
    I1.kept (t' := tk) fun b o e => Heap.get?_push_of_some _ e,turn_rangeQ _ lo (hi - lo).toNat, ?_,fun b hb => ?_,q⟩
  · have e1 : lo + ((0 : Nat) : Int) * 1 = lo := by simp
    have e2 : (((hi - lo).toNat : Nat) : Int) - ((0 : Nat) : Int) = Builtin.Range.rangeSize lo hi 1 := by rw [rangeSize_one]; split <;> omega
    show IsRangeIter _ _ (lo + ((0 : Nat) : Int) * 1) ((((hi - lo).toNat : Nat) : Int) - ((0 : Nat) : Int)) 1
    rw [e1,e2]
    exact Heap.get?_push_size _ rfl
  · have e : b = (s.heap.push { cls := .type "range",data := .fields #[.int lo t,.int hi u,.int 1 v] }).objs.size := by simpa using hb
    subst e
    exact I1.fpOk (Nat.le_refl _) (I1.hok.fresh (Nat.le_refl _))
def iRng1Q (A : Around) (ta : TA) : TI := fun σ H R => ta σ H fun vs H1 => ∃ j : Int,vs = [.int j] ∧ -(2 ^ 62) ≤ j ∧ j < 2 ^ 62 ∧ R (Itrq A 0 j.toNat) H1
theorem pi_rangeQ1 {a : Expr} {ta : TA} {p pos : Pos} (hg : Gl X "range") (hm : X.mg "range" = none) (ha : PA X [a] ta) (hs : starEach [a] X.env = [(false,eval a X.env)] := by rfl) : PIQ X tg (.Call (.Name "range" p) [a] [] pos) (iRng1Q X.A ta) := by
  intro pins s σ H R I h
  refine Call_ (ld_blt I hg hm boot_range (PyProof.Rows.callWith_type1 (thn (ha pos pins s σ H _ I h) fun us s1 ⟨vs,H1,I1,r1,q1⟩ => ?_) hs rfl))
  obtain ⟨j,e,q1,q2,q⟩ := q1
  subst e
  cases r1 with
  | cons r rr =>
    cases rr
    obtain ⟨t,rfl⟩ := r
    exact call_range_1 (range_itQ I1 (by omega) (by omega) q1 q2 (by simpa using q))
end
theorem pe_comp1Q {X : Cx} {elt iter : Expr} {x : Str} {px pos : Pos} {ifs : List Expr} {scope : Scope} {wi : TI} {tc : TT} {te : TE} (js : List Nat) (N' : List Str)
    (hi : PIQ X (.Name x px) iter wi)
    (ht : ∀ C s₀ H₀ ex,PTs (cxComp X scope N' C s₀ H₀ ex) ifs tc)
    (he : ∀ C s₀ H₀ ex,PE (cxComp X scope N' C s₀ H₀ ex) elt te)
    (nd : N'.Nodup := by decide +kernel)
    (hx : scope.names.lookup x = some .local := by rfl)
    (hN' : N' = [x] ++ js.map fun j => X.N.getD j Str.empty := by rfl)
    (hk : scope.kind = .function := by rfl)
    (hcell : ∀ y ∈ scope.names,y.2 ≠ .cell := by decide +kernel)
    (hnames : ∀ y ∈ scope.names,y.2 = .local → scope.names.lookup y.1 = some .local := by decide +kernel)
    (hfr : (scope.names.all fun y => y.2 != .free || X.env.scope.names.lookup y.1 == some .cell) = true := by rfl)
    (hjs : (js.all fun j => scope.names.lookup (X.N.getD j Str.empty) == some .free && (X.N[j]?).isSome) = true := by rfl)
    (hs : ∀ z,foldedSetIterable iter X.env z = pure z := by intro _; rfl) :
    PE X (.ListComp elt [⟨.Name x px,iter,ifs,0⟩] scope pos) (tComp 1 js wi (gName 0) tc te) :=
  pe_compQ [x] js N' hi (fun C s₀ H₀ ex => pg_name (X := cxComp X scope N' C s₀ H₀ ex) (i := 0) nd (by show N'[0]? = some x; rw [hN']; rfl) (Or.inl (lookup_relabel_local hx)) (.inr (lookup_relabel_local hx))) ht he hN' hk hcell hnames hfr hjs hs
end L2
namespace L2
open PySem PySem.Spec PyProof.Rows
section
variable {prog : Program} {w : World} {A : Around} {E : Value → Shared → Prop} {s : Shared}
theorem draw_listU {it l : Addr} {items : Array Value} (hne : l ≠ it) : ∀ (n i : Nat) (s : Shared) (Q : List Value → Shared → Prop),s.heap.IsListIter it l i → s.heap.IsList l items → i + n ≤ items.size →
    (∀ h' : Heap,h'.IsListIter it l (i + n) → Heap.SameBut it s.heap h' → Q ((items.toList.drop i).take n) { s with heap := h' }) → wpAny (model prog w) A (draw (.ref it) n) Q E s
  | 0,i,s,Q,hit,_,_,hQ => by
    show wpAny _ _ (pure []) Q E s
    exact wpAny_pure (by simpa using hQ s.heap hit (Heap.SameBut.refl ..))
  | n + 1,i,s,Q,hit,ht,hle,hQ => by
    have hlt : i < items.size := by omega
    show wpAny _ _ (pyNext (.ref it) >>= _) Q E s
    refine wpAny_bind (wpAny_pyNext_list_item hit ht (x := items[i]) (by simp [hlt]) fun h₁ hit₁ hs₁ => ?_)
    have ht1 : h₁.IsList l items := by
      obtain ⟨o,ho,rest⟩ := ht
      exact ⟨o,hs₁.extBut l o hne ho,rest⟩
    refine wpAny_bind (wpAny_holding (draw_listU hne n (i + 1) _ _ hit₁ ht1 (by omega) fun h₂ hit₂ hs₂ => wpAny_pure ?_))
    have hd : items.toList.drop i = items[i] :: items.toList.drop (i + 1) := by simp [List.drop_eq_getElem_cons,hlt]
    have := hQ h₂ (by rw [show i + (n + 1) = i + 1 + n by omega]; exact hit₂) (hs₁.trans hs₂)
    rw [hd,List.take_succ_cons] at this
    exact this
theorem unpack_listU {t : Addr} {items : Array Value} {targets : List (Bool × (Value → Sem Unit))} {Q : Unit → Shared → Prop} (hh : A.handled = none) (ht : s.heap.IsList t items)
    (hn : targets.length = items.size) (hstar : targets.findIdx? (·.1) = none)
    (h : ∀ h',Heap.ExtBut s.heap.objs.size s.heap h' → wpAny (model prog w) A (assignInOrder (targets.map (·.2)) items.toList) Q E { s with heap := h' }) : wpAny (model prog w) A (unpack (.ref t) targets) Q E s := by
  have hne : t ≠ s.heap.objs.size := by obtain ⟨o,ho,_⟩ := ht; exact Nat.ne_of_lt (Heap.lt_size ho)
  have all : List.take items.size (List.drop 0 items.toList) = items.toList := by rw [List.drop_zero]; exact List.take_of_length_le (by simp)
  have ext : ∀ h' : Heap,(∀ b o,b ≠ s.heap.objs.size → s.heap.get? b = some o → h'.get? b = some o) → h'.IsList t items := fun h' e => by
    obtain ⟨o,ho,rest⟩ := ht
    exact ⟨o,e t o hne ho,rest⟩
  unfold unpack unpackItems notIterableAtAll
  rw [hn,hstar]
  refine wpAny_bind (wpAny_holding (wpAny_bind (wpAny_bind (wpAny_specialOf ht.typeIs slot_list_iter.lookup (wpAny_pure ?_)))))
  simp only [Bool.false_eq_true,if_false]
  refine wpAny_bind (wpAny_holding (wpAny_pyIter_list ht (wpAny_bind (wpAny_holding (draw_listU hne items.size 0 _ _ ⟨_,Heap.get?_push_size _ rfl,rfl,rfl⟩ (ext _ fun b o _ e => Heap.get?_push_of_some _ e) (by omega) fun h1 hit1 hs1 => ?_)))))
  rw [all,if_neg (by simp)]
  refine wpAny_bind (wpAny_holding (wpAny_pyNext_list_end (s := { s with heap := h1 }) hh hit1 (ext h1 fun b o hb e => hs1.extBut b o hb (Heap.get?_push_of_some _ e)) (by simp) fun h2 he2 => ?_))
  simp only [Option.isSome_none,Bool.false_eq_true,if_false]
  exact wpAny_pure (h h2 fun b o hb e => he2 b o hb (hs1.extBut b o hb (Heap.get?_push_of_some _ e)))
end
section
variable {X : Cx}
def gLst (K : PySem.W.Frag) (n : Nat) (t : TGs) : TG := fun v σ H Q => ∃ a xs,v = .ref a ∧ SqL K H a xs ∧ xs.length = n ∧ t xs σ H Q
theorem pg_lst {es : List Expr} {k : Nat} {t : TGs} {n : Nat} {pos : Pos} (hc : X.calm = true) (h : PGs X es t)
    (hn : (assignEach es X.env).length = n := by rfl) (hst : (assignEach es X.env).findIdx? (·.1) = none := by rfl) : PG X (.Tuple es k pos) (gLst X.K n t) := by
  intro pins s σ H v u Q I r hw
  obtain ⟨a,xs,e1,hq,hl,hw⟩ := hw
  subst e1
  cases r
  obtain ⟨its,rv,ht,hz⟩ := I.list hq
  rw [assign_Tuple]
  refine wpAny_bind (wpAny_standAt (unpack_listU (I.ok.hd hc) ht.isList (by simp [hn,← hl,rv.length]) hst fun h' hx => ?_))
  have I1 : Inv X pins σ H { s with heap := h' } := I.kept (t' := s.toks) fun b o e => hx b o (Nat.ne_of_lt (Heap.lt_size e)) e
  exact h pins _ σ H xs _ Q I1 (by simpa using rv) hw
def repS (z : Str) (n : Nat) : Str := ⟨(List.replicate n z.cps.toList).flatten.toArray⟩
theorem repS_one (z : Str) : repS z 1 = z := by
  unfold repS
  simp
theorem fold_arr (c : Array Nat) : ∀ (n : Nat) (a : Array Nat),List.foldl (fun x y => x ++ y) a (List.replicate n c) = a ++ (List.replicate n c.toList).flatten.toArray
  | 0,a => by simp
  | n + 1,a => by
    rw [List.replicate_succ,List.foldl_cons,fold_arr c n,List.replicate_succ,List.flatten_cons]
    apply Array.ext'
    simp
theorem repS_fold (z : Str) (n : Nat) : (⟨List.foldl (fun x y => x ++ y) #[] (List.replicate n z.cps)⟩ : Str) = repS z n := by
  rw [fold_arr]
  unfold repS
  simp
def rRepS : R2 := fun x y H Q => ∃ z k,x = .str z ∧ y = .int k ∧ 1 ≤ z.length ∧ 0 ≤ k ∧ (z.length : Int) * k ≤ 100000 ∧ Q (.str (repS z k.toNat)) H
theorem op_repS : OpR X (binaryOp .Mult) rRepS := by
  intro pins s σ H x y v u Q I rx ry h
  obtain ⟨z,k,rfl,rfl,h1,h2,h3,q⟩ := h
  obtain ⟨t,rfl⟩ := rx
  obtain ⟨t',rfl⟩ := ry
  have hk : k ≤ 100000 := by
    have : (1 : Int) * k ≤ (z.length : Int) * k := Int.mul_le_mul_of_nonneg_right (by omega) h2
    omega
  have hz : z.length * k.toNat ≤ 100000 := by
    have : ((z.length * k.toNat : Nat) : Int) = (z.length : Int) * k := by rw [Int.natCast_mul,Int.toNat_of_nonneg h2]
    omega
  have fin : ∀ (r : Str) (t' : Tok) tk,r = repS z k.toNat → EP X pins σ Q (.str r t') { s with toks := tk } := fun r t' tk e => ⟨.str _,H,I.tok tk,⟨t',rfl⟩,by rw [e]; exact q⟩
  refine SB.mul ⟨?_, ?_, ?_⟩ fun t' tk => fin _ t' tk ?_
  · rw [decide_eq_false (by omega),decide_eq_false (by omega)]; rfl
  · intro a b c
    have : (z.length : Int) * k ≤ 2 ^ 63 - 1 := by omega
    have := (Int.le_ediv_iff_mul_le (show 0 < k by omega)).mpr this
    omega
  · intro a b
    have : ¬ z.length * k.toNat > sizeLine := Nat.not_lt_of_le (Nat.le_trans hz (by decide))
    exact decide_eq_false this
  · unfold Txt.mul
    by_cases hk0 : k < 1
    · rw [if_pos hk0]
      have : k.toNat = 0 := by omega
      rw [this]
      rfl
    · rw [if_neg hk0]
      by_cases hk1 : (k == 1 || z.length == 0) = true
      · rw [if_pos hk1]
        have : k = 1 := by
          simp at hk1
          omega
        subst this
        exact (repS_one z).symm
      · rw [if_neg hk1,repS_fold]
end
end L2
namespace L2
open PySem PySem.Spec PyProof.Rows
def xClass (K : PySem.W.Frag) (C : Addr) : Bool :=
  match K.lookup C with
  | some ob =>
    match ob.cls,ob.data with
    | .type "type",.cls dat =>
      match dat.mro,ob.slots.toList with
      | .ref C1 :: tl,[_,_,_,_,some (.builtin nw),_] =>
        C1 == C && (nw == "ValueError.__new__" && (!dat.hasDel && PySem.W.tailIn K bmV tl))
      | _,_ => false
    | _,_ => false
  | none => false
theorem xClass_in {K : PySem.W.Frag} {h : Heap} {C : Addr} (X : K.In h) (q : xClass K C = true) :
    ∃ bm N nm qn bs hdct sn sub ab col dd k0 k1 k2 k3 k5,
      h.get? C = some (excClassObj nm qn C N bs bm hdct sn sub ab col dd k0 k1 k2 k3 k5 "ValueError.__new__") ∧ OwnTail h bmV bm := by
  unfold xClass at q
  split at q
  · rename_i ob hlook
    split at q
    · rename_i dat hcl hda
      split at q
      · rename_i C1 tl z0 z1 z2 z3 nw z5 hmro hsl
        rw [Bool.and_eq_true,Bool.and_eq_true,Bool.and_eq_true] at q
        obtain ⟨qa,qb,qc,qd⟩ := q
        have ea : C1 = C := by simpa using qa
        have eb : nw = "ValueError.__new__" := by simpa using qb
        have ec : dat.hasDel = false := by simpa using qc
        subst ea eb
        obtain ⟨oc,od,oda,⟨osl⟩⟩ := ob
        obtain ⟨nm,bs,mro,ns,qn,hd,sn,sub,ab,col,del⟩ := dat
        simp only at hcl hda hmro hsl ec
        subst hcl hda hmro hsl ec
        exact ⟨tl,ns,nm,qn,bs,hd,sn,sub,ab,col,od,z0,z1,z2,z3,z5,X _ _ hlook,PySem.W.tail_of_in X qd⟩
      · cases q
    · cases q
  · cases q
abbrev newX (C t : Addr) : Obj := { cls := .ref C,data := .fields #[.ref t,.none,.none,.none,.bool false,.none] }
abbrev heapX (h : Heap) (C : Addr) (vs : List Value) : Heap := (h.push { cls := .type "tuple",data := .seq vs.toArray }).push (newX C h.objs.size)
theorem heapX_keeps {h : Heap} {C : Addr} {vs : List Value} : ∀ b o,h.get? b = some o → (heapX h C vs).get? b = some o := fun b o e => Heap.get?_push_of_some _ (Heap.get?_push_of_some _ e)
theorem heapX_at {h : Heap} {C : Addr} {vs : List Value} : (heapX h C vs).get? (h.objs.size + 1) = some (newX C h.objs.size) := by
  have := Heap.get?_push_size (h.push { cls := .type "tuple",data := .seq vs.toArray }) (o := newX C h.objs.size) rfl
  rwa [Heap.size_push] at this
section
variable {prog : Program} {w : World} {A : Around} {K : PySem.W.Frag} {C f : Addr}
theorem make_exc {vs : List Value} {Q : Value → Shared → Prop} {E : Value → Shared → Prop} {s : Shared} (X : K.In s.heap) (q : xClass K C = true) (hi : PySem.W.findIn K (.ref C) "__init__" = some (some (.ref f)))
    (hf : PySem.W.typeIn K (.ref f) = some (.type "function")) (hl : vs.length ≤ sizeLine)
    (hq : codeAny (model prog w) (A.under (.builtin "type.__call__" ⟨.ref C :: vs,[]⟩)) (.call (.ref f) ⟨.ref (s.heap.objs.size + 1) :: vs,[]⟩)
      (PySem.W.InitBack (s.heap.objs.size + 1) fun r s' => match r with
        | .ok (.ret v) => Q v s'
        | .ok _ => False
        | .error e => E e s') { s with heap := heapX s.heap C vs }) :
    wpAny (model prog w) A (call (.ref C) vs) Q E s := by
  obtain ⟨bm,N,nm,qn,bs,hdct,sn,sub,ab,col,dd,k0,k1,k2,k3,k5,hC,T⟩ := xClass_in X q
  obtain ⟨h,g,d,t,os⟩ := s
  dsimp only at X hC T hq
  have f1 := tc_lookup
  have f2 := tc_bind (.ref C)
  have hT : (⟨h,g,d,t,os⟩ : Shared).TypeIs (.ref C) "type" := ⟨_,hC,rfl⟩
  refine wpAny_call (codeAny_of_tree ?_)
  show wpAny _ _ (callAny (.ref C) _) _ _ _
  repeat (any_goals (first | assumption | with_reducible refine wpAny_loadPart_at hC ?_ | wp_step))
  refine ⟨rfl, ?_⟩
  refine codeAny_call_builtin_at (Code.quiet_builtin _ (by decide +kernel)) entry_typeCall (wpAny_check_type_call_sub hC ?_)
  repeat (first | with_reducible refine wpAny_loadPart_at hC ?_ | with_reducible refine wpAny_madeBy_exc hC ?_ | wp_step)
  refine codeAny_call_builtin_code (Code.quiet_builtin _ PySem.F.excBase_ValueError.quiet) (wpAny_check_new_subU PySem.F.excBase_ValueError (by decide) T hC ?_)
  refine codeAny_exc_new_subU PySem.F.excBase_ValueError (by decide) PySem.F.excBase_ValueError T hC ?_ hl
  show wpAny _ _ _ _ _ _
  have hC1 := heapX_keeps (C := C) (vs := vs) _ _ hC
  have he := heapX_at (h := h) (C := C) (vs := vs)
  have X1 : K.In (heapX h C vs) := X.keeps heapX_keeps
  have L1 := PySem.W.looks_findIn (M := model prog w) X1 hi
  have hcC : (Value.ref C :: bm).contains (.ref C) = true := by simp
  unfold isInstance
  repeat (first | with_reducible refine wpAny_loadPart_at he ?_ | (with_reducible refine wpAny_isSubtype_exc hC1 ?_; rw [hcC]) | wp_step)
  show wpAny _ _ (isSubtype (.ref C) _) _ _ (⟨heapX h C vs,g,d,t,os⟩ : Shared)
  refine wpAny_isSubtype_exc hC1 ?_
  rw [hcC,if_neg (by decide)]
  have I1 : PySem.W.InstAt (heapX h C vs) (h.objs.size + 1) (newX C h.objs.size) C none := ⟨he,rfl,rfl,trivial⟩
  refine wpAny_bind (wpAny_holding ?_)
  refine PySem.W.special_fn (s := ⟨heapX h C vs,g,d,t,os⟩) X1 I1 hi hf (wpAny_call ?_)
  refine codeAny_mono hq fun r s' z => ?_
  cases r with
  | error e => exact z
  | ok fl =>
    cases fl with
    | ret v =>
      obtain ⟨rfl,z⟩ := z
      exact wpAny_pure z
    | next => exact z.elim
    | brk => exact z.elim
    | cont => exact z.elim
theorem raise_exc {env : Env} {x : Sem Value} {Q : Flow → Shared → Prop} {E : Value → Shared → Prop} {s : Shared} (q : xClass K C = true) (hh : A.handled = none)
    (h : wpAny (model prog w) A x (fun v s1 => ∃ e oe,v = .ref e ∧ K.In s1.heap ∧ s1.heap.get? e = some oe ∧ oe.cls = .ref C ∧ (∃ fs,oe.data = .fields fs ∧ fs[1]? = some Value.none) ∧ E (.ref e) s1) E s) :
    wpAny (model prog w) A (raiseStmt env (some x) none) Q E s := by
  unfold raiseStmt
  refine wpAny_bind (wpAny_mono h (fun v s1 h1 => ?_) fun _ _ z => z)
  obtain ⟨e,oe,rfl,X,he,hcl,⟨fs,hfs,hf1⟩,hE⟩ := h1
  obtain ⟨bm,N,nm,qn,bs,hdct,sn,sub,ab,col,dd,k0,k1,k2,k3,k5,hC,T⟩ := xClass_in X q
  have hcB : (Value.ref C :: bm).contains (.type "BaseException") = true := by rw [List.contains_cons,T.hasType (b := true) (by decide),Bool.or_true]
  obtain ⟨hp,g,d,tk,os⟩ := s1
  dsimp only at he hC
  repeat (first | (with_reducible refine wpAny_loadPart_at he ?_; rw [hcl]) | with_reducible refine wpAny_loadPart_at hC ?_ | (with_reducible refine wpAny_isSubtype_exc hC ?_; rw [hcB]) | wp_step)
  rw [hfs]
  refine wpAny_pure ?_
  rw [hf1]
  refine wpAny_pure ?_
  rw [if_neg (by decide)]
  exact wpAny_pure (wpAny_raiseNew_none hh hE)
theorem init_up {e : Addr} {oe : Obj} {fs : Array Value} {us : List Value} {Q : Value → Shared → Prop} {E : Value → Shared → Prop} {s : Shared} (X : K.In s.heap) (q : xClass K C = true) (he : s.heap.get? e = some oe) (hcl : oe.cls = .ref C) (hd : oe.data = .fields fs) {t0 : Addr} (h0 : fs[0]? = some (Value.ref t0))
    (hl : us.length ≤ sizeLine)
    (hq : Q .none { s with heap := (s.heap.push { cls := .type "tuple",data := .seq us.toArray }).update e (Obj.mapFields (·.setIfInBounds 0 (.ref s.heap.objs.size))) }) :
    wpAny (model prog w) A (call (.builtin "ValueError.__init__") (.ref e :: us)) Q E s := by
  obtain ⟨bm,N,nm,qn,bs,hdct,sn,sub,ab,col,dd,k0,k1,k2,k3,k5,hC,T⟩ := xClass_in X q
  obtain ⟨h,g,d,t,os⟩ := s
  dsimp only at X hC T hq he
  have he1 : (h.push { cls := .type "tuple",data := .seq us.toArray }).get? e = some oe := Heap.get?_push_of_some _ he
  refine wpAny_call (codeAny_call_builtin PySem.F.excBase_ValueError.init.plain PySem.F.excBase_ValueError.initEntry (wpAny_check_init_subU PySem.F.excBase_ValueError T hC he hcl ?_))
  have hz : 0 < fs.size := (Array.getElem?_eq_some_iff.mp h0).1
  wp_walk
  rw [hd]
  refine wpAny_pure ?_
  rw [h0]
  refine wpAny_pure (wpAny_bind (wpAny_setField he1 hd hz ?_))
  wp_walk
  exact hq
end
theorem refuse_V (self : Value) : refuseLoop self "__setattr__" bmV = pure () := by kernel_rfl
def isOwn : Value → Bool
  | .ref _ => true
  | _ => false
def overV : List Value → Bool
  | [] => false
  | v :: r => (v :: r) == bmV || (isOwn v && overV r)
theorem overV_refuse (self : Value) : ∀ {l : List Value},overV l = true → refuseLoop self "__setattr__" l = pure ()
  | [],h => by cases h
  | v :: r,h => by
    rcases Bool.or_eq_true_iff.mp h with q | q
    · rw [show (v :: r) = bmV from beq_iff_eq.mp q]
      exact refuse_V self
    · rw [Bool.and_eq_true] at q
      cases v with
      | ref C => rw [refuseLoop_ref]; exact overV_refuse self q.2
      | _ => cases q.1
theorem overV_top : ∀ {l : List Value},overV l = true → l.contains (.type "object") = true
  | [],h => by cases h
  | v :: r,h => by
    rcases Bool.or_eq_true_iff.mp h with q | q
    · rw [show (v :: r) = bmV from beq_iff_eq.mp q]
      decide
    · rw [Bool.and_eq_true] at q
      rw [List.contains_cons,overV_top q.2,Bool.or_true]
def overIn (K : PySem.W.Frag) (C : Addr) : Bool := (PySem.W.clsIn K C).any fun dat => overV dat.mro
section
variable {prog : Program} {w : World} {A : Around} {E : Value → Shared → Prop} {K : PySem.W.Frag} {C x : Addr} {oe : Obj} {fs : Array Value} {name : Str} {v : Value} {s : Shared}
theorem set_exc {Q : Unit → Shared → Prop} (X : K.In s.heap) (hs : PySem.W.findIn K (.ref C) "__setattr__" = some (some (.builtin "object.__setattr__"))) (ho : overIn K C = true) (hn : NoAttr K C name) (hh : PySem.W.hasDictIn K C = true)
    (he : s.heap.get? x = some oe) (hcl : oe.cls = .ref C) (hda : oe.data = .fields fs) (hdn : oe.dict = none)
    (hq : ∀ h' tk,h'.get? x = some { oe with dict := some s.heap.objs.size } → h'.Ns1 s.heap.objs.size (fun y => if y = name then some v else none) → (∀ b o,b ≠ x → s.heap.get? b = some o → h'.get? b = some o) → Q () { s with heap := h',toks := tk }) :
    wpAny (model prog w) A (setAttr (.ref x) name v) Q E s := by
  have J : PySem.W.InstAt s.heap x oe C none := ⟨he,hcl,by unfold PySem.W.notCls; rw [hda],by rw [hdn]; trivial⟩
  have SF := PySem.F.store_object
  obtain ⟨dat,hc,hov⟩ := PySem.W.any_some ho
  obtain ⟨dat',hc',hd'⟩ := PySem.W.any_some hh
  rw [hc] at hc'
  cases hc'
  have ne : ¬ dat.mro.isEmpty = true := fun z => by
    cases q : dat.mro with
    | nil => rw [q] at hov; cases hov
    | cons a b => rw [q] at z; cases z
  have hobj : PySem.W.mroIn K C (.type "object") = some true := by
    unfold PySem.W.mroIn
    rw [hc,Option.bind_some,if_neg ne,overV_top hov]
  refine PySem.W.set_plain X J hs ?_
  refine codeAny_call_builtin SF.slot.plain SF.entry (@PySem.W.check_slot (model prog w) _ _ { s with toks := s.toks + 1 } "object.__setattr__" "object" "__setattr__" (.ref x) [.str name s.toks,v] [] _ SF.kind SF.split (J.type.andThen (PySem.W.looks_mroIn X hobj)) (SF.args (.ref x) (.str name s.toks) v) ?_)
  have hmro : PySem.W.Looks (model prog w) s.heap (mroOf (.ref C)) dat.mro := (PySem.W.looks_clsIn X hc).andThen .now
  rw [PySem.W.osa_eq,refuse_eq]
  refine wpAny_bind (wpAny_bind (PySem.W.Looks.here (s := { s with toks := s.toks + 1 }) J.type (wpAny_bind (PySem.W.Looks.here (s := { s with toks := s.toks + 1 }) hmro ?_))))
  rw [overV_refuse _ hov]
  refine wpAny_pure (wpAny_bind (PySem.W.Looks.here (s := { s with toks := s.toks + 1 }) J.type (wpAny_bind (PySem.W.Looks.here (s := { s with toks := s.toks + 1 }) (PySem.W.looks_findIn X hn) (wpAny_bind (wpAny_pure ?_))))))
  show wpAny _ _ (PySem.Builtin.ObjectAttr.storeInOwnDict (.ref x) (.ref C) (.str name s.toks) name v false) _ _ _
  obtain ⟨oc,od,oda,osl⟩ := oe
  simp only at hcl hda hdn
  subst hcl hda hdn
  obtain ⟨h,g,d,t,os⟩ := s
  dsimp only at he hq X
  refine wpAny_bind (wpAny_pure (wpAny_bind (wpAny_bind (wpAny_loadPart he (wpAny_bind (PySem.W.Looks.here (s := ⟨h,g,d,t + 1,os⟩) (PySem.W.looks_clsIn X hc) ?_))))))
  rw [hd',if_neg (by decide)]
  dsimp only
  rw [if_neg (by simp [typeHasDict])]
  have nx : h.objs.size ≠ x := Nat.ne_of_gt (Heap.lt_size he)
  have he1 : (h.push { cls := .type "dict",data := .dict #[] }).get? x = some ⟨.ref C,none,.fields fs,osl⟩ := Heap.get?_push_of_some _ he
  refine wpAny_bind (wpAny_alloc' (wpAny_bind (wpAny_update' he1 (wpAny_pure ?_))))
  have hx2 := Heap.get?_update_self (fun o : Obj => { o with dict := some h.objs.size }) he1 rfl
  have hd2 : ((h.push { cls := .type "dict",data := .dict #[] }).update x fun o => { o with dict := some h.objs.size }).get? h.objs.size = some { cls := .type "dict",data := .dict #[] } :=
    (Heap.get?_update_ne _ _ _ _ nx).trans (Heap.get?_push_size h rfl)
  have hk2 : ∀ b o,b ≠ x → h.get? b = some o → ((h.push { cls := .type "dict",data := .dict #[] }).update x fun o => { o with dict := some h.objs.size }).get? b = some o := fun b o hb e =>
    (Heap.get?_update_ne _ _ _ _ hb).trans (Heap.get?_push_of_some _ e)
  generalize hH : ((h.push { cls := .type "dict",data := .dict #[] }).update x fun o => { o with dict := some h.objs.size }) = H2 at hx2 hd2 hk2
  have hns : H2.Ns h.objs.size (fun _ => none) := ⟨_,#[],_,hd2,rfl,fun e z => absurd z (by simp),fun _ => rfl⟩
  show wpAny _ _ (PySem.Builtin.ObjectAttr.storeInDict h.objs.size (.str name t) name v) _ _ _
  refine wpAny_bind (wpAny_pure (wpAny_bind (wpAny_nsSet1 (Heap.Ns1.of_empty hns) fun h' hn' sb => ?_)))
  obtain ⟨oD,esD,epD,hoD,hdD,hcD⟩ := hn'.count (PySem.Within.cons name v PySem.Within.nil)
  refine wpAny_bind (wpAny_lookBehind hoD (by rw [hdD]; exact pastItsLine_dict (Nat.le_trans hcD (by show 1 ≤ sizeLine + 1; decide))) ?_)
  refine wpAny_pure (hq h' _ ((sb.2 x (Ne.symm nx)).trans hx2) hn' fun b o hb e => (sb.2 b (Nat.ne_of_lt (Heap.lt_size e))).trans (hk2 b o hb e))
theorem get_exc {dx : Addr} {mA : Str → Option Value} {expr : Bool} {Q : Value → Shared → Prop} (X : K.In s.heap) (ga : PySem.W.findIn K (.ref C) "__getattribute__" = some (some (.builtin "BaseException.__getattribute__")))
    (gh : PySem.W.findIn K (.ref C) "__getattr__" = some none) (be : PySem.W.mroIn K C (.type "BaseException") = some true) (hh : PySem.W.hasDictIn K C = true) (hn : NoAttr K C name)
    (he : s.heap.get? x = some oe) (hcl : oe.cls = .ref C) (hda : oe.data = .fields fs) (hd : oe.dict = some dx) (ns : s.heap.Ns1 dx mA) (hv : mA name = some v) (hv' : PySem.W.handedIn v = true)
    (q : Q v { s with toks := s.toks + 1 }) : wpAny (model prog w) A (getAttr (.ref x) name expr) Q E s := by
  obtain ⟨od,ho,hl⟩ := lookIn_ns ns
  have J : PySem.W.InstAt s.heap x oe C (some od) := ⟨he,hcl,by unfold PySem.W.notCls; rw [hda],by rw [hd]; exact ho⟩
  have hf : PySem.W.findObj K C (some od) name = some (.value v) := PySem.W.findObj_own hh hn rfl (by rw [hl,hv])
  obtain ⟨h,g,d,t,os⟩ := s
  dsimp only at X J q
  have L0 := J.type (M := model prog w)
  have L1 := PySem.W.looks_findIn (M := model prog w) X ga
  have LH : PySem.W.Looks (model prog w) h (hookBefore (.ref C)) none := PySem.W.looks_hook X (by exact gh)
  have L2 := PySem.W.looks_find (M := model prog w) X J hf
  unfold getAttr getAttrBy
  refine wpAny_bind (wpAny_mkText (wpAny_holding (wpAny_bind (L0.at (wpAny_bind (L1.at ?_))))))
  dsimp only
  rw [if_neg (by rw [show (Value.builtin "BaseException.__getattribute__" == Value.builtin "object.__getattribute__") = false from by decide +kernel,Bool.and_false]; decide)]
  unfold getAttrByItsOwn
  refine wpAny_bind (LH.at (wpAny_bind (wpAny_attempt (wpAny_holding ?_))))
  unfold callGetattribute
  rw [if_neg (by rw [show onTheHeap (Value.builtin "BaseException.__getattribute__") = false from by decide +kernel,Bool.and_false]; decide)]
  unfold boundAndCalled
  rw [PySem.F.excAttr_ValueError.ga.bind]
  refine wpAny_bind (wpAny_pure ?_)
  show wpAny _ _ (call (.builtin "BaseException.__getattribute__") [.ref x,.str name t]) _ _ _
  refine wpAny_call (codeAny_call_builtin PySem.F.excAttr_ValueError.ga.plain PySem.F.entry_bexc_ga ?_)
  refine @PySem.W.check_slot (model prog w) _ _ ⟨h,g,d,t + 1,os⟩ "BaseException.__getattribute__" "BaseException" "__getattribute__" (.ref x) [.str name t] [] _ (by decide +kernel) (by decide +kernel) (L0.andThen (PySem.W.looks_mroIn X be)) (PySem.F.args_bexc_ga _ _) ?_
  unfold Builtin.«object.__getattribute__»
  refine wpAny_bind (wpAny_pure (wpAny_bind (wpAny_pure (wpAny_bind (L0.at (wpAny_bind (L2.at ?_)))))))
  refine wpAny_pure ?_
  exact PySem.W.handed_on hv' q
end
end L2
namespace L2
open PySem PySem.Spec PyProof.Rows
def ExcM (a C : Addr) (od oc : Option Addr) : HO := .ext fun h => ∃ o fs t0,h.get? a = some o ∧ o.cls = .ref C ∧ o.data = .fields fs ∧ fs[0]? = some (Value.ref t0) ∧ fs[1]? = some Value.none ∧ fs[2]? = some (ctxV oc) ∧ o.dict = od ∧ fs.size = 6
abbrev ExcN (a C : Addr) (od : Option Addr) : HO := ExcM a C od none
theorem excN_ok {P : Program} {w : World} {H : Hp} {h : Heap} {a C : Addr} {od oc : Option Addr} {o : Obj} {fs : Array Value} {t0 : Addr} (e1 : h.get? a = some o) (e2 : o.cls = .ref C) (e3 : o.data = .fields fs) (e4 : fs[0]? = some (Value.ref t0)) (e5 : fs[1]? = some Value.none) (e6 : fs[2]? = some (ctxV oc)) (e7 : o.dict = od) (e8 : fs.size = 6) :
    ObjOk P w H h a (ExcM a C od oc) := by
  refine ⟨⟨o,fs,t0,e1,e2,e3,e4,e5,e6,e7,e8⟩,⟨o,e1⟩,fun h1 h2 p st => ?_⟩
  obtain ⟨o,fs,t0,e,rest⟩ := p
  exact ⟨o,fs,t0,st o e,rest⟩
theorem excN_at {P : Program} {w : World} {H : Hp} {h : Heap} {a C : Addr} {od oc : Option Addr} (ok : HOk P w H h) (e : H a = some (ExcM a C od oc)) :
    ∃ o fs t0,h.get? a = some o ∧ o.cls = .ref C ∧ o.data = .fields fs ∧ fs[0]? = some (Value.ref t0) ∧ fs[1]? = some Value.none ∧ fs[2]? = some (ctxV oc) ∧ o.dict = od ∧ fs.size = 6 := (ok a _ e).1
def del (H : Hp) (a : Addr) : Hp := fun b => if b = a then none else H b
theorem del_self {H : Hp} {a : Addr} : del H a a = none := if_pos rfl
theorem del_ne {H : Hp} {a b : Addr} (h : b ≠ a) : del H a b = H b := if_neg h
theorem del_some {H : Hp} {a b : Addr} {o : HO} (h : del H a b = some o) : b ≠ a ∧ H b = some o := by
  by_cases z : b = a
  · rw [z,del_self] at h; cases h
  · rw [del_ne z] at h; exact ⟨z,h⟩
section
variable {P : Program} {w : World} {K : PySem.W.Frag} {mg : Str → Option Value} {base : Heap} {N : List Str} {qual : Str} {scope : Scope} {f : Addr} {cd : Value} {A : Around} {outer : List Env} {s₀ : Shared} {H₀ : Hp} {E : XK}
  {pins : List (Addr × Obj)} {σ : St} {H : Hp} {s : Shared}
theorem raise_leavesD {e C : Addr} {od oc : Option Addr} (I : Inv (cxOf (CX1 P w base) P w K mg base N qual scope f cd A outer s₀ H₀ E) pins σ H s) (he : H e = some (ExcM e C od oc)) (hn : s₀.heap.get? e = none) (oz : od = none → oc = none) (xc : XcOk (del H e) oc) (hE : E (.ref C) od (del H e)) :
    (cxOf (CX1 P w base) P w K mg base N qual scope f cd A outer s₀ H₀ E).xe (.ref e) s := by
  have hst := I.stack
  have hfree := I.stkFree
  obtain ⟨oe,fs,t0,g1,g2,g3,g4,g5,g6,g7,_⟩ := excN_at I.hok he
  generalize hF : frs (envOfC qual scope s₀.heap.objs.size f cd :: outer) = FR
  have hst' : s.heap.FunFrames base (envOfC qual scope s₀.heap.objs.size f cd :: outer) := hst
  have hfr : ∀ b,b ∈ FR ↔ b = s₀.heap.objs.size ∨ b ∈ frs outer := fun b => by
    rw [← hF]
    show b ∈ s₀.heap.objs.size :: frs outer ↔ _
    exact List.mem_cons
  have hfree' : ∀ b ∈ FR,H b = none := fun b hb => hfree b (by rw [← hF] at hb; exact hb)
  have enf : e ∉ FR := fun z => by rw [hfree' e z] at he; cases he
  have old : ∀ b o,s₀.heap.get? b = some o → b ≠ s₀.heap.objs.size := fun b o q => Nat.ne_of_lt (Heap.lt_size q)
  have olde : ∀ b o,s₀.heap.get? b = some o → b ≠ e := fun b o q z => by rw [z,hn] at q; cases q
  have hin : ∀ env ∈ (envOfC qual scope s₀.heap.objs.size f cd :: outer),∀ b,env.frame = some b → b ∈ e :: FR := fun env h1 b hb => List.mem_cons_of_mem _ (by rw [← hF]; exact List.mem_filterMap.mpr ⟨env,h1,hb⟩)
  have c0 : Ctx0 e od oc s.heap := ⟨oe,fs,g1,g3,g6,g7⟩
  have Be : (PySem.W.hideAll s.heap (e :: FR)).get? e = none := PySem.W.hideAll_none _ (List.mem_cons_self ..)
  refine wpAny_mono (tame_any (a := e) (s := s) tame_leaving c0 (wpAny_leaving_firstW (E := fun _ _ => False) (Q := fun _ s2 => ∃ h2 : Heap,s2 = { s with heap := h2 } ∧ Heap.FlyingW (PySem.W.hideAll s.heap (e :: FR)) outer e (.ref C) (.ref t0) h2 ∧ s.heap.UpToSlots h2) (base := PySem.W.hideAll s.heap (e :: FR)) (a0 := .ref t0)
    I.ok.frames (PySem.W.funFrames_hide hst' hin) rfl g1 (fun b o q => PySem.W.of_hideAll _ q) Be g3 g5 g4 fun h2 hL => ?_)) (fun _ s2 ⟨⟨h2,e2,fl,up⟩,c2⟩ => ?_) (fun _ _ z => z.1.elim)
  · obtain ⟨x1,⟨_,_,x2⟩,x3,x4⟩ := hL
    rw [g2] at x3
    exact ⟨h2,rfl,⟨x1,Be,x2,x3⟩,x4⟩
  subst e2
  have keep : ∀ b o,b ∉ FR → b ≠ e → s.heap.get? b = some o → h2.get? b = some o := fun b o hb hbe q => fl.1 b o (PySem.W.hideAll_get _ q fun z => (List.mem_cons.mp z).elim hbe hb)
  have slots : ∀ b o,b ∈ FR → s.heap.get? b = some o → ∃ sl,h2.get? b = some { o with slots := sl } := fun b o hb q => by
    rw [← hF] at hb
    obtain ⟨_,o1,e1,hd⟩ := hst.mem hb
    rw [q] at e1; cases e1
    exact up b o q hd
  have live : ∀ b o,s₀.heap.get? b = some o → ∃ o',s.heap.get? b = some o' := fun b o q => I.base.there b o q (by intro z; cases z)
  refine ⟨e,C,.ref t0,del H e,_,rfl,I.os,I.bare,⟨fun b o q n hb hx => ?_,fun b o q n hb hx => ?_,fun b o q n hx => ?_,fun b o q hx => ?_,fun b xs q => ?_,fun b o u q => ?_,fun b ps q => ?_⟩,fun b u q => ?_,fl,fun b o q => ?_,fun b hb hh => ?_,fun b hb => ?_,od,oc,c2,oz,xc,hE⟩
  · exact keep b o (fun z => ((hfr b).mp z).elim (old b o q) hb) (olde b o q) (I.base.keep b o q n hb hx)
  · obtain ⟨sl,e1⟩ := I.base.slot b o q n hb hx
    obtain ⟨sl2,e2⟩ := slots b _ ((hfr b).mpr (.inr hb)) e1
    exact ⟨sl2,e2⟩
  · rw [del_ne (olde b o q)]
    exact I.base.free b o q n hx
  · obtain ⟨o1,e1⟩ := I.base.there b o q hx
    by_cases z : b ∈ FR
    · obtain ⟨sl2,e2⟩ := slots b _ z e1
      exact ⟨_,e2⟩
    · exact ⟨_,keep b _ z (olde b o q) e1⟩
  · have z := I.base.tups b xs q
    rw [del_ne (fun y => by rw [y,he] at z; cases z)]
    exact z
  · have z := I.base.frzs b o u q
    rw [del_ne (fun y => by rw [y,he] at z; cases z)]
    exact z
  · obtain ⟨more,z⟩ := I.base.tbls b ps q
    exact ⟨more,by rw [del_ne (fun y => by rw [y,he] at z; cases z)]; exact z⟩
  · obtain ⟨hbe,q⟩ := del_some q
    have own : ∀ d x,H d = some (.own x) → d ≠ e := fun d x z y => by rw [y,he] at z; cases z
    have tup : ∀ d xs,H d = some (.tup xs) → d ≠ e := fun d xs z y => by rw [y,he] at z; cases z
    refine (I.hok b u q).stay (fun d v hd r => ?_) (fun d r => by rw [del_ne (own d _ r)]; exact r) fun d xs r => by rw [del_ne (tup d xs r)]; exact r
    have hn' : ∃ o,H d = some o ∧ d ≠ e := by
      rcases hd with rfl | hd
      · exact ⟨_,q,hbe⟩
      · exact ⟨_,hd,own d _ hd⟩
    obtain ⟨o,ho,hde⟩ := hn'
    exact keep d v (fun z => by rw [hfree' d z] at ho; cases ho) hde r
  · have hs : s.heap.get? b = some o := I.bk b o q
    refine PySem.W.hideAll_get _ hs fun z => ?_
    rcases List.mem_cons.mp z with z | z
    · have := (I.bs b o q).2
      rw [z,he] at this; cases this
    · rw [← hF] at z
      have := (hst.mem z).1
      have q' : base.get? b = some o := q
      rw [show (cxOf (CX1 P w base) P w K mg base N qual scope f cd A outer s₀ H₀ E).base = base from rfl] at this
      rw [q'] at this; cases this
  · have hs : (∃ o,s.heap.get? b = some o) ∧ b ≠ s₀.heap.objs.size ∧ b ≠ e := by
      rcases hh with ⟨o,ho⟩ | ⟨o,ho⟩
      · exact ⟨live b o ho,old b o ho,olde b o ho⟩
      · obtain ⟨hbe,ho⟩ := del_some ho
        refine ⟨hok_there I.hok ho,fun z => ?_,hbe⟩
        have := I.free
        rw [z] at ho
        rw [show (cxOf (CX1 P w base) P w K mg base N qual scope f cd A outer s₀ H₀ E).env.locals = s₀.heap.objs.size from rfl] at this
        rw [this] at ho; cases ho
    obtain ⟨⟨o,ho⟩,hne,hbe⟩ := hs
    exact ⟨o,PySem.W.hideAll_get _ ho fun z => (List.mem_cons.mp z).elim hbe fun z => ((hfr b).mp z).elim hne hb⟩
  · by_cases z : b = e
    · rw [z]; exact del_self
    · rw [del_ne z]
      exact hfree' b ((hfr b).mpr (.inr hb))
theorem raise_leavesQ {e C ah : Addr} {od oc : Option Addr} (I : Inv ((cxOf (CX1 P w base) P w K mg base N qual scope f cd A outer s₀ H₀ E).inExc ah) pins σ H s) (he : H e = some (ExcM e C od oc)) (hn : s₀.heap.get? e = none) (oz : od = none → oc = none) (xc : XcOk (del H e) oc) (hE : E (.ref C) od (del H e)) :
    (cxOf (CX1 P w base) P w K mg base N qual scope f cd A outer s₀ H₀ E).xe (.ref e) s := by
  have hst := I.stack
  have hfree := I.stkFree
  obtain ⟨oe,fs,t0,g1,g2,g3,g4,g5,g6,g7,_⟩ := excN_at I.hok he
  generalize hF : frs (envOfC qual scope s₀.heap.objs.size f cd :: outer) = FR
  have hst' : s.heap.FunFrames base (envOfC qual scope s₀.heap.objs.size f cd :: outer) := hst
  have hfr : ∀ b,b ∈ FR ↔ b = s₀.heap.objs.size ∨ b ∈ frs outer := fun b => by
    rw [← hF]
    show b ∈ s₀.heap.objs.size :: frs outer ↔ _
    exact List.mem_cons
  have hfree' : ∀ b ∈ FR,H b = none := fun b hb => hfree b (by rw [← hF] at hb; exact hb)
  have enf : e ∉ FR := fun z => by rw [hfree' e z] at he; cases he
  have old : ∀ b o,s₀.heap.get? b = some o → b ≠ s₀.heap.objs.size := fun b o q => Nat.ne_of_lt (Heap.lt_size q)
  have olde : ∀ b o,s₀.heap.get? b = some o → b ≠ e := fun b o q z => by rw [z,hn] at q; cases q
  have hin : ∀ env ∈ (envOfC qual scope s₀.heap.objs.size f cd :: outer),∀ b,env.frame = some b → b ∈ e :: FR := fun env h1 b hb => List.mem_cons_of_mem _ (by rw [← hF]; exact List.mem_filterMap.mpr ⟨env,h1,hb⟩)
  have c0 : Ctx0 e od oc s.heap := ⟨oe,fs,g1,g3,g6,g7⟩
  have Be : (PySem.W.hideAll s.heap (e :: FR)).get? e = none := PySem.W.hideAll_none _ (List.mem_cons_self ..)
  refine wpAny_mono (tame_any (a := e) (s := s) tame_leaving c0 (wpAny_leaving_firstW (E := fun _ _ => False) (Q := fun _ s2 => ∃ h2 : Heap,s2 = { s with heap := h2 } ∧ Heap.FlyingW (PySem.W.hideAll s.heap (e :: FR)) outer e (.ref C) (.ref t0) h2 ∧ s.heap.UpToSlots h2) (base := PySem.W.hideAll s.heap (e :: FR)) (a0 := .ref t0)
    I.ok.frames (PySem.W.funFrames_hide hst' hin) rfl g1 (fun b o q => PySem.W.of_hideAll _ q) Be g3 g5 g4 fun h2 hL => ?_)) (fun _ s2 ⟨⟨h2,e2,fl,up⟩,c2⟩ => ?_) (fun _ _ z => z.1.elim)
  · obtain ⟨x1,⟨_,_,x2⟩,x3,x4⟩ := hL
    rw [g2] at x3
    exact ⟨h2,rfl,⟨x1,Be,x2,x3⟩,x4⟩
  subst e2
  have keep : ∀ b o,b ∉ FR → b ≠ e → s.heap.get? b = some o → h2.get? b = some o := fun b o hb hbe q => fl.1 b o (PySem.W.hideAll_get _ q fun z => (List.mem_cons.mp z).elim hbe hb)
  have slots : ∀ b o,b ∈ FR → s.heap.get? b = some o → ∃ sl,h2.get? b = some { o with slots := sl } := fun b o hb q => by
    rw [← hF] at hb
    obtain ⟨_,o1,e1,hd⟩ := hst.mem hb
    rw [q] at e1; cases e1
    exact up b o q hd
  have live : ∀ b o,s₀.heap.get? b = some o → ∃ o',s.heap.get? b = some o' := fun b o q => I.base.there b o q (by intro z; cases z)
  refine ⟨e,C,.ref t0,del H e,_,rfl,I.os,I.bare,⟨fun b o q n hb hx => ?_,fun b o q n hb hx => ?_,fun b o q n hx => ?_,fun b o q hx => ?_,fun b xs q => ?_,fun b o u q => ?_,fun b ps q => ?_⟩,fun b u q => ?_,fl,fun b o q => ?_,fun b hb hh => ?_,fun b hb => ?_,od,oc,c2,oz,xc,hE⟩
  · exact keep b o (fun z => ((hfr b).mp z).elim (old b o q) hb) (olde b o q) (I.base.keep b o q n hb hx)
  · obtain ⟨sl,e1⟩ := I.base.slot b o q n hb hx
    obtain ⟨sl2,e2⟩ := slots b _ ((hfr b).mpr (.inr hb)) e1
    exact ⟨sl2,e2⟩
  · rw [del_ne (olde b o q)]
    exact I.base.free b o q n hx
  · obtain ⟨o1,e1⟩ := I.base.there b o q hx
    by_cases z : b ∈ FR
    · obtain ⟨sl2,e2⟩ := slots b _ z e1
      exact ⟨_,e2⟩
    · exact ⟨_,keep b _ z (olde b o q) e1⟩
  · have z := I.base.tups b xs q
    rw [del_ne (fun y => by rw [y,he] at z; cases z)]
    exact z
  · have z := I.base.frzs b o u q
    rw [del_ne (fun y => by rw [y,he] at z; cases z)]
    exact z
  · obtain ⟨more,z⟩ := I.base.tbls b ps q
    exact ⟨more,by rw [del_ne (fun y => by rw [y,he] at z; cases z)]; exact z⟩
  · obtain ⟨hbe,q⟩ := del_some q
    have own : ∀ d x,H d = some (.own x) → d ≠ e := fun d x z y => by rw [y,he] at z; cases z
    have tup : ∀ d xs,H d = some (.tup xs) → d ≠ e := fun d xs z y => by rw [y,he] at z; cases z
    refine (I.hok b u q).stay (fun d v hd r => ?_) (fun d r => by rw [del_ne (own d _ r)]; exact r) fun d xs r => by rw [del_ne (tup d xs r)]; exact r
    have hn' : ∃ o,H d = some o ∧ d ≠ e := by
      rcases hd with rfl | hd
      · exact ⟨_,q,hbe⟩
      · exact ⟨_,hd,own d _ hd⟩
    obtain ⟨o,ho,hde⟩ := hn'
    exact keep d v (fun z => by rw [hfree' d z] at ho; cases ho) hde r
  · have hs : s.heap.get? b = some o := I.bk b o q
    refine PySem.W.hideAll_get _ hs fun z => ?_
    rcases List.mem_cons.mp z with z | z
    · have := (I.bs b o q).2
      rw [z,he] at this; cases this
    · rw [← hF] at z
      have := (hst.mem z).1
      have q' : base.get? b = some o := q
      rw [show (cxOf (CX1 P w base) P w K mg base N qual scope f cd A outer s₀ H₀ E).base = base from rfl] at this
      rw [q'] at this; cases this
  · have hs : (∃ o,s.heap.get? b = some o) ∧ b ≠ s₀.heap.objs.size ∧ b ≠ e := by
      rcases hh with ⟨o,ho⟩ | ⟨o,ho⟩
      · exact ⟨live b o ho,old b o ho,olde b o ho⟩
      · obtain ⟨hbe,ho⟩ := del_some ho
        refine ⟨hok_there I.hok ho,fun z => ?_,hbe⟩
        have := I.free
        rw [z] at ho
        rw [show (cxOf (CX1 P w base) P w K mg base N qual scope f cd A outer s₀ H₀ E).env.locals = s₀.heap.objs.size from rfl] at this
        rw [this] at ho; cases ho
    obtain ⟨⟨o,ho⟩,hne,hbe⟩ := hs
    exact ⟨o,PySem.W.hideAll_get _ ho fun z => (List.mem_cons.mp z).elim hbe fun z => ((hfr b).mp z).elim hne hb⟩
  · by_cases z : b = e
    · rw [z]; exact del_self
    · rw [del_ne z]
      exact hfree' b ((hfr b).mpr (.inr hb))
end
end L2
namespace L2
open PySem PySem.Spec PyProof.Rows
section
variable {X : Cx}
structure UpK (K : PySem.W.Frag) (CH : Addr) : Prop where
  rd : PySem.W.readsIn K CH (.type "type") = true
  fc : PySem.W.findCls K (.ref CH) (.type "type") "__init__" = some (.val (.builtin "ValueError.__init__"))
  ga : PySem.W.specialIn K (.ref CH) "__getattribute__" = some (some (.builtin "type.__getattribute__"))
def tUp (K : PySem.W.Frag) (t : TA) : TE := fun σ H Q => t σ H fun vs H1 => ∃ a C v,vs = [.ref a,v] ∧ H1 a = some (ExcN a C none) ∧ xClass K C = true ∧ Q .non (upd H1 a (ExcN a C none))
theorem pe_up {x : Str} {CH : Addr} {p apos pos : Pos} {e : Expr} {es : List Expr} {t : TA} {pl : Sem Bool} (U : UpK X.K CH) (hm : X.mg x = some (.ref CH)) (ha : PA X (e :: es) t) (hg : Gl X x := by rfl) (hdb : (x == ("__debug__" : Str)) = false := by decide) (he : notStar e = true := by rfl) (hpl : es.all notStar = true := by rfl)
    (ht : eval (.Call (.Attribute (.Name x p) "__init__" apos) (e :: es) [] pos) X.env = (do
      let ov ← eval (.Name x p) X.env
      standAt apos.atName
      let (f,first) ← holding [ov] (getMethod ov "__init__" pl)
      callWith pos f first (backTo pos (starEach (e :: es) X.env)) (backToKw pos (keywordEach [] X.env))) := by rfl) : PE X (.Call (.Attribute (.Name x p) "__init__" apos) (e :: es) [] pos) (tUp X.K t) := by
  intro pins s σ H Q I h
  refine PySem.W.methodCall_KW (pl := pl) (ld_glob I hg hm ?_ hdb) ht
  refine PySem.W.method_cls I.kIn U.ga (PySem.W.cls_value I.kIn U.rd U.fc rfl ?_)
  refine callWith_builtin1 (thn (ha pos pins _ σ H _ (I.tok _) h) fun us s2 ⟨vs,H2,I2,r,q⟩ => ?_) (star_cons he) (star_none hpl)
  obtain ⟨a,C,v,rfl,ea,xc,q⟩ := q
  obtain ⟨u1,u2,rfl,r1,r2⟩ := vals2 r
  obtain rfl : u1 = Value.ref a := r1
  obtain ⟨oe,fs,t0,g1,g2,g3,g4,g5,g6,g7,g8⟩ := excN_at I2.hok ea
  refine init_up I2.kIn xc g1 g2 g3 g4 (by show 1 ≤ sizeLine; decide) ?_
  have g1' : (s2.heap.push { cls := .type "tuple",data := .seq [u2].toArray }).get? a = some oe := Heap.get?_push_of_some _ g1
  have hd2 := Obj.data_mapFields g3 (·.setIfInBounds 0 (Value.ref s2.heap.objs.size))
  have ga := Heap.get?_update_self (Obj.mapFields (·.setIfInBounds 0 (Value.ref s2.heap.objs.size))) g1' (Obj.isFreed_of_fields hd2)
  have hz : 0 < fs.size := (Array.getElem?_eq_some_iff.mp g4).1
  refine ⟨.non,_,I2.write (x := a) (e := a) (o := ExcN a C none) (t' := s2.toks) (by rw [ea]; exact True.intro) (.inl rfl) (fun b u hb z => ?_) ⟨_,ga⟩ ?_,rfl,q⟩
  · rw [Heap.get?_update_other _ _ (Ne.symm hb)]
    exact Heap.get?_push_of_some _ z
  · refine excN_ok ga ?_ hd2 (t0 := s2.heap.objs.size) (by simp [hz]) ?_ ?_ ?_ (by rw [Array.size_setIfInBounds]; exact g8)
    · rw [Obj.cls_mapFields]; exact g2
    · rw [Array.getElem?_setIfInBounds_ne (by decide)]; exact g5
    · rw [Array.getElem?_setIfInBounds_ne (by decide)]; exact g6
    · rw [show (Obj.mapFields (·.setIfInBounds 0 (Value.ref s2.heap.objs.size)) oe).dict = oe.dict from by unfold Obj.mapFields; split <;> rfl]; exact g7
structure XAttr (K : PySem.W.Frag) (C : Addr) (f : Str) : Prop where
  sa : PySem.W.findIn K (.ref C) "__setattr__" = some (some (.builtin "object.__setattr__"))
  ov : overIn K C = true
  na : NoAttr K C f
  hd : PySem.W.hasDictIn K C = true
def sXFld (K : PySem.W.Frag) (ta tv : TE) (f : Str) : TS := fun D σ H => tv σ H fun y H1 => ta σ H1 fun x H2 => ∃ a C,x = .ref a ∧ H2 a = some (ExcN a C none) ∧ XAttr K C f ∧ ∀ dx,H2 dx = none → dx ≠ a → D.nx σ (upd (upd H2 a (ExcN a C (some dx))) dx (.xd [(f,y)]))
theorem ps_xfld {o value : Expr} {f : Str} {ta tv : TE} {pos pos' : Pos} (ha : PE X o ta) (hv : PE X value tv) (hs : swapsWith value (some (.Attribute o f pos')) pos.line X.env = pure false) : PS X (.Assign [.Attribute o f pos'] value pos) (sXFld X.K ta tv f) := by
  intro pins s σ H D I h
  refine plainObj_wpAny_Assign_Attribute (thn (hv pins s σ H _ I h) fun u s1 ⟨y,H1,I1,ry,q⟩ => thn (ha pins s1 σ H1 _ I1 q) fun ov s2 ⟨x,H2,I2,rx,a,C,ex,ea,xa,q2⟩ => ?_) hs
  subst ex
  obtain rfl : ov = Value.ref a := rx
  obtain ⟨oe,fs,t0,g1,g2,g3,g4,g5,g6,g7,g8⟩ := excN_at I2.hok ea
  refine set_exc I2.kIn xa.sa xa.ov xa.na xa.hd g1 g2 g3 g7 fun h' tk ea' ns k => ?_
  have ne : s2.heap.objs.size ≠ a := Nat.ne_of_gt (Heap.lt_size g1)
  have fr : H2 s2.heap.objs.size = none := I2.fresh
  have mu : Mut (H2 a) := by rw [ea]; exact True.intro
  have n2 : (upd H2 a (ExcN a C (some s2.heap.objs.size))) s2.heap.objs.size = none := by rw [upd_ne ne]; exact fr
  have k' : ∀ b u,b ≠ a → s2.heap.get? b = some u → h'.get? b = some u := fun b u hb z => k b u hb z
  have nw : ObjOk X.prog X.w (upd H2 a (ExcN a C (some s2.heap.objs.size))) h' a (ExcN a C (some s2.heap.objs.size)) := excN_ok ea' g2 g3 g4 g5 g6 rfl g8
  have w1 : HOk X.prog X.w (upd H2 a (ExcN a C (some s2.heap.objs.size))) h' := I2.hok.write mu (.inl rfl) k' ⟨_,ea'⟩ nw
  refine ⟨σ,_,I2.un (t' := tk) (un_track (o := .xd [(f,y)]) (Un.write (o := ExcN a C (some s2.heap.objs.size)) mu (.inl rfl) k' ⟨_,ea'⟩) n2 ?_) (w1.track n2 ⟨_,ns,fun g => ?_⟩),q2 _ fr ne⟩
  · exact Heap.get?_none_of_le (Nat.le_refl _)
  · show RelO (List.lookup g [(f,y)]) (if g = f then some u else none)
    by_cases z : g = f
    · rw [if_pos z]
      have : (g == f) = true := beq_iff_eq.mpr z
      simp only [List.lookup,this]
      exact ry
    · rw [if_neg z]
      have : (g == f) = false := beq_eq_false_iff_ne.mpr z
      simp only [List.lookup,this]
      trivial
def tXGet (K : PySem.W.Frag) (te : TE) (f : Str) : TE := fun σ H Q => te σ H fun x H1 => ∃ a C dx oc fs v,x = .ref a ∧ H1 a = some (ExcC a C (some dx) oc) ∧ H1 dx = some (.xd fs) ∧ ECls K C ∧ NoAttr K C f ∧ fs.lookup f = some v ∧ Q v H1
theorem pe_xget {e : Expr} {f : Str} {te : TE} {pos : Pos} (he : PE X e te) (hb : attributeBase e f X.env (eval e X.env) = eval e X.env) : PE X (.Attribute e f pos) (tXGet X.K te f) := by
  intro pins s σ H Q I h
  refine attr_of hb (thn (he pins s σ H _ I h) fun u s1 ⟨x,H1,I1,rx,a,C,dx,oc,fs,v,ex,ea,ed,ec,na,l,q⟩ => ?_)
  subst ex
  obtain rfl : u = Value.ref a := rx
  obtain ⟨oe,fl,g1,g2,g3,g4,g5⟩ := exc_at I1.hok ea
  obtain ⟨mA,ns,rel⟩ := I1.hok _ _ ed
  obtain ⟨u',hu,ru⟩ := RelO.some_of (v := v) (o := mA f) (by rw [← l]; exact rel f)
  exact get_exc I1.kIn ec.ga ec.gh ec.be ec.hd na g1 g2 g3 g5 ns hu (handed_of ru) ⟨v,H1,I1.tok _,ru,q⟩
end
end L2
namespace L2
open PySem PySem.Spec PyProof.Rows
structure XMk (K : PySem.W.Frag) (C fi : Addr) : Prop where
  xc : xClass K C = true
  init : PySem.W.findIn K (.ref C) "__init__" = some (some (.ref fi))
  fn : PySem.W.typeIn K (.ref fi) = some (.type "function")
  kp : PySem.W.keepIn K (.ref C) = true
def KnowsE (P : Program) (w : World) (K : PySem.W.Frag) (mg : Str → Option Value) (base : Heap) (k : Nat) (C : Addr) (ps : List Str) (sp : Sp) : Prop :=
  ∃ fi fd,XMk K C fi ∧ Binds K fd ps [] ∧ FnOk P w K mg base CX0 k fi fd ps sp
def tRaiseI (C : Addr) (sp : Sp) (E : XK) (ta : TA) : TS := fun _ σ H => ta σ H fun vs H1 => vs.length ≤ sizeLine ∧ ∀ x,H1 x = none → sp (.ref x :: (vs ++ [])) (upd H1 x (ExcN x C none)) (fun v H2 => v = .non ∧ ∃ od,H2 x = some (ExcN x C od) ∧ E (.ref C) od (del H2 x)) E0
section
variable {P : Program} {w : World} {K : PySem.W.Frag} {mg : Str → Option Value} {base : Heap} {N : List Str} {qual : Str} {scope : Scope} {f : Addr} {cd : Value} {A : Around} {outer : List Env} {s₀ : Shared} {H₀ : Hp} {E : XK}
theorem ps_raiseI {x : Str} {np cpos pos : Pos} {e : Expr} {es : List Expr} {ta : TA} {C : Addr} {ps : List Str} {sp : Sp} {j k : Nat} (F : KnowsE P w K mg base j C ps sp) (hr : Room k (cxR P w K mg base N qual scope f cd A outer s₀ H₀ E).A) (hm : mg x = some (.ref C)) (ha : PA (cxR P w K mg base N qual scope f cd A outer s₀ H₀ E) (e :: es) ta)
    (hjk : j + 1 ≤ k := by decide) (hg : Gl (cxR P w K mg base N qual scope f cd A outer s₀ H₀ E) x := by rfl) (he : notStar e = true := by rfl) (hpl : es.all notStar = true := by rfl) (hdb : (x == ("__debug__" : Str)) = false := by decide) :
    PS (cxR P w K mg base N qual scope f cd A outer s₀ H₀ E) (.Raise (some (.Call (.Name x np) (e :: es) [] cpos)) none pos) (tRaiseI C sp E ta) := by
  obtain ⟨fi,fd,M,hb,F⟩ := F
  intro pins s σ H D I h
  have hh : (cxR P w K mg base N qual scope f cd A outer s₀ H₀ E).A.handled = none := I.ok.hd rfl
  rw [arm_exec_Raise]
  refine wpAny_bind (wpAny_standAt (raise_exc (K := K) (C := C) M.xc hh (wpAny_bind ?_)))
  refine wpAny_mono (wpAny_Call_Name_kw (ld_glob I hg hm (PySem.W.callWith_K (h₀ := base) I.ok.mod.kin M.kp (Q := fun v s1 => ∃ (e : Addr) (oe : Obj),v = .ref e ∧ K.In s1.heap ∧ s1.heap.get? e = some oe ∧ oe.cls = .ref C ∧ (∃ fs,oe.data = .fields fs ∧ fs[1]? = some Value.none) ∧ (cxR P w K mg base N qual scope f cd A outer s₀ H₀ E).xe (.ref e) s1)
    (thn (ha cpos pins s σ H _ I h) fun us s1 ⟨vs,H1,I1,r,hl,q⟩ => ⟨I1.kIn, ?_⟩) (star_cons he) (star_none hpl)) hdb)) (fun v s1 q => wpAny_bind (wpAny_standAt (wpAny_pure q))) fun _ _ z => z
  have hx : s1.heap.objs.size ≤ s1.heap.objs.size + 1 := Nat.le_succ _
  have hq := q (s1.heap.objs.size + 1) (I1.hok.fresh hx)
  have e1 := heapX_at (h := s1.heap) (C := C) (vs := us)
  have I2 : Inv (cxR P w K mg base N qual scope f cd A outer s₀ H₀ E) pins σ (upd H1 (s1.heap.objs.size + 1) (ExcN (s1.heap.objs.size + 1) C none)) { s1 with heap := heapX s1.heap C us } :=
    I1.laid (t' := s1.toks) heapX_keeps hx (excN_ok (t0 := s1.heap.objs.size) e1 rfl rfl rfl rfl rfl rfl rfl)
  have r2 : Vals (V.ref (s1.heap.objs.size + 1) :: (vs ++ [])) (Value.ref (s1.heap.objs.size + 1) :: (us ++ [])) := .cons rfl (r.append .nil)
  have hlen : (Value.ref (s1.heap.objs.size + 1) :: us ++ []).length = ps.length := by
    have z := r2.length
    rw [F.len _ _ _ _ hq] at z
    exact z.symm
  have hR : Room (j + 1) (cxR P w K mg base N qual scope f cd A outer s₀ H₀ E).A := hr.mono hjk
  have hv : vs.length = us.length := r.length
  refine make_exc (vs := us) I1.kIn M.xc M.init M.fn (by rw [← hv]; exact hl) ?_
  refine codeAny_mono (F.run _ (cxR P w K mg base N qual scope f cd A outer s₀ H₀ E).stack _ _ ⟨Value.ref (s1.heap.objs.size + 1) :: us,[]⟩ (Value.ref (s1.heap.objs.size + 1) :: (us ++ [])) _ _ E0 (hR.make C us [])
    (I2.env0.make C us []) (by have z := hb _ (Value.ref (s1.heap.objs.size + 1) :: us) I2.kIn hlen; rwa [List.cons_append] at z) r2 hq) fun rr s' hq' => ?_
  cases rr with
  | error ee => exact pass0 (X := cxR P w K mg base N qual scope f cd A outer s₀ H₀ E) pins σ _ _ ee s' I2 hq'
  | ok fl =>
    cases fl with
    | ret u =>
      obtain ⟨v,H',I3,rv,ev,od,he3,hE⟩ := I2.after hq'
      subst ev
      refine ⟨rv, ?_⟩
      obtain ⟨oe,fs,t0,g1,g2,g3,g4,g5,g6,g7,_⟩ := excN_at I3.hok he3
      refine ⟨_,oe,rfl,I3.kIn,g1,g2,⟨fs,g3,g5⟩,raise_leavesD I3 he3 ?_ (fun _ => rfl) XcOk.none hE⟩
      exact Heap.get?_none_of_le (Nat.le_trans I1.sz hx)
    | next => exact False.elim hq'
    | brk => exact False.elim hq'
    | cont => exact False.elim hq'
end
end L2
namespace L2
open PySem PySem.Spec PyProof.Rows
section
variable {prog : Program} {w : World} {A : Around} {K : PySem.W.Frag} {C : Addr}
theorem raise_from {env : Env} {x c : Sem Value} {Q : Flow → Shared → Prop} {E : Value → Shared → Prop} {s : Shared} {a : Addr} (q : xClass K C = true) (hh : A.handled = some (.ref a)) (hc : ∀ (s1 : Shared) (Q' : Value → Shared → Prop),Q' .none s1 → wpAny (model prog w) A c Q' E s1)
    (h : wpAny (model prog w) A x (fun v s1 => ∃ e oe fs,v = .ref e ∧ K.In s1.heap ∧ s1.heap.get? e = some oe ∧ oe.cls = .ref C ∧ oe.data = .fields fs ∧ fs.size = 6 ∧ fs[1]? = some Value.none ∧ e ≠ a ∧ (∃ oa fa,s1.heap.get? a = some oa ∧ oa.data = .fields fa ∧ fa[2]? = some Value.none) ∧
      ∀ h' fs',Heap.SameBut e s1.heap h' → h'.get? e = some { oe with data := .fields fs' } → fs'[0]? = fs[0]? → fs'[1]? = some Value.none → fs'[2]? = some (Value.ref a) → fs'.size = 6 → E (.ref e) { s1 with heap := h' }) E s) :
    wpAny (model prog w) A (raiseStmt env (some x) (some c)) Q E s := by
  unfold raiseStmt
  refine wpAny_bind (wpAny_mono h (fun v s1 h1 => ?_) fun _ _ z => z)
  obtain ⟨e,oe,fs,rfl,X,he,hcl,hfs,hz,hf1,hne,⟨oa,fa,ha1,ha2,ha3⟩,hE⟩ := h1
  obtain ⟨bm,N,nm,qn,bs,hdct,sn,sub,ab,col,dd,k0,k1,k2,k3,k5,hC,T⟩ := xClass_in X q
  have hcB : (Value.ref C :: bm).contains (.type "BaseException") = true := by rw [List.contains_cons,T.hasType (b := true) (by decide),Bool.or_true]
  refine wpAny_bind (wpAny_holding (hc _ _ (wpAny_bind (wpAny_pure ?_))))
  obtain ⟨hp,g,d,tk,os⟩ := s1
  dsimp only at he hC hE ha1
  repeat (first | (with_reducible refine wpAny_loadPart_at he ?_; rw [hcl]) | with_reducible refine wpAny_loadPart_at hC ?_ | (with_reducible refine wpAny_isSubtype_exc hC ?_; rw [hcB]) | wp_step)
  rw [hfs]
  dsimp only
  rw [if_pos (by omega)]
  have d1 := Obj.data_mapFields hfs (·.setIfInBounds 3 Value.none)
  have e1 := Heap.get?_update_self (Obj.mapFields (·.setIfInBounds 3 Value.none)) he (Obj.isFreed_of_fields d1)
  refine wpAny_update he (wpAny_bind (wpAny_setField e1 d1 (by rw [Array.size_setIfInBounds]; omega) ?_))
  have d2 := Obj.data_mapFields d1 (·.setIfInBounds 4 (Value.bool true))
  have e2 := Heap.get?_update_self (Obj.mapFields (·.setIfInBounds 4 (Value.bool true))) e1 (Obj.isFreed_of_fields d2)
  have sb2 : Heap.SameBut e hp ((hp.update e (Obj.mapFields (·.setIfInBounds 3 Value.none))).update e (Obj.mapFields (·.setIfInBounds 4 (Value.bool true)))) := (Heap.SameBut.update ..).trans (Heap.SameBut.update ..)
  generalize hH2 : (hp.update e (Obj.mapFields (·.setIfInBounds 3 Value.none))).update e (Obj.mapFields (·.setIfInBounds 4 (Value.bool true))) = H2 at e2 sb2
  have ea2 : H2.get? a = some oa := (sb2.2 a (Ne.symm hne)).trans ha1
  generalize hO2 : Obj.mapFields (·.setIfInBounds 4 (Value.bool true)) (Obj.mapFields (·.setIfInBounds 3 Value.none) oe) = o2 at e2 d2
  have e2' : (⟨H2,g,d,tk,os⟩ : Shared).heap.get? e = some o2 := e2
  show wpAny _ _ _ _ _ (⟨H2,g,d,tk,os⟩ : Shared)
  have hCe : C ≠ e := fun z => by
    rw [z,he] at hC
    cases hC
    cases hfs
  have hC2 : H2.get? C = some (excClassObj nm qn C N bs bm hdct sn sub ab col dd k0 k1 k2 k3 k5 "ValueError.__new__") := (sb2.2 C hCe).trans hC
  have hcl2 : o2.cls = .ref C := by rw [← hO2,Obj.cls_mapFields,Obj.cls_mapFields]; exact hcl
  have hz2 : ((fs.setIfInBounds 3 Value.none).setIfInBounds 4 (Value.bool true)).size = 6 := by rw [Array.size_setIfInBounds,Array.size_setIfInBounds]; exact hz
  have f1 : ((fs.setIfInBounds 3 Value.none).setIfInBounds 4 (Value.bool true))[1]? = some Value.none := by rw [Array.getElem?_setIfInBounds_ne (by decide),Array.getElem?_setIfInBounds_ne (by decide)]; exact hf1
  have f0 : ((fs.setIfInBounds 3 Value.none).setIfInBounds 4 (Value.bool true))[0]? = fs[0]? := by rw [Array.getElem?_setIfInBounds_ne (by decide),Array.getElem?_setIfInBounds_ne (by decide)]
  have od2 : ∀ fs',{ o2 with data := Data.fields fs' } = { oe with data := Data.fields fs' } := fun fs' => by
    rw [← hO2]
    obtain ⟨oc,od,oda,osl⟩ := oe
    simp only at hfs
    subst hfs
    rfl
  generalize (fs.setIfInBounds 3 Value.none).setIfInBounds 4 (Value.bool true) = f2 at d2 hz2 f1 f0
  clear hO2 hH2 e1 d1
  obtain ⟨oc2,odd2,oda2,osl2⟩ := o2
  simp only at d2 hcl2
  subst d2 hcl2
  repeat (first | with_reducible refine wpAny_loadPart_at e2 ?_ | with_reducible refine wpAny_loadPart_at hC2 ?_ | wp_step)
  rw [f1]
  refine wpAny_pure ?_
  rw [if_neg (by decide)]
  refine wpAny_pure ?_
  simp only [raiseNew]
  refine wpAny_bind (wpAny_handled ?_)
  rw [hh]
  have hb : ((Value.ref a) != (Value.ref e)) = true := by
    rw [bne_iff_ne]
    exact fun z => hne (by injection z with z; exact z.symm)
  dsimp only
  rw [if_pos hb]
  refine wpAny_bind (wpAny_holding (wpAny_runValue (codeAny_builtin (entryFor_of_tree (by kernel_rfl) : entryFor table "proto.unchain" = some Builtin.«proto.unchain») ?_)))
  show wpAny _ _ (field (.ref a) 2 >>= _) _ _ _
  refine wpAny_bind (wpAny_field ea2 ha2 ha3 ?_)
  show wpAny _ _ (ret Value.none) _ _ _
  refine wpAny_pure (wpAny_bind ?_)
  simp only [updateField]
  refine wpAny_bind (wpAny_load e2 ?_)
  dsimp only
  rw [if_pos (by omega)]
  have d3 := Obj.data_mapFields (o := ⟨.ref C,odd2,.fields f2,osl2⟩) rfl (·.setIfInBounds 2 (Value.ref a))
  have e3 := Heap.get?_update_self (Obj.mapFields (·.setIfInBounds 2 (Value.ref a))) e2 (Obj.isFreed_of_fields d3)
  refine wpAny_update e2 (wpAny_throw (hE _ (f2.setIfInBounds 2 (Value.ref a)) (sb2.trans (Heap.SameBut.update ..)) ?_ ?_ ?_ ?_ ?_))
  · rw [← od2]
    exact e3
  · rw [Array.getElem?_setIfInBounds_ne (by decide)]; exact f0
  · rw [Array.getElem?_setIfInBounds_ne (by decide)]; exact f1
  · rw [Array.getElem?_setIfInBounds]
    simp [hz2]
  · rw [Array.size_setIfInBounds]; exact hz2
end
def KnowsEQ (P : Program) (w : World) (K : PySem.W.Frag) (mg : Str → Option Value) (base : Heap) (k : Nat) (C : Addr) (ps : List Str) (sp : Sp) : Prop :=
  ∃ fi fd,XMk K C fi ∧ Binds K fd ps [] ∧ FnOkQ P w K mg base CX0 k fi fd ps sp
def tRaiseF (C : Addr) (sp : Sp) (E : XK) (a : Addr) (ta : TA) : TS := fun _ σ H => ta σ H fun vs H1 => vs.length ≤ sizeLine ∧ (∃ C1 od1,H1 a = some (ExcD a C1 od1)) ∧ ∀ x,H1 x = none → sp (.ref x :: (vs ++ [])) (upd H1 x (ExcN x C none)) (fun v H2 => v = .non ∧ (∃ C1 od1,H2 a = some (ExcD a C1 od1)) ∧ ∃ dx,H2 x = some (ExcN x C (some dx)) ∧ E (.ref C) (some dx) (del H2 x)) E0
section
variable {P : Program} {w : World} {K : PySem.W.Frag} {mg : Str → Option Value} {base : Heap} {N : List Str} {qual : Str} {scope : Scope} {f : Addr} {cd : Value} {A : Around} {outer : List Env} {s₀ : Shared} {H₀ : Hp} {E : XK}
theorem ps_raiseF {x : Str} {np cpos pos npos : Pos} {e : Expr} {es : List Expr} {ta : TA} {C a : Addr} {ps : List Str} {sp : Sp} {j k : Nat} {jn : _} (F : KnowsEQ P w K mg base j C ps sp) (hr : Room k (cxR P w K mg base N qual scope f cd A outer s₀ H₀ E).A) (hm : mg x = some (.ref C))
    (ha : PA ((cxR P w K mg base N qual scope f cd A outer s₀ H₀ E).inExc a) (e :: es) ta)
    (hjk : j + 1 ≤ k := by decide) (hg : Gl ((cxR P w K mg base N qual scope f cd A outer s₀ H₀ E).inExc a) x := by rfl) (he : notStar e = true := by rfl) (hpl : es.all notStar = true := by rfl) (hdb : (x == ("__debug__" : Str)) = false := by decide) :
    PS ((cxR P w K mg base N qual scope f cd A outer s₀ H₀ E).inExc a) (.Raise (some (.Call (.Name x np) (e :: es) [] cpos)) (some (.Constant .none jn npos)) pos) (tRaiseF C sp E a ta) := by
  obtain ⟨fi,fd,M,hb,F⟩ := F
  intro pins s σ H D I h
  rw [arm_exec_Raise]
  refine wpAny_bind (wpAny_standAt (raise_from (K := K) (C := C) (a := a) M.xc rfl (fun s1 Q' q => wpAny_bind (Constant_none (wpAny_bind (wpAny_standAt (wpAny_pure q))))) (wpAny_bind ?_)))
  refine wpAny_mono (wpAny_Call_Name_kw (ld_glob I hg hm (PySem.W.callWith_K (h₀ := base) I.ok.mod.kin M.kp (Q := fun v s1 => ∃ (e : Addr) (oe : Obj) (fs : Array Value),v = .ref e ∧ K.In s1.heap ∧ s1.heap.get? e = some oe ∧ oe.cls = .ref C ∧ oe.data = .fields fs ∧ fs.size = 6 ∧ fs[1]? = some Value.none ∧ e ≠ a ∧ (∃ oa fa,s1.heap.get? a = some oa ∧ oa.data = .fields fa ∧ fa[2]? = some Value.none) ∧
      ∀ h' fs',Heap.SameBut e s1.heap h' → h'.get? e = some { oe with data := .fields fs' } → fs'[0]? = fs[0]? → fs'[1]? = some Value.none → fs'[2]? = some (Value.ref a) → fs'.size = 6 → ((cxR P w K mg base N qual scope f cd A outer s₀ H₀ E).inExc a).xe (.ref e) { s1 with heap := h' })
    (thn (ha cpos pins s σ H _ I h) fun us s1 ⟨vs,H1,I1,r,hl,⟨C1,od1,hA⟩,q⟩ => ⟨I1.kIn, ?_⟩) (star_cons he) (star_none hpl)) hdb)) (fun v s1 q => wpAny_bind (wpAny_standAt (wpAny_pure q))) fun _ _ z => z
  have hx : s1.heap.objs.size ≤ s1.heap.objs.size + 1 := Nat.le_succ _
  have fr := I1.hok.fresh hx
  have hq := q (s1.heap.objs.size + 1) fr
  have e1 := heapX_at (h := s1.heap) (C := C) (vs := us)
  have I2 : Inv ((cxR P w K mg base N qual scope f cd A outer s₀ H₀ E).inExc a) pins σ (upd H1 (s1.heap.objs.size + 1) (ExcN (s1.heap.objs.size + 1) C none)) { s1 with heap := heapX s1.heap C us } :=
    I1.laid (t' := s1.toks) heapX_keeps hx (excN_ok (t0 := s1.heap.objs.size) e1 rfl rfl rfl rfl rfl rfl rfl)
  have r2 : Vals (V.ref (s1.heap.objs.size + 1) :: (vs ++ [])) (Value.ref (s1.heap.objs.size + 1) :: (us ++ [])) := .cons rfl (r.append .nil)
  have hlen : (Value.ref (s1.heap.objs.size + 1) :: us ++ []).length = ps.length := by
    have z := r2.length
    rw [F.len _ _ _ _ hq] at z
    exact z.symm
  have hR : Room (j + 1) (cxR P w K mg base N qual scope f cd A outer s₀ H₀ E).A := hr.mono hjk
  have hv : vs.length = us.length := r.length
  have hRQ := (hR.make C us []).q
  have nea : a ≠ s1.heap.objs.size + 1 := ne_of_none hA fr
  have HQ1 : HQ (((cxR P w K mg base N qual scope f cd A outer s₀ H₀ E).inExc a).A.under (.builtin "type.__call__" ⟨.ref C :: us,[]⟩)) (upd H1 (s1.heap.objs.size + 1) (ExcN (s1.heap.objs.size + 1) C none)) := ⟨a,C1,od1,none,rfl,by rw [upd_ne nea]; exact hA,XcOk.none⟩
  refine make_exc (vs := us) I1.kIn M.xc M.init M.fn (by rw [← hv]; exact hl) ?_
  refine codeAny_mono (F.run _ ((cxR P w K mg base N qual scope f cd A outer s₀ H₀ E).inExc a).stack _ _ ⟨Value.ref (s1.heap.objs.size + 1) :: us,[]⟩ (Value.ref (s1.heap.objs.size + 1) :: (us ++ [])) _ _ E0 ⟨hRQ.dp,hRQ.un⟩ HQ1
    (I2.env0.make C us []) (by have z := hb _ (Value.ref (s1.heap.objs.size + 1) :: us) I2.kIn hlen; rwa [List.cons_append] at z) r2 hq) fun rr s' hq' => ?_
  cases rr with
  | error ee => exact pass0 (X := (cxR P w K mg base N qual scope f cd A outer s₀ H₀ E).inExc a) pins σ _ _ ee s' I2 hq'
  | ok fl =>
    cases fl with
    | ret u =>
      obtain ⟨v,H',I3,rv,ev,⟨C2,od2,hA3⟩,dx0,he3,hE⟩ := I2.after hq'
      subst ev
      refine ⟨rv, ?_⟩
      obtain ⟨oe,fs,t0,g1,g2,g3,g4,g5,g6,g7,g8⟩ := excN_at I3.hok he3
      obtain ⟨oa,fa,b1,b2,b3,b4,b5⟩ := exc_at I3.hok hA3
      refine ⟨_,oe,fs,rfl,I3.kIn,g1,g2,g3,g8,g5,Ne.symm nea,⟨oa,fa,b1,b3,b4⟩,fun h' fs' sb e' f0 f1 f2 f6 => ?_⟩
      have I4 : Inv ((cxR P w K mg base N qual scope f cd A outer s₀ H₀ E).inExc a) pins σ (upd H' (s1.heap.objs.size + 1) (ExcM (s1.heap.objs.size + 1) C (some dx0) (some a))) { s' with heap := h' } :=
        I3.write (x := s1.heap.objs.size + 1) (e := s1.heap.objs.size + 1) (t' := s'.toks) (by rw [he3]; exact True.intro) (.inl rfl) (fun b u hb z => (sb.2 b hb).trans z) ⟨_,e'⟩ (excN_ok e' g2 rfl (f0.trans g4) f1 f2 g7 f6)
      have dl : del (upd H' (s1.heap.objs.size + 1) (ExcM (s1.heap.objs.size + 1) C (some dx0) (some a))) (s1.heap.objs.size + 1) = del H' (s1.heap.objs.size + 1) := by
        funext b
        unfold del
        by_cases z : b = s1.heap.objs.size + 1
        · rw [if_pos z,if_pos z]
        · rw [if_neg z,if_neg z,upd_ne z]
      refine raise_leavesQ I4 (oc := some a) (od := some dx0) upd_same ?_ (fun z => by cases z) ?_ (by rw [dl]; exact hE)
      · exact Heap.get?_none_of_le (Nat.le_trans I1.sz hx)
      · rw [dl]
        intro b hb
        cases hb
        exact ⟨C2,od2,by rw [del_ne nea]; exact hA3⟩
    | next => exact False.elim hq'
    | brk => exact False.elim hq'
    | cont => exact False.elim hq'
end
end L2
namespace L2
open PySem PySem.Spec PyProof.Rows
def tTryQ (K : PySem.W.Frag) (Dc : Addr) (tb : (St → XK) → TS) (ts : Addr → TS) : TS := fun D σ H => ∃ Eb : St → XK,tb Eb D σ H ∧ ∀ σ' C od oc H',Eb σ' (.ref C) od H' → (od = none → oc = none) → XcOk H' oc → PySem.W.exmOne K (.ref C) (.ref Dc) = some true ∧
  ∀ a,H' a = none → ts a D σ' (upd H' a (ExcC a C od oc))
section
variable {X : Cx} {x : Str} {np hpos pos : Pos} {body : List Stmt} {b₀ : Stmt} {suite : List Stmt} {Dc : Addr} {tb : (St → XK) → TS} {ts : Addr → TS}
theorem ps_tryQ (hst : X.stack = X.env :: X.outer) (hfm : X.env.frame = some X.env.locals) (hm : X.mg x = some (.ref Dc)) (hE : ∀ a,PassesOwnAt (model X.prog X.w) (X.A.mark (some (.ref a))) X.A X.env X.xe)
    (hb : ∀ (Eb : St → XK) (pn : List (Addr × Obj)) (xe : Value → Shared → Prop),Lands (X.inTry pn xe) Eb → PSs (X.inTry pn xe) body (tb Eb)) (hs : ∀ a,PSs (X.inExc a) (b₀ :: suite) (ts a))
    (hg : Gl X x := by rfl) (hdb : (x == ("__debug__" : Str)) = false := by decide) : PS X (.Try body [.ExceptHandler (some (.Name x np)) none (b₀ :: suite) hpos] [] [] pos) (tTryQ X.K Dc tb ts) := by
  intro pins s σ H D I h
  obtain ⟨Eb,htb,hts⟩ := h
  refine wpAny_Try_except ?_
  refine wpAny_mono ((hb Eb (X.pn ++ pins) _ ?_) [] s σ H D (I.inTry _) htb) (fun f s1 hsp => ?_) (fun e s1 z => z)
  · intro pins' σ' H1 s1 e s' I1 hx
    obtain ⟨a,C,a0,H',B,rfl,os,bare,un,hok,fl,st,cov,nf,od,oc,c0,oz,xc,hEb⟩ := hx
    obtain ⟨hmatch,hts'⟩ := hts σ' C od oc H' hEb oz xc
    rw [show (X.inTry (X.pn ++ pins) _).stack = X.stack from rfl] at fl un cov nf
    have fl1 := fl
    rw [hst] at fl1
    have hfr : X.A.frames = some (X.env :: X.outer) := by rw [← hst]; exact I.ok.frames
    have afs : a ∉ frs X.stack := fun z => by
      obtain ⟨o,e1,hd⟩ := flying_data fl a z
      obtain ⟨o',fs,e2,d,_⟩ := c0
      rw [e1] at e2; cases e2
      exact hd _ d
    have hBa : B.get? a = none := fl.2.1
    have hHa : H' a = none := by
      cases z : H' a with
      | none => rfl
      | some o =>
        obtain ⟨ob,e⟩ := cov a afs (.inr ⟨o,z⟩)
        rw [hBa] at e; cases e
    have hsa : s1.heap.get? a = none := by
      cases z : s1.heap.get? a with
      | none => rfl
      | some o =>
        obtain ⟨ob,e⟩ := cov a afs (.inl ⟨o,z⟩)
        rw [hBa] at e; cases e
    have go : ∀ (h5 : Heap) (a0' : Value),Heap.FlyingW B (X.env :: X.outer) a (.ref C) a0' h5 → s'.heap.UpToSlots h5 → Inv X pins σ' H' { s' with heap := h5 } := fun h5 a0' fl5 up5 =>
      (I1.call' (s' := { s' with heap := h5 }) os (un_step un cov fl.1 fl5.1 up5 (flying_data fl)) (hok_step hok cov fl.1 fl5.1 nf) bare (fun b z => by cases z)).outTry
    have go2 : ∀ (h5 : Heap) (a0' : Value),Heap.FlyingW B (X.env :: X.outer) a (.ref C) a0' h5 → s'.heap.UpToSlots h5 → Ctx0 a od oc h5 → Inv X pins σ' (upd H' a (ExcC a C od oc)) { s' with heap := h5 } := fun h5 a0' fl5 up5 c5 =>
      (I1.call' (s' := { s' with heap := h5 }) os (un_track (un_step un cov fl.1 fl5.1 up5 (flying_data fl)) hHa hsa) ((hok_step hok cov fl.1 fl5.1 nf).track hHa (exc_ok c5 fl5.there)) bare (fun b z => by cases z)).outTry
    refine wpAny_mono (tame_any (a := a) (s := s') tame_noteFrame c0 (wpAny_looks_onW (E := fun _ _ => False) (Q := fun _ s2 => ∃ h2 : Heap,s2 = { s' with heap := h2 } ∧ Heap.HeldW B (X.env :: X.outer) a (.ref C) a0 X.env.locals h2 ∧ s'.heap.UpToSlots h2) hfr hfm fl1 fun h4 held4 up4 => ⟨h4,rfl,held4,up4⟩)) (fun _ s4 ⟨⟨h4,e4,held4,up4⟩,c4⟩ => ?_) (fun _ _ z => z.1.elim)
    subst e4
    refine wpAny_mono (tame_any (a := a) (s := { s' with heap := h4 }) tame_setFlight c4 (wpAny_landsW (E := fun _ _ => False) (Q := fun _ s2 => ∃ h2 : Heap,s2 = { s' with heap := h2 } ∧ Heap.FlyingW B (X.env :: X.outer) a (.ref C) a0 h2 ∧ h4.UpToSlots h2) held4 fun h5 fl5 up5 => ⟨h5,rfl,fl5,up5⟩)) (fun _ s5 ⟨⟨h5,e5,fl5,up5⟩,c5⟩ => ?_) (fun _ _ z => z.1.elim)
    subst e5
    have I5 := go h5 _ fl5 (up4.trans up5)
    obtain ⟨ob,hob,hobc⟩ := fl5.there
    refine wpAny_handleBy_cons (codeAny_handlers_test (ld_glob (X := X.inExc a) (I5.inExc a) hg hm ?_ hdb)) (by intro q; cases q)
    have LT : PySem.W.Looks (model X.prog X.w) h5 (typeOf (.ref a)) (.ref C) := by
      rw [← hobc]
      exact (PySem.W.Looks.ld hob).andThen .now
    refine PySem.W.exm_one I5.kIn LT hmatch _ _ _ _ (fun b o q => q) ?_
    refine codeAny_handlers_suite ?_
    refine wpAny_mono (tame_any (a := a) (s := { s' with heap := h5 }) tame_setFlight c5 (lands_againW (E := fun _ _ => False) (Q := fun _ s2 => ∃ h2 : Heap,s2 = { s' with heap := h2 } ∧ Heap.FlyingW B (X.env :: X.outer) a (.ref C) a0 h2 ∧ h5.UpToSlots h2) fl5 fun h6 fl6 up6 => ⟨h6,rfl,fl6,up6⟩)) (fun _ s6 ⟨⟨h6,e6,fl6,up6⟩,c6⟩ => ?_) (fun _ _ z => z.1.elim)
    subst e6
    have I6 := go2 h6 _ fl6 ((up4.trans up5).trans up6) c6
    refine wpAny_passesOwnAt (hE a) ?_
    exact thn (hs a pins _ σ' _ D (I6.inExc a) (hts' a hHa)) fun f s2 q => q.outExc I.ok
  · have q := hsp.outTry
    cases f with
    | next => exact wpAny_execs_nil q
    | brk => exact q
    | cont => exact q
    | ret u => exact q
end
def tMakeBS (C : Addr) (sp : Sp) (np nk : Nat) (T : List Bi) (Eb : St → XK) (t tk : TA) : TE := fun σ H Q => t σ H fun vs H1 => tk σ H1 fun zs H2 => vs.length = np ∧ zs.length = nk ∧
  ∀ x dx,H2 x = none → H2 dx = none → dx ≠ x → sp (.ref x :: T.map (Bi.vv vs zs)) (upd (upd H2 dx (.own x)) x (.ins C dx [])) (fun v H3 => v = .non ∧ Q (.ref x) H3) (Eb σ)
section
variable {X : Cx} {x : Str} {ps ks : List Str} {sp : Sp} {j k np : Nat} {T : List Bi} {e : Expr} {es : List Expr} {kws : List Keyword} {t tk : TA} {p pos : Pos} {Eb : St → XK} {C f : Addr} {fd : FuncData} {Bs : PySem.W.Frag → FuncData → Prop}
theorem pe_makeBS (F : KnowsIB (CX1 X.prog X.w X.base) X.prog X.w X.K X.mg X.base j C ps sp Bs) (sel : ∀ fd,Bs X.K fd → BT X.K fd ps np ks T) (hr : Room k X.A) (hm : X.mg x = some (.ref C)) (hx : Lands X Eb) (ha : PA X (e :: es) t) (hkw : PK X kws tk) (hjk : j + 1 ≤ k := by decide) (hg : Gl X x := by rfl)
    (hall : (backToKw pos (keywordEach kws X.env)).all (·.1.isSome) = true := by rfl) (hks : (backToKw pos (keywordEach kws X.env)).filterMap (·.1) = ks := by rfl) (hdb : (x == ("__debug__" : Str)) = false := by decide) (he : notStar e = true := by rfl)
    (hpl : ((backTo pos (starEach (e :: es) X.env)).any (·.1) || (backToKw pos (keywordEach kws X.env)).any (·.1.isNone)) = false := by rfl) :
    PE X (.Call (.Name x p) (e :: es) kws pos) (tMakeBS C sp np ks.length T Eb t tk) := by
  intro pins s σ H Q I h
  have hx' : ∀ (pins : List (Addr × Obj)) (H : Hp) (s : Shared) (e : Value) (s' : Shared),Inv X pins σ H s → CX1 X.prog X.w X.base X.stack H s (Eb σ) e s' → X.xe e s' := fun pins H s e s' I h => hx pins σ H s e s' I h
  obtain ⟨f,fd,M,hB,F⟩ := F
  obtain ⟨ds,ok,bt⟩ := (sel fd hB).ex
  refine wpAny_Call_Name_kw (ld_glob I hg hm ?_ hdb)
  refine PySem.W.callWith_KW (h₀ := X.base) I.ok.mod.kin M.kp hall (thn (ha pos pins s σ H _ I h) fun us s1 ⟨vs,H1,I1,r,q⟩ => ?_) hpl (star_cons he)
  refine thn (hkw pos pins s1 σ H1 _ I1 q) fun ws s2 ⟨zs,H2,I2,rz,l1,l2,q2⟩ => ⟨I2.kIn, ?_⟩
  rw [hks]
  have hq := q2 (s2.heap.objs.size + 1) s2.heap.objs.size (I2.hok.fresh (Nat.le_succ _)) (I2.hok.fresh (Nat.le_refl _)) (Nat.ne_of_lt (Nat.lt_succ_self _))
  have I3 := Inv.made (C := C) I2
  have r2 : Vals (V.ref (s2.heap.objs.size + 1) :: T.map (Bi.vv vs zs)) (Value.ref (s2.heap.objs.size + 1) :: T.map (Bi.val ds us ws)) := .cons rfl (bi_vals r rz ok)
  refine wpAny_call (make_map (f := f) (vs := us) (kw := ks.zip ws) I2.kIn M.makes M.init (beq_iff_eq.mp M.fn) (codeAny_mono (F.run _ X.stack _ _ ⟨Value.ref (s2.heap.objs.size + 1) :: us,ks.zip ws⟩ (Value.ref (s2.heap.objs.size + 1) :: T.map (Bi.val ds us ws)) _ _ (Eb σ) ((hr.mono hjk).make C us _)
    (I3.env0.make C us _) (bt _ _ us ws I3.kIn (by rw [← r.length]; exact l1) (by rw [← rz.length]; exact l2)) r2 hq) fun rr s' hq' => ?_))
  cases rr with
  | error e => exact hx' pins _ _ e s' I3 hq'
  | ok fl =>
    cases fl with
    | ret u =>
      obtain ⟨v,H',I4,rv,ev,q3⟩ := I3.after hq'
      subst ev
      exact ⟨rv,⟨V.ref (s2.heap.objs.size + 1),H',I4,rfl,q3⟩⟩
    | next => exact False.elim hq'
    | brk => exact False.elim hq'
    | cont => exact False.elim hq'
end
end L2
namespace L2
open PySem PySem.Spec PyProof.Rows
def Itr2 (lo c : Int) (n : Nat) : It := ⟨fun i _ => i < n,fun i H x H' => H' = H ∧ x = .int (lo + i * c),fun i _ => n ≤ i⟩
theorem turn_range2 {P : Program} {w : World} {K : PySem.W.Frag} {tg : Expr} (it : Addr) (lo c : Int) (n : Nat) : Turn P w K tg (Itr2 lo c n) [it] it (fun i h => IsRangeIter h it (lo + (i : Nat) * c) ((n : Int) - (i : Nat)) c) where
  mem := by simp
  obj := fun i h st b hb => by
    have e : b = it := by simpa using hb
    subst e
    exact ⟨_,st,fun v z => by
      have z' : Data.fields _ = Data.cell v := z
      cases z'⟩
  keep := fun i h h' st k => k it (by simp) _ st
  item := by
    intro X hP hw hK hc i pins s σ H E I hf st hg
    subst hP hw hK
    obtain ⟨f0,f1,f2,f3,f4,f5⟩ := hf it (by simp)
    have W := Walks.range (prog := X.prog) (w := X.w) (I.ok.hd hc) it lo c n
    refine W.item i s _ _ hg st fun v h' tk hv st' kk => ?_
    obtain ⟨t,rfl⟩ := hv
    have I1 : Inv X pins σ H { s with heap := h',toks := tk } := I.turned (fun b o hb e => kk b o (by simpa using hb) e) f0 f1 f3 f4 f5
    exact ⟨_,rfl,go_of (s := { s with heap := h',toks := tk }) (n := "range_iterator") st' rfl rfl (by decide) ⟨.int (lo + i * c),H,I1,⟨t,rfl⟩,⟨rfl,rfl⟩,st',fun b hb => (hf b hb).1⟩⟩
  done := by
    intro X hP hw hK hc i pins s σ H E I hf st hg
    subst hP hw hK
    obtain ⟨f0,f1,f2,f3,f4,f5⟩ := hf it (by simp)
    exact wpAny_pyNext_range_end (I.ok.hd hc) st (by have : n ≤ i := hg; omega) fun h' eb => ⟨rfl,I.turned (t' := s.toks) (fun b o hb e => eb b o hb e) f0 f1 f3 f4 f5⟩
  self := fun _ _ _ _ _ st h => wpAny_pyIter_rangeiter st h
theorem size_two (b : Int) : Builtin.Range.rangeSize 0 b 2 = (((b + 1) / 2).toNat : Int) := by
  unfold Builtin.Range.rangeSize
  simp only [show (2 : Int) > 0 by decide,if_true]
  split <;> omega
theorem small_two {b : Int} (h0 : -1000000 ≤ b) (h1 : b ≤ 1000000) : Builtin.Range.small 0 b 2 = true := by
  unfold Builtin.Range.small
  rw [size_two]
  simp only [Builtin.Range.rangeFitsLong,Bool.and_eq_true,Bool.or_eq_true,decide_eq_true_eq,beq_iff_eq,show (2 : Int) > 0 by decide,if_true]
  omega
def iRng3 (ta : TA) : TI := fun σ H R => ta σ H fun vs H1 => ∃ j : Int,vs = [.int 0,.int j,.int 2] ∧ -1000000 ≤ j ∧ j ≤ 1000000 ∧ R (Itr2 0 2 ((j + 1) / 2).toNat) H1
section
variable {X : Cx} {tg : Expr}
theorem range_it2 {pins : List (Addr × Obj)} {σ : St} {H : Hp} {s : Shared} {R : It → Hp → Prop} {E : Value → Shared → Prop} {hi : Int} {t u v : Tok} {tk : Nat} (I : Inv X pins σ H s) (h3 : -1000000 ≤ hi) (h4 : hi ≤ 1000000)
    (q : R (Itr2 0 2 ((hi + 1) / 2).toNat) H) : wpAny (model X.prog X.w) X.A (pyIter (.ref s.heap.objs.size)) (PIE X pins σ tg R) E { s with heap := s.heap.push { cls := .type "range",data := .fields #[.int 0 t,.int hi u,.int 2 v] },toks := tk } := by
  refine wpAny_pyIter_range (IsRange.new ..) (small_two h3 h4) ?_
  have I1 : Inv X pins σ H { s with heap := s.heap.push { cls := .type "range",data := .fields #[.int 0 t,.int hi u,.int 2 v] },toks := tk } := I.kept fun b o e => Heap.get?_push_of_some _ e
  refine ⟨(s.heap.push { cls := .type "range",data := .fields #[.int 0 t,.int hi u,.int 2 v] }).objs.size,[(s.heap.push { cls := .type "range",data := .fields #[.int 0 t,.int hi u,.int 2 v] }).objs.size],_,_,H,rfl,
    I1.kept (t' := tk) fun b o e => Heap.get?_push_of_some _ e,turn_range2 _ 0 2 ((hi + 1) / 2).toNat, ?_,fun b hb => ?_,q⟩
  · have e1 : (0 : Int) + ((0 : Nat) : Int) * 2 = 0 := by simp
    have e2 : ((((hi + 1) / 2).toNat : Nat) : Int) - ((0 : Nat) : Int) = Builtin.Range.rangeSize 0 hi 2 := by rw [size_two]; omega
    show IsRangeIter _ _ (0 + ((0 : Nat) : Int) * 2) (((((hi + 1) / 2).toNat : Nat) : Int) - ((0 : Nat) : Int)) 2
    rw [e1,e2]
    exact Heap.get?_push_size _ rfl
  · have e : b = (s.heap.push { cls := .type "range",data := .fields #[.int 0 t,.int hi u,.int 2 v] }).objs.size := by simpa using hb
    subst e
    exact I1.fpOk (Nat.le_refl _) (I1.hok.fresh (Nat.le_refl _))
theorem pi_range3 {a b c : Expr} {ta : TA} {p pos : Pos} (hg : Gl X "range") (hm : X.mg "range" = none) (ha : PA X [a,b,c] ta) (hs : starEach [a,b,c] X.env = [(false,eval a X.env),(false,eval b X.env),(false,eval c X.env)] := by rfl) (hs2 : starEach [b,c] X.env = [(false,eval b X.env),(false,eval c X.env)] := by rfl) :
    PI X tg (.Call (.Name "range" p) [a,b,c] [] pos) (iRng3 ta) := by
  intro pins s σ H R I h
  refine Call_ (ld_blt I hg hm boot_range (PyProof.Rows.callWith_type1 (thn (ha pos pins s σ H _ I h) fun us s1 ⟨vs,H1,I1,r1,q1⟩ => ?_) (by rw [hs,hs2]) (by rw [hs2]; rfl)))
  obtain ⟨j,e,q3,q4,q⟩ := q1
  subst e
  cases r1 with
  | cons r rr =>
    cases rr with
    | cons r' rr =>
      cases rr with
      | cons r'' rr =>
        cases rr
        obtain ⟨t,rfl⟩ := r
        obtain ⟨t',rfl⟩ := r'
        obtain ⟨t'',rfl⟩ := r''
        exact call_range_3 (by decide) (range_it2 I1 q3 q4 q) (Or.inl (PyProof.noPylong_small (by decide)))
end
theorem for_range2 {lo c : Int} {n : Nat} {g : TG} {tb : TS} {D : Ends} {σ : St} {H : Hp} (Pv : Nat → St → Hp → Prop) (h0 : Pv 0 σ H)
    (hs : ∀ i σ H,i < n → Pv i σ H → g (.int (lo + i * c)) σ H fun σ2 H2 => tb { D with nx := Pv (i + 1),ct := Pv (i + 1),bk := D.nx } σ2 H2) (hd : ∀ σ H,Pv n σ H → D.nx σ H) :
    ∃ W : Nat → Nat → St → Hp → Prop,(∃ m,W 0 m σ H) ∧ ∀ i m σ H,W i m σ H →
      ((Itr2 lo c n).stop i H ∧ D.nx σ H) ∨ ((Itr2 lo c n).go i H ∧ ∃ N : St → Hp → Prop,(∀ σ' H',N σ' H' → ∃ m',m' < m ∧ W (i + 1) m' σ' H') ∧ ∀ x H',(Itr2 lo c n).yld i H x H' → g x σ H' fun σ2 H2 => tb { D with nx := N,ct := N,bk := D.nx } σ2 H2) := by
  refine ⟨fun i m σ H => m = n - i ∧ i ≤ n ∧ Pv i σ H,⟨n,by simp,Nat.zero_le _,h0⟩, ?_⟩
  rintro i m σ H ⟨rfl,hi,p⟩
  by_cases hlt : i < n
  · refine .inr ⟨hlt,Pv (i + 1),fun σ' H' p' => ⟨n - (i + 1),by omega,rfl,hlt,p'⟩,fun x H' y => ?_⟩
    obtain ⟨e,y⟩ := y
    subst e y
    exact hs i σ _ hlt p
  · have e : i = n := by omega
    subst e
    exact .inl ⟨Nat.le_refl _,hd σ H p⟩
end L2
namespace K03
open PySem L2
def top (i : Nat) : Stmt := PySem.Challenge.pw_buildhall_k03_job_lines.main.body.getD i (.Pass ⟨0,0,0,0⟩)
abbrev s_BadLine___init__ : Stmt := inClass (top 19) 0
abbrev n_BadLine___init__ : List Str := ["self","place"]
theorem sc_BadLine___init__ : FnScope n_BadLine___init__ ["self","place"] (defScope s_BadLine___init__) := ⟨rfl,rfl,rfl,by decide +kernel,rfl,by decide +kernel,by decide +kernel⟩
abbrev s_is_whole : Stmt := top 28
abbrev n_is_whole : List Str := ["thing"]
theorem sc_is_whole : FnScope n_is_whole ["thing"] (defScope s_is_whole) := ⟨rfl,rfl,rfl,by decide +kernel,rfl,by decide +kernel,by decide +kernel⟩
abbrev s_is_among : Stmt := top 29
abbrev n_is_among : List Str := ["thing","least","most"]
theorem sc_is_among : FnScope n_is_among ["thing","least","most"] (defScope s_is_among) := ⟨rfl,rfl,rfl,by decide +kernel,rfl,by decide +kernel,by decide +kernel⟩
abbrev s_is_made_of : Stmt := top 30
abbrev n_is_made_of : List Str := ["thing","signs","most"]
theorem sc_is_made_of : FnScope n_is_made_of ["thing","signs","most"] (defScope s_is_made_of) := ⟨rfl,rfl,rfl,by decide +kernel,rfl,by decide +kernel,by decide +kernel⟩
abbrev s_is_name : Stmt := top 31
abbrev n_is_name : List Str := ["thing"]
theorem sc_is_name : FnScope n_is_name ["thing"] (defScope s_is_name) := ⟨rfl,rfl,rfl,by decide +kernel,rfl,by decide +kernel,by decide +kernel⟩
abbrev s_number_text : Stmt := top 32
abbrev n_number_text : List Str := ["number"]
theorem sc_number_text : FnScope n_number_text ["number"] (defScope s_number_text) := ⟨rfl,rfl,rfl,by decide +kernel,rfl,by decide +kernel,by decide +kernel⟩
abbrev s_number_of : Stmt := top 33
abbrev n_number_of : List Str := ["word"]
theorem sc_number_of : FnScope n_number_of ["word"] (defScope s_number_of) := ⟨rfl,rfl,rfl,by decide +kernel,rfl,by decide +kernel,by decide +kernel⟩
abbrev s_words_of : Stmt := top 34
abbrev n_words_of : List Str := ["line","words"]
theorem sc_words_of : FnScope n_words_of ["line"] (defScope s_words_of) := ⟨rfl,rfl,rfl,by decide +kernel,rfl,by decide +kernel,by decide +kernel⟩
abbrev s_Job___init__ : Stmt := inClass (top 38) 0
abbrev n_Job___init__ : List Str := ["self","name","needs","rank","span","tries","wait","grow"]
theorem sc_Job___init__ : FnScope n_Job___init__ ["self","name","needs","rank","span","tries","wait","grow"] (defScope s_Job___init__) := ⟨rfl,rfl,rfl,by decide +kernel,rfl,by decide +kernel,by decide +kernel⟩
abbrev s_check_name : Stmt := top 39
abbrev n_check_name : List Str := ["name"]
theorem sc_check_name : FnScope n_check_name ["name"] (defScope s_check_name) := ⟨rfl,rfl,rfl,by decide +kernel,rfl,by decide +kernel,by decide +kernel⟩
abbrev s_check_needs : Stmt := top 40
abbrev n_check_needs : List Str := ["needs","name"]
theorem sc_check_needs : FnScope n_check_needs ["needs","name"] (defScope s_check_needs) := ⟨rfl,rfl,rfl,by decide +kernel,rfl,by decide +kernel,by decide +kernel⟩
abbrev s_are_needs : Stmt := top 41
abbrev n_are_needs : List Str := ["needs","name"]
theorem sc_are_needs : FnScope n_are_needs ["needs","name"] (defScope s_are_needs) := ⟨rfl,rfl,rfl,by decide +kernel,rfl,by decide +kernel,by decide +kernel⟩
abbrev s_check_numbers : Stmt := top 42
abbrev n_check_numbers : List Str := ["numbers","part","number","word","least","most"]
theorem sc_check_numbers : FnScope n_check_numbers ["numbers"] (defScope s_check_numbers) := ⟨rfl,rfl,rfl,by decide +kernel,rfl,by decide +kernel,by decide +kernel⟩
abbrev s_job_line : Stmt := top 43
abbrev n_job_line : List Str := ["job","words","numbers","part","number"]
theorem sc_job_line : FnScope n_job_line ["job"] (defScope s_job_line) := ⟨rfl,rfl,rfl,by decide +kernel,rfl,by decide +kernel,by decide +kernel⟩
abbrev s_job_of : Stmt := top 44
abbrev n_job_of : List Str := ["line","words","numbers","rest","part"]
theorem sc_job_of : FnScope n_job_of ["line"] (defScope s_job_of) := ⟨rfl,rfl,rfl,by decide +kernel,rfl,by decide +kernel,by decide +kernel⟩
abbrev s_number_behind : Stmt := top 45
abbrev n_number_behind : List Str := ["words"]
theorem sc_number_behind : FnScope n_number_behind ["words"] (defScope s_number_behind) := ⟨rfl,rfl,rfl,by decide +kernel,rfl,by decide +kernel,by decide +kernel⟩
abbrev s_needs_in : Stmt := top 46
abbrev n_needs_in : List Str := ["words"]
theorem sc_needs_in : FnScope n_needs_in ["words"] (defScope s_needs_in) := ⟨rfl,rfl,rfl,by decide +kernel,rfl,by decide +kernel,by decide +kernel⟩
abbrev s_job_by : Stmt := top 47
abbrev n_job_by : List Str := ["name","needs","numbers"]
theorem sc_job_by : FnScope n_job_by ["name","needs","numbers"] (defScope s_job_by) := ⟨rfl,rfl,rfl,by decide +kernel,rfl,by decide +kernel,by decide +kernel⟩
abbrev s__law_mixed : Stmt := top 49
abbrev n__law_mixed : List Str := ["_law_script","_law_k","_law_cell","_law_number_here"]
theorem sc__law_mixed : FnScope n__law_mixed ["_law_script","_law_k"] (defScope s__law_mixed) := ⟨rfl,rfl,rfl,by decide +kernel,rfl,by decide +kernel,by decide +kernel⟩
abbrev s__law_kinds : Stmt := top 50
abbrev n__law_kinds : List Str := ["_law_e","_law_found"]
theorem sc__law_kinds : FnScope n__law_kinds ["_law_e"] (defScope s__law_kinds) := ⟨rfl,rfl,rfl,by decide +kernel,rfl,by decide +kernel,by decide +kernel⟩
abbrev s__law_alone : Stmt := top 51
abbrev n__law_alone : List Str := ["_law_e","_law_which"]
theorem sc__law_alone : FnScope n__law_alone ["_law_e","_law_which"] (defScope s__law_alone) := ⟨rfl,rfl,rfl,by decide +kernel,rfl,by decide +kernel,by decide +kernel⟩
abbrev s__law_names : Stmt := top 52
abbrev n__law_names : List Str := ["_law_script","_law_many","_law_letters","_law_fill","_law_first","_law_spot","_law_size","_law_way","_law_some","_law_found","_law_k","_law_sign"]
theorem sc__law_names : FnScope n__law_names ["_law_script","_law_many"] (defScope s__law_names) := ⟨rfl,rfl,rfl,by decide +kernel,rfl,by decide +kernel,by decide +kernel⟩
abbrev s__law_numbers : Stmt := top 53
abbrev n__law_numbers : List Str := ["_law_script","_law_found","_law_k","_law_least","_law_most","_law_way"]
theorem sc__law_numbers : FnScope n__law_numbers ["_law_script"] (defScope s__law_numbers) := ⟨rfl,rfl,rfl,by decide +kernel,rfl,by decide +kernel,by decide +kernel⟩
abbrev s__law_told : Stmt := top 54
abbrev n__law_told : List Str := ["_law_name","_law_needs","_law_numbers_here","_law_mask","_law_words","_law_k"]
theorem sc__law_told : FnScope n__law_told ["_law_name","_law_needs","_law_numbers_here","_law_mask"] (defScope s__law_told) := ⟨rfl,rfl,rfl,by decide +kernel,rfl,by decide +kernel,by decide +kernel⟩
abbrev s__law_word : Stmt := top 55
abbrev n__law_word : List Str := ["_law_script","_law_some"]
theorem sc__law_word : FnScope n__law_word ["_law_script"] (defScope s__law_word) := ⟨rfl,rfl,rfl,by decide +kernel,rfl,by decide +kernel,by decide +kernel⟩
abbrev s__law_bent : Stmt := top 56
abbrev n__law_bent : List Str := ["_law_script","_law_words","_law_spot","_law_way","_law_line","_law_at","_law_sign","_law_turned"]
theorem sc__law_bent : FnScope n__law_bent ["_law_script","_law_words"] (defScope s__law_bent) := ⟨rfl,rfl,rfl,by decide +kernel,rfl,by decide +kernel,by decide +kernel⟩
abbrev s__law_is_name : Stmt := top 57
abbrev n__law_is_name : List Str := ["_law_text"]
theorem sc__law_is_name : FnScope n__law_is_name ["_law_text"] (defScope s__law_is_name) := ⟨rfl,rfl,rfl,by decide +kernel,rfl,by decide +kernel,by decide +kernel⟩
abbrev s__law_number : Stmt := top 58
abbrev n__law_number : List Str := ["_law_text","_law_found","_law_sign"]
theorem sc__law_number : FnScope n__law_number ["_law_text"] (defScope s__law_number) := ⟨rfl,rfl,rfl,by decide +kernel,rfl,by decide +kernel,by decide +kernel⟩
abbrev s__law_numbers_read : Stmt := top 59
abbrev n__law_numbers_read : List Str := ["_law_words","_law_numbers_here","_law_next_one","_law_at","_law_places","_law_number_here"]
theorem sc__law_numbers_read : FnScope n__law_numbers_read ["_law_words"] (defScope s__law_numbers_read) := ⟨rfl,rfl,rfl,by decide +kernel,rfl,by decide +kernel,by decide +kernel⟩
abbrev s__law_needs_read : Stmt := top 60
abbrev n__law_needs_read : List Str := ["_law_name","_law_words","_law_k"]
theorem sc__law_needs_read : FnScope n__law_needs_read ["_law_name","_law_words"] (defScope s__law_needs_read) := ⟨rfl,rfl,rfl,by decide +kernel,rfl,by decide +kernel,by decide +kernel⟩
abbrev s__law_read : Stmt := top 61
abbrev n__law_read : List Str := ["_law_line","_law_words","_law_rest","_law_at","_law_k","_law_numbers_here"]
theorem sc__law_read : FnScope n__law_read ["_law_line"] (defScope s__law_read) := ⟨rfl,rfl,rfl,by decide +kernel,rfl,by decide +kernel,by decide +kernel⟩
abbrev s__law_is : Stmt := top 62
abbrev n__law_is : List Str := ["_law_job","_law_due","_law_told_here","_law_odd"]
theorem sc__law_is : FnScope n__law_is ["_law_job","_law_due"] (defScope s__law_is) := ⟨rfl,rfl,rfl,by decide +kernel,rfl,by decide +kernel,by decide +kernel⟩
abbrev s__law_refused : Stmt := top 63
abbrev n__law_refused : List Str := ["_law_line","_law_e"]
theorem sc__law_refused : FnScope n__law_refused ["_law_line"] (defScope s__law_refused) := ⟨rfl,rfl,rfl,by decide +kernel,rfl,by decide +kernel,by decide +kernel⟩
abbrev s__law_reads : Stmt := top 64
abbrev n__law_reads : List Str := ["_law_line","_law_due","_law_job"]
theorem sc__law_reads : FnScope n__law_reads ["_law_line"] (defScope s__law_reads) := ⟨rfl,rfl,rfl,by decide +kernel,rfl,by decide +kernel,by decide +kernel⟩
abbrev s_law : Stmt := top 65
abbrev n_law : List Str := ["_law_script","_law_names_here","_law_numbers_here","_law_due","_law_rank","_law_span","_law_tries","_law_job","_law_line","_law_plain","_law_words","_law_full","_law_odd","_law_at","_law_gap","_law_bare"]
theorem sc_law : FnScope n_law ["_law_script"] (defScope s_law) := ⟨rfl,rfl,rfl,by decide +kernel,rfl,by decide +kernel,by decide +kernel⟩
end K03
seal L2.PE L2.PT L2.PW L2.PA L2.PS L2.PSs L2.PI L2.PG L2.PGs L2.PSet L2.PTs L2.PC L2.PO L2.PK L2.OpR L2.UnR L2.CallR L2.IxR L2.SlR L2.PIp L2.PGet L2.InOp
namespace K03
open PySem L2 PyProof.Rows WM PySem.NumText
section
variable {P : Program} {w : World} {K : PySem.W.Frag} {mg : Str → Option Value} {base : Heap}
abbrev LET : Str := "abcdefghijklmnopqrstuvwxyz"
abbrev FIG : Str := "0123456789"
structure Any (K : PySem.W.Frag) (H : Hp) (x : V) : Prop where
  ty : ∃ m,TyOf K H x (.type m)
  sm : ∀ z,x = .str z → z.length ≤ 100000
theorem Any.str {K : PySem.W.Frag} {H : Hp} {z : Str} (h : z.length ≤ 100000) : Any K H (.str z) := ⟨⟨_,.str z⟩,fun _ e => by cases e; exact h⟩
theorem Any.int {K : PySem.W.Frag} {H : Hp} {i : Int} : Any K H (.int i) := ⟨⟨_,.int i⟩,fun _ e => by cases e⟩
theorem tyOf_same {K : PySem.W.Frag} {H H' : Hp} (s : Same H H') {x : V} {t : Value} (h : TyOf K H x t) : TyOf K H' x t := by
  cases h with
  | non => exact .non
  | bl b => exact .bl b
  | int i => exact .int i
  | str z => exact .str z
  | flt z => exact .flt z
  | lst e => exact .lst (s _ _ e)
  | frz e => exact .frz (s _ _ e)
  | tup e => exact .tup (s _ _ e)
  | dK e => exact .dK (s _ _ e)
  | dT e => exact .dT (s _ _ e)
  | ins e a b c d f => exact .ins (s _ _ e) a b c d f
theorem Any.same {K : PySem.W.Frag} {H H' : Hp} (s : Same H H') {x : V} (h : Any K H x) : Any K H' x := by
  obtain ⟨⟨m,t⟩,z⟩ := h
  exact ⟨⟨m,tyOf_same s t⟩,z⟩
theorem same_upd {H : Hp} {p : Addr} {o : HO} (h : H p = none) : Same H (upd H p o) := fun b u e => by rw [upd_ne (ne_of_none e h)]; exact e
def sp_is_whole (K : PySem.W.Frag) : Sp := fun vs H Q _ => ∃ x,vs = [x] ∧ Any K H x ∧ Q (.bl (isI x)) H
theorem ok_is_whole (D : Def K mg "is_whole" s_is_whole ["thing"]) (B : Bltn mg) : Knows P w K mg base 1 "is_whole" ["thing"] (sp_is_whole K) := by
  refine D.ok sc_is_whole (fun vs H Q E h => ?_) (fun f cdv A outer s H vs Q E hr h => ?_)
  · obtain ⟨x,rfl,_⟩ := h
    rfl
  · obtain ⟨x,rfl,⟨⟨m,ty⟩,_⟩,q⟩ := h
    refine ⟨_,by exact (pss_one (ps_ret (pe_and (pe_isi B.isi B.int boot_int (pv 0)) (pe_one (pe_not (pe_isi B.isi B.bool boot_bool (pv 0))))))), ?_⟩
    refine ⟨_,rfl,_,_,_,rfl,ty,isiI ty,_,rfl, ?_⟩
    refine ite2 (fun hx => ?_) (fun hx => ?_)
    · refine ⟨_,rfl,_,_,_,rfl,ty,isiB ty,_,rfl, ?_⟩
      have e : isI x = !isBl x := by revert hx; cases x <;> simp [isI,isIB,isBl]
      rw [← e]
      exact q
    · have e : isI x = false := by revert hx; cases x <;> simp [isI,isIB]
      rw [e] at q
      exact q
def amongV : V → Int → Int → Bool
  | .int i,lo,hi => decide (lo ≤ i) && decide (i ≤ hi)
  | _,_,_ => false
def sp_is_among (K : PySem.W.Frag) : Sp := fun vs H Q _ => ∃ x lo hi,vs = [x,.int lo,.int hi] ∧ Any K H x ∧ Q (.bl (amongV x lo hi)) H
theorem ok_is_among (D : Def K mg "is_among" s_is_among ["thing","least","most"]) (kw : Knows P w K mg base 1 "is_whole" ["thing"] (sp_is_whole K)) : Knows P w K mg base 2 "is_among" ["thing","least","most"] (sp_is_among K) := by
  refine D.ok sc_is_among (fun vs H Q E h => ?_) (fun f cdv A outer s H vs Q E hr h => ?_)
  · obtain ⟨x,lo,hi,rfl,_⟩ := h
    rfl
  · obtain ⟨x,lo,hi,rfl,an,q⟩ := h
    refine ⟨_,by exact (pss_one (ps_ret (pe_and (pe_callN kw hr (pa_cons (pv 0) pa_nil)) (pe_one (pe_chain op_le op_le (pv 1) (pv 0) (pv 2)))))), ?_⟩
    refine ⟨_,rfl,x,rfl,an,_,rfl, ?_⟩
    cases x with
    | int i =>
      refine iteT ?_
      refine ⟨_,rfl,_,rfl,_,_,rfl,rfl,_,rfl, ?_⟩
      refine ite2 (fun h1 => ?_) (fun h1 => ?_)
      · refine ⟨_,rfl,_,_,rfl,rfl, ?_⟩
        have e : amongV (.int i) lo hi = decide (i ≤ hi) := by
          show (decide (lo ≤ i) && _) = _
          rw [h1,Bool.true_and]
        rw [e] at q
        exact q
      · have e : amongV (.int i) lo hi = false := by
          show (decide (lo ≤ i) && _) = _
          have : decide (lo ≤ i) = false := by simpa using h1
          rw [this,Bool.false_and]
        rw [e] at q
        exact q
    | _ => exact iteF q
def madeOf (g : Str) (n : Int) : V → Bool
  | .str z => decide (1 ≤ (z.length : Int)) && decide ((z.length : Int) ≤ n) && z.cps.toList.all fun c => decide (c ∈ g.cps.toList)
  | _ => false
def sp_is_made_of (K : PySem.W.Frag) : Sp := fun vs H Q _ => ∃ x g n,vs = [x,.str g,.int n] ∧ Any K H x ∧ ∀ H',Same H H' → Q (.bl (madeOf g n x)) H'
theorem ok_is_made_of (D : Def K mg "is_made_of" s_is_made_of ["thing","signs","most"]) (B : Bltn mg) : Knows P w K mg base 1 "is_made_of" ["thing","signs","most"] (sp_is_made_of K) := by
  refine D.ok sc_is_made_of (fun vs H Q E h => ?_) (fun f cdv A outer s H vs Q E hr h => ?_)
  · obtain ⟨x,g,n,rfl,_⟩ := h
    rfl
  · obtain ⟨x,g,n,rfl,⟨⟨m,ty⟩,sm⟩,q⟩ := h
    refine ⟨_,by exact (pss_cons (ps_if (PW.pt (pw_or (pt_not (pt_val (pe_isi B.isi B.str boot_str (pv 0)))) (pw_or1 (pt_not (pt_chain op_le op_le pe_int (pe_callB call_len_str (by rfl) B.len PySem.boot_len (pa_cons (pv 0) pa_nil)) (pv 2)))))) (pss_one (ps_ret pe_bl)) pss_nil)
      (pss_one (ps_ret (pe_callB (call_all rfl) rfl B.all boot_all (pa_cons (pe_comp1 [1] ["sign","signs"] rfl (pi_str (pv 0)) (fun _ _ _ _ => pts_nil) (fun _ _ _ _ => pe_cmpR op_in_str (pv 0) (pv 1) (by with_unfolding_all rfl))) pa_nil))))), ?_⟩
    refine ⟨_,rfl,_,_,_,rfl,ty,isiS ty,_,rfl, ?_⟩
    cases x with
    | str z =>
      have hz : z.length ≤ sizeLine := Nat.le_trans (sm z rfl) (by decide)
      refine iteF ?_
      refine ⟨_,rfl,z,rfl,hz,_,_,rfl,rfl,_,rfl, ?_⟩
      refine ite2 (fun h1 => ?_) (fun h1 => ?_)
      · refine ⟨_,rfl,_,_,rfl,rfl,_,rfl, ?_⟩
        refine ite2 (fun h2 => ?_) (fun h2 => ?_)
        · have e : madeOf g n (.str z) = false := by
            show (_ && decide ((z.length : Int) ≤ n) && _) = false
            have : decide ((z.length : Int) ≤ n) = false := by simpa using h2
            rw [this,Bool.and_false,Bool.false_and]
          have := q H (Same.refl H)
          rw [e] at this
          exact this
        · have h2' : decide ((z.length : Int) ≤ n) = true := by simpa using h2
          refine ⟨_,rfl,z,rfl, ?_⟩
          refine comp1_wk (wk_str z) (fun i ys H1 => H1 = H ∧ ys = (z.cps.toList.take i).map fun c => V.bl (decide (c ∈ g.cps.toList))) ⟨rfl,rfl⟩ (fun i ys H1 hi p => ⟨trivial,by rw [p.2,List.length_map,List.length_take]; omega⟩) (by rw [signsV_length]; exact hz)
            (fun i x ys H1 Nx hx p hN => ?_) (fun ys H1 p Dd hD => ?_)
          · obtain ⟨rfl,rfl⟩ := p
            unfold signsV at hx
            rw [List.getElem?_map] at hx
            cases hc : z.cps.toList[i]? with
            | none => rw [hc] at hx; cases hx
            | some c =>
              rw [hc] at hx
              cases hx
              refine tTrue_use ?_
              refine ⟨_,rfl,_,rfl,_,_,rfl,rfl, ?_⟩
              refine hN _ _ ⟨rfl, ?_⟩
              rw [PySem.StrLaws.found_one,List.take_add_one,hc,List.map_append]
              rfl
          · obtain ⟨rfl,rfl⟩ := p
            refine ⟨Dd,(z.cps.toList).map fun c => decide (c ∈ g.cps.toList),rfl, ?_, ?_⟩
            · refine SqL.of ?_
              rw [upd_same,signsV_length,List.take_of_length_le (by simp),List.map_map]
              rfl
            · have e : madeOf g n (.str z) = ((z.cps.toList).map fun c => decide (c ∈ g.cps.toList)).all id := by
                show (decide (1 ≤ (z.length : Int)) && decide ((z.length : Int) ≤ n) && _) = _
                rw [h1,h2',List.all_map]
                rfl
              rw [← e]
              exact q _ (same_upd hD)
      · refine ⟨_,rfl, ?_⟩
        have e : madeOf g n (.str z) = false := by
          show (decide (1 ≤ (z.length : Int)) && _ && _) = false
          have : decide (1 ≤ (z.length : Int)) = false := by simpa using h1
          rw [this,Bool.false_and,Bool.false_and]
        have := q H (Same.refl H)
        rw [e] at this
        exact this
    | _ => exact q H (Same.refl H)
def sp_is_name (K : PySem.W.Frag) : Sp := fun vs H Q _ => ∃ x,vs = [x] ∧ Any K H x ∧ ∀ H',Same H H' → Q (.bl (madeOf LET 12 x)) H'
theorem ok_is_name (D : Def K mg "is_name" s_is_name ["thing"]) {tl tm : Tok} (hL : mg "LETTERS" = some (.str LET tl)) (hM : mg "MOST_LETTERS" = some (.int 12 tm)) (km : Knows P w K mg base 1 "is_made_of" ["thing","signs","most"] (sp_is_made_of K)) :
    Knows P w K mg base 2 "is_name" ["thing"] (sp_is_name K) := by
  refine D.ok sc_is_name (fun vs H Q E h => ?_) (fun f cdv A outer s H vs Q E hr h => ?_)
  · obtain ⟨x,rfl,_⟩ := h
    rfl
  · obtain ⟨x,rfl,an,q⟩ := h
    refine ⟨_,by exact (pss_one (ps_ret (pe_callN km hr (pa_cons (pv 0) (pa_cons (pe_glob (v := .str LET) rfl hL ⟨_,rfl⟩) (pa_cons (pe_glob (v := .int 12) rfl hM ⟨_,rfl⟩) pa_nil)))))), ?_⟩
    exact ⟨_,rfl,x,LET,12,rfl,an,q⟩
def sp_number_text : Sp := fun vs H Q _ => ∃ n : Int,vs = [.int n] ∧ n.natAbs.log2 < 1920 ∧ Q (.str (toString n)) H
theorem ok_number_text (D : Def K mg "number_text" s_number_text ["number"]) (B : Bltn mg) : Knows P w K mg base 1 "number_text" ["number"] sp_number_text := by
  refine D.ok sc_number_text (fun vs H Q E h => ?_) (fun f cdv A outer s H vs Q E hr h => ?_)
  · obtain ⟨n,rfl,_⟩ := h
    rfl
  · obtain ⟨n,rfl,hn,q⟩ := h
    refine ⟨_,by exact (pss_one (ps_ret (pe_callTy call_str_int rfl B.str boot_str (pa_cons (pv 0) pa_nil)))), ?_⟩
    exact ⟨_,rfl,n,rfl,hn,q⟩
def numOf : V → V
  | .str z => if madeOf FIG 10 (.str z) = true then (if z.cps.toList.head? = some 48 ∧ 1 < z.length then .non else .int (digitsVal z.cps.toList : Nat)) else .non
  | _ => .non
theorem fig_mem (c : Nat) : (c ∈ FIG.cps.toList) ↔ (48 ≤ c ∧ c ≤ 57) := by
  have e : FIG.cps.toList = [48,49,50,51,52,53,54,55,56,57] := by decide +kernel
  rw [e]
  constructor
  · intro h
    simp at h
    omega
  · intro h
    simp
    omega
theorem madeFig {z : Str} (h : madeOf FIG 10 (.str z) = true) : 1 ≤ z.length ∧ z.length ≤ 10 ∧ AllDigits z.cps.toList := by
  have h' : (decide (1 ≤ (z.length : Int)) && decide ((z.length : Int) ≤ 10) && z.cps.toList.all fun c => decide (c ∈ FIG.cps.toList)) = true := h
  rw [Bool.and_eq_true,Bool.and_eq_true] at h'
  obtain ⟨⟨h1,h2⟩,h3⟩ := h'
  refine ⟨by have := of_decide_eq_true h1; omega,by have := of_decide_eq_true h2; omega,fun c hc => ?_⟩
  exact (fig_mem c).mp (of_decide_eq_true (List.all_eq_true.mp h3 c hc))
def sp_number_of (K : PySem.W.Frag) : Sp := fun vs H Q _ => ∃ x,vs = [x] ∧ Any K H x ∧ ∀ H',Same H H' → Q (numOf x) H'
theorem ok_number_of (D : Def K mg "number_of" s_number_of ["word"]) (B : Bltn mg) {tl tm : Tok} (hF : mg "FIGURES" = some (.str FIG tl)) (hM : mg "MOST_FIGURES" = some (.int 10 tm)) (km : Knows P w K mg base 1 "is_made_of" ["thing","signs","most"] (sp_is_made_of K)) :
    Knows P w K mg base 2 "number_of" ["word"] (sp_number_of K) := by
  refine D.ok sc_number_of (fun vs H Q E h => ?_) (fun f cdv A outer s H vs Q E hr h => ?_)
  · obtain ⟨x,rfl,_⟩ := h
    rfl
  · obtain ⟨x,rfl,an,q⟩ := h
    refine ⟨_,by exact (pss_cons (ps_if (pt_not (pt_val (pe_callN km hr (pa_cons (pv 0) (pa_cons (pe_glob (v := .str FIG) rfl hF ⟨_,rfl⟩) (pa_cons (pe_glob (v := .int 10) rfl hM ⟨_,rfl⟩) pa_nil)))))) (pss_one (ps_ret pe_non)) pss_nil)
      (pss_cons (ps_if (PW.pt (pw_and (pt_cmpR op_eq (pe_ix ix_str (pv 0) pe_int (fun _ _ => rfl)) pe_str (nomark _)) (pw_and1 (pt_cmpR op_gt (pe_callB call_len_str (by rfl) B.len PySem.boot_len (pa_cons (pv 0) pa_nil)) pe_int (nomark _))))) (pss_one (ps_ret pe_non)) pss_nil)
      (pss_one (ps_ret (pe_callTy call_int_str rfl B.int boot_int (pa_cons (pv 0) pa_nil)))))), ?_⟩
    refine ⟨_,rfl,x,FIG,10,rfl,an,fun H1 s1 => ⟨_,rfl, ?_⟩⟩
    refine ite2 (fun hx => ?_) (fun hx => ?_)
    · have e : numOf x = .non := by
        cases x with
        | str z =>
          show (if madeOf FIG 10 (.str z) = true then _ else V.non) = .non
          rw [if_neg (by simpa using hx)]
        | _ => rfl
      have := q H1 s1
      rw [e] at this
      exact this
    · have hx' : madeOf FIG 10 x = true := by simpa using hx
      cases x with
      | str z =>
        obtain ⟨l1,l2,dg⟩ := madeFig hx'
        have hz : z.length ≤ sizeLine := Nat.le_trans l2 (by decide)
        have hlen : z.cps.toList.length = z.length := Array.length_toList
        obtain ⟨c,r,hcr⟩ : ∃ c r,z.cps.toList = c :: r := by
          cases h : z.cps.toList with
          | nil => rw [h] at hlen; simp at hlen; omega
          | cons c r => exact ⟨c,r,rfl⟩
        have e0 : numOf (.str z) = if z.cps.toList.head? = some 48 ∧ 1 < z.length then .non else .int (digitsVal z.cps.toList : Nat) := by
          show (if madeOf FIG 10 (.str z) = true then _ else V.non) = _
          rw [if_pos hx']
        have hat : atI z.cps.toList 0 = some c := atI_nat (j := 0) (by rw [hcr]; rfl)
        refine ⟨_,rfl,z,0,c,rfl,rfl,hz,hat,rfl,_,rfl, ?_⟩
        have e48 : (V.str ⟨#[c]⟩ = V.str "0") ↔ c = 48 := by
          constructor
          · intro h
            injection h with h
            have h2 : (⟨#[c]⟩ : Str).cps.toList = ("0" : Str).cps.toList := by rw [h]
            have h3 : ("0" : Str).cps.toList = [48] := by decide +kernel
            rw [h3] at h2
            simpa using h2
          · rintro rfl
            exact congrArg V.str (str_ext (by decide +kernel))
        have fin : ¬ (c = 48 ∧ 1 < z.length) → ∃ v,(start n_number_of [V.str z])[0]? = some (some v) ∧ ∃ z' n,[v] = [V.str z'] ∧ intText? z' = some n ∧ z'.length ≤ 640 ∧ Q (.int n) H1 := fun h => by
          refine ⟨_,rfl,z,_,rfl,intText_digits dg (by rw [hcr]; simp) (by omega),by omega, ?_⟩
          have := q H1 s1
          rw [e0,if_neg (by rw [hcr]; simpa using h)] at this
          exact this
        refine ite2 (fun h0 => ?_) (fun h0 => ?_)
        · have h0' : c = 48 := e48.mp (of_decide_eq_true h0)
          refine ⟨_,rfl,z,rfl,hz,_,_,rfl,rfl,_,rfl, ?_⟩
          refine ite2 (fun h1 => ?_) (fun h1 => ?_)
          · have h1' : (1 : Int) < (z.length : Int) := of_decide_eq_true h1
            have := q H1 s1
            rw [e0,if_pos ⟨by rw [hcr,h0']; rfl,by omega⟩] at this
            exact this
          · have h1' : ¬ (1 : Int) < (z.length : Int) := of_decide_eq_false (by simpa using h1)
            exact fin fun z => h1' (by omega)
        · have h0' : ¬ c = 48 := fun z => of_decide_eq_false (by simpa using h0) (e48.mpr z)
          exact fin fun z => h0' z.1
      | _ => exact absurd hx' (by simp [madeOf])
def emptyIn (ws : List Str) : Bool := ws.any fun y => y == ("" : Str)
def partsOf (z : Str) : List Str := (splitC 32 z.cps.toList).map fun p => (⟨p.toArray⟩ : Str)
def wordsOf : V → Option (List Str)
  | .str z => if emptyIn (partsOf z) = true then none else some (partsOf z)
  | _ => none
def sp_words_of (K : PySem.W.Frag) : Sp := fun vs H Q _ => ∃ x,vs = [x] ∧ Any K H x ∧ (wordsOf x = none → ∀ H',Same H H' → Q .non H') ∧ (∀ ws,wordsOf x = some ws → ∀ p H',H p = none → Same H H' → H' p = some (.lst (ws.map V.str)) → Q (.ref p) H')
theorem sp1 : (" " : Str) = ⟨#[32]⟩ := str_ext (by decide +kernel)
theorem ok_words_of (D : Def K mg "words_of" s_words_of ["line"]) (B : Bltn mg) : Knows P w K mg base 1 "words_of" ["line"] (sp_words_of K) := by
  refine D.ok sc_words_of (fun vs H Q E h => ?_) (fun f cdv A outer s H vs Q E hr h => ?_)
  · obtain ⟨x,rfl,_⟩ := h
    rfl
  · obtain ⟨x,rfl,⟨⟨m,ty⟩,sm⟩,q1,q2⟩ := h
    refine ⟨_,by exact (pss_cons (ps_if (pt_not (pt_val (pe_isi B.isi B.str boot_str (pv 0)))) (pss_one (ps_ret pe_non)) pss_nil)
      (pss_cons (ps_set (i := 1) sc_words_of.nd rfl (Or.inl rfl) (pe_bm PySem.F.plainAttrs_str PySem.F.slot_str_split PySem.F.type_str_split mt_split (pv 0) (pa_cons pe_str pa_nil)))
      (pss_cons (ps_if (pt_cmpR op_in_seq pe_str (pv 1) (by with_unfolding_all rfl)) (pss_one (ps_ret pe_non)) pss_nil)
      (pss_one (ps_ret (pv 1)))))), ?_⟩
    refine ⟨_,rfl,_,_,_,rfl,ty,isiS ty,_,rfl, ?_⟩
    cases x with
    | str z =>
      refine iteF ?_
      refine ⟨_,rfl,rfl,z," ",rfl,rfl,by rw [sp1]; rfl,Nat.le_trans (Nat.add_le_add_right (sm z rfl) 2) (by decide),fun p hp => ?_⟩
      have es : Txt.split z " " = partsOf z := by rw [sp1,txt_split_eq]; rfl
      rw [es]
      refine ⟨_,rfl,p,_,rfl,.inl (SqL.of upd_same),rfl,flat_strs _,_,rfl, ?_⟩
      have ei : inV (.str "") ((partsOf z).map V.str) = emptyIn (partsOf z) := by
        unfold inV emptyIn
        rw [List.any_map]
        rfl
      have e0 : (if false = true then !inV (.str "") ((partsOf z).map V.str) else inV (.str "") ((partsOf z).map V.str)) = emptyIn (partsOf z) := by rw [if_neg Bool.false_ne_true,ei]
      refine ite2 (fun h => ?_) (fun h => ?_)
      · refine q1 ?_ _ (same_upd hp)
        show (if emptyIn (partsOf z) = true then none else _) = none
        rw [if_pos (e0 ▸ h)]
      · refine ⟨_,rfl,q2 (partsOf z) ?_ p _ hp (same_upd hp) upd_same⟩
        show (if emptyIn (partsOf z) = true then none else _) = _
        rw [if_neg (e0 ▸ h)]
    | _ => exact q1 rfl H (Same.refl H)
end
end K03
local macro_rules | `(tactic| walk_at "m") => `(tactic| first | decide | (show (0 : Int) < _; decide) | (show L2.CDiv _ _; exact ⟨by decide,by decide⟩) | omega)
namespace L2
open PySem
theorem stm_use {t u : TS} {D : Ends} {σ : St} {H : Hp} (Post : St → Hp → Prop) (hg : ∀ Q',(∀ σ' H',Post σ' H' → Q' σ' H') → t { D with nx := Q' } σ H) (k : ∀ σ' H',Post σ' H' → u D σ' H') : tSeq t u D σ H := hg _ k
theorem next_to {D : Ends} {σ : St} {H : Hp} (h : D.nx σ H) : tNext D σ H := h
end L2
namespace K03
open PySem L2 PyProof.Rows
theorem same_of {H : Hp} {p : Addr} {o : HO} (h : H p = none) : Same H (upd H p o) := fun b u e => by rw [upd_ne (ne_of_none e h)]; exact e
theorem boot_tuple : bootBuiltins "tuple" = some (.type "tuple") := by kernel_rfl
def Chg (S : List Addr) (H H' : Hp) : Prop := ∀ b o,b ∉ S → H b = some o → H' b = some o
structure Jb where
  name : Str
  needs : List Str
  rank : Int
  span : Int
  tries : Int
  wait : Int
  grow : Int
def isName (z : Str) : Bool := madeOf LET 12 (.str z)
def jobF (j : Jb) (l : Addr) : List (Str × V) := [("name",.str j.name),("needs",.ref l),("rank",.int j.rank),("span",.int j.span),("tries",.int j.tries),("wait",.int j.wait),("grow",.int j.grow)]
structure JCls (K : PySem.W.Frag) (mg : Str → Option Value) (C : Addr) : Prop where
  cl : Cls K C
  mgC : mg "Job" = some (.ref C)
  n1 : NoAttr K C "name"
  n2 : NoAttr K C "needs"
  n3 : NoAttr K C "rank"
  n4 : NoAttr K C "span"
  n5 : NoAttr K C "tries"
  n6 : NoAttr K C "wait"
  n7 : NoAttr K C "grow"
structure Bj (mg : Str → Option Value) : Prop where
  b : Bltn mg
  zip : mg "zip" = none
  tuple : mg "tuple" = none
  set : mg "set" = none
def pw : List (Str × Int × Int) := [("rank",0,99),("span",1,1000),("tries",1,20),("wait",0,1000),("grow",1,4)]
structure PartsK (K : PySem.W.Frag) (mg : Str → Option Value) : Prop where
  ex : ∃ (T : Addr) (ps : List Addr),mg "PARTS" = some (.ref T) ∧ ps.length = 5 ∧ (∀ H,SqT K H T (ps.map V.ref)) ∧ ∀ (i : Nat) (p : Addr),ps[i]? = some p → ∃ w lo hi,pw[i]? = some (w,lo,hi) ∧ ∀ H,SqT K H p [.str w,.int lo,.int hi]
abbrev mid1 : Str := " is a whole number from "
abbrev mid2 : Str := " to "
def fok (t : Str × Int × Int) : Bool := decide (t.1.length ≤ sizeLine) && decide ((Str.empty ++ t.1).length ≤ sizeLine) && decide ((Str.empty ++ t.1 ++ mid1).length ≤ sizeLine) && decide (t.2.1.natAbs.log2 < 1920) && decide ((Str.empty ++ t.1 ++ mid1 ++ toString t.2.1).length ≤ sizeLine)
  && decide ((Str.empty ++ t.1 ++ mid1 ++ toString t.2.1 ++ mid2).length ≤ sizeLine) && decide (t.2.2.natAbs.log2 < 1920) && decide ((Str.empty ++ t.1 ++ mid1 ++ toString t.2.1 ++ mid2 ++ toString t.2.2).length ≤ sizeLine)
theorem fok_all : pw.all fok = true := by decide +kernel
theorem name_len {z : Str} (h : isName z = true) : 1 ≤ z.length ∧ z.length ≤ 12 := by
  unfold isName madeOf at h
  rw [Bool.and_eq_true,Bool.and_eq_true,decide_eq_true_eq,decide_eq_true_eq] at h
  omega
theorem FunD.okX {P : Program} {w : World} {K : PySem.W.Frag} {mg : Str → Option Value} {base : Heap} {x qual : Str} {st : Stmt} {f : Addr} {fd : FuncData} {N ps : List Str} {k : Nat} {sp : Sp} (F : FunD K x qual st f fd) (S : FnScope N ps (defScope st)) (len : ∀ vs H Q E,sp vs H Q E → vs.length = ps.length)
    (hbody : ∀ (cdv : Value) (A : Around) (outer : List Env) (s : Shared) (H : Hp) (vs : List V) (Q : VK) (E : XK),Room k (A.deeper (envOfC qual (defScope st) s.heap.objs.size f cdv)) → sp vs H Q E →
      ∃ t,PSs (cxR P w K mg base N qual (defScope st) f cdv A outer s H E) (defBody st) t ∧ t { nx := fun _ H' => Q .non H',rt := Q } (start N vs) H) : FnOk P w K mg base (CX1 P w base) (k + 1) f fd ps sp := by
  obtain ⟨oc,od,dV,kV,doc,pm,an,cdv,ct,osl,rfl,lk,hcd⟩ := F.ex
  exact fn_of lk hcd S len fun A outer s H vs Q E hr hsp => hbody cdv A outer s H vs Q E hr hsp
structure BX (K : PySem.W.Frag) (mg : Str → Option Value) (D : Nat → Addr) : Prop where
  ex0 : PySem.W.excIn K (D 0) bmV "ValueError.__new__" = true
  ex1 : PySem.W.excIn K (D 1) bmV "ValueError.__new__" = true
  ex2 : PySem.W.excIn K (D 2) bmV "ValueError.__new__" = true
  g0 : mg "BadName" = some (.ref (D 0))
  g1 : mg "BadNeeds" = some (.ref (D 1))
  g2 : mg "BadNumber" = some (.ref (D 2))
def Sq (H : Hp) (a : Addr) (xs : List V) : Prop := H a = some (.lst xs) ∨ H a = some (.tup xs)
theorem Sq.same {H H' : Hp} {a : Addr} {xs : List V} (h : Sq H a xs) (s : Same H H') : Sq H' a xs := h.elim (fun e => .inl (s _ _ e)) (fun e => .inr (s _ _ e))
theorem Sq.or {K : PySem.W.Frag} {H : Hp} {a : Addr} {xs : List V} (h : Sq H a xs) : SqL K H a xs ∨ SqT K H a xs := h.elim (fun e => .inl (SqL.of e)) (fun e => .inr (SqT.of e))
def Odd (H : Hp) (x : V) : Prop := (∃ z,x = .str z) ∨ (∃ i,x = .int i) ∨ (∃ b,x = .bl b) ∨ ∃ a kvs,x = .ref a ∧ H a = some (.dK kvs)
def keyOf : V → Key
  | .str s => .inr s
  | _ => .inl 0
def okNeeds (z : Str) (xs : List V) : Bool := decide (xs.length ≤ 8) && (xs.all (madeOf LET 12) && (!inV (.str z) xs && decide ((uniqK (xs.map keyOf)).length = xs.length)))
theorem made_str {x : V} (h : madeOf LET 12 x = true) : ∃ s,x = .str s := by
  cases x with
  | str s => exact ⟨s,rfl⟩
  | _ => cases h
theorem all_strs : ∀ {xs : List V},xs.all (madeOf LET 12) = true → ∃ ks : List Str,xs = ks.map V.str
  | [],_ => ⟨[],rfl⟩
  | x :: xs,h => by
    rw [List.all_cons,Bool.and_eq_true] at h
    obtain ⟨s,rfl⟩ := made_str h.1
    obtain ⟨ks,rfl⟩ := all_strs h.2
    exact ⟨s :: ks,rfl⟩
theorem keys_strs (ks : List Str) : (ks.map V.str).map keyOf = ks.map Sum.inr := by
  rw [List.map_map]
  rfl
section
variable {P : Program} {w : World} {K : PySem.W.Frag} {mg : Str → Option Value} {base : Heap} {C : Addr} {D : Nat → Addr}
theorem inV_str {z : Str} {ks : List Str} (h : z ∉ ks) : inV (.str z) (ks.map V.str) = false := by
  cases e : inV (.str z) (ks.map V.str) with
  | false => rfl
  | true =>
    exfalso
    unfold inV at e
    rw [List.any_eq_true] at e
    obtain ⟨x,hx,ex⟩ := e
    obtain ⟨y,hy,rfl⟩ := List.mem_map.mp hx
    have : y = z := by simpa [eqV] using ex
    exact h (this ▸ hy)
theorem uniq_nodup {ks : List Key} (h : ks.Nodup) : (uniqK ks).length = ks.length := by
  have : ∀ i,i ≤ ks.length → metK (fun i => ks.getD i (.inl 0)) i = ks.take i := by
    intro i
    induction i with
    | zero => intro _; rfl
    | succ i ih =>
      intro hi
      show addK (metK _ i) _ = _
      rw [ih (by omega)]
      show addK (ks.take i) (ks.getD i (.inl 0)) = _
      have e : ks.getD i (.inl 0) = ks[i] := by rw [List.getD_eq_getElem?_getD,List.getElem?_eq_getElem (by omega)]; rfl
      rw [e]
      unfold addK
      rw [if_neg]
      · exact List.take_append_getElem (l := ks) (i := i) (by omega)
      intro hm
      obtain ⟨m,hm1,hm2⟩ := List.mem_iff_getElem.mp hm
      rw [List.getElem_take] at hm2
      rw [List.length_take] at hm1
      exact (List.pairwise_iff_getElem.mp h m i (by omega) (by omega) (by omega)) hm2
  unfold uniqK
  rw [this _ (Nat.le_refl _),List.take_length]
def spCheckName (K : PySem.W.Frag) (D : Nat → Addr) : Sp := fun vs H Q E => ∃ x,vs = [x] ∧ Any K H x ∧ (madeOf LET 12 x = true → ∀ H',Same H H' → Q .non H') ∧ (madeOf LET 12 x = false → ∀ H',Same H H' → E (.ref (D 0)) none H')
theorem ok_check_name (Df : Def K mg "check_name" s_check_name ["name"]) (X : BX K mg D) (k_is_name : Knows P w K mg base 2 "is_name" ["thing"] (sp_is_name K)) : KnowsX P w K mg base 3 "check_name" ["name"] (spCheckName K D) := by
  refine Df.okX sc_check_name (fun vs H Q E h => ?_) (fun f cdv A outer s H vs Q E hr h => ?_)
  · obtain ⟨x,rfl,_⟩ := h
    rfl
  · obtain ⟨x,rfl,an,q1,q2⟩ := h
    refine ⟨_,by exact (pss_one (ps_if (pt_not (pt_val (pe_callM k_is_name hr (pa_c (pv 0) pa_nil)))) (pss_one (ps_raise X.ex0 X.g0 (pa_c pe_str pa_nil))) pss_nil)), ?_⟩
    refine ⟨_,rfl,x,rfl,an,fun H1 s1 => ⟨_,rfl, ?_⟩⟩
    cases e : madeOf LET 12 x with
    | true => exact iteF (q1 e _ s1)
    | false => exact iteT ⟨by show 1 ≤ sizeLine; decide,q2 e _ s1⟩
def spAreNeeds (K : PySem.W.Frag) : Sp := fun vs H Q _ => ∃ (x : V) (z : Str),vs = [x,.str z] ∧ ((Odd H x ∧ ∀ H',Same H H' → Q (.bl false) H') ∨ ∃ (a : Addr) (xs : List V),x = .ref a ∧ Sq H a xs ∧ (∀ y ∈ xs,Any K H y) ∧ xs.length ≤ 1000 ∧ ∀ H',Same H H' → Q (.bl (okNeeds z xs)) H')
theorem ok_are_needs (Df : Def K mg "are_needs" s_are_needs ["needs","name"]) (B : Bj mg) {tm : Tok} (hM : mg "MOST_NEEDS" = some (.int 8 tm)) (k_is_name : Knows P w K mg base 2 "is_name" ["thing"] (sp_is_name K)) : Knows P w K mg base 3 "are_needs" ["needs","name"] (spAreNeeds K) := by
  refine Df.ok sc_are_needs (fun vs H Q E h => ?_) (fun f cdv A outer s H vs Q E hr h => ?_)
  · obtain ⟨x,z,rfl,_⟩ := h
    rfl
  · obtain ⟨x,z,rfl,h⟩ := h
    refine ⟨_,by exact (pss_cons (ps_if (PW.pt (pw_or (pt_not (pt_val (pe_bcall (call_isiT ["list","tuple"]) rfl B.b.isi boot_isinstance (pa_c (pv 0) (pa_c (pe_tup (pa_c (pe_bltn (v := .ty "list") rfl B.b.list boot_list rfl (by decide) (by decide)) (pa_c (pe_bltn (v := .ty "tuple") rfl B.tuple boot_tuple rfl (by decide) (by decide)) pa_nil))) pa_nil))))) (pw_or1 (pt_cmpR op_gt (pe_bcall call_len_seq rfl B.b.len PySem.boot_len (pa_c (pv 0) pa_nil)) (pe_glob (v := .int 8) rfl hM ⟨_,rfl⟩) (nomark _))))) (pss_one (ps_ret pe_bl)) pss_nil)
      (pss_cons (ps_if (pt_not (pt_val (pe_bcall (call_all rfl) rfl B.b.all boot_all (pa_c (pe_comp1 [] ["need"] rfl (pi_or (pi_list (pv 0)) (pi_tup (pv 0))) (fun _ _ _ _ => pts_nil) (fun _ _ _ _ => (pe_callM k_is_name hr (pa_c (pv 0) pa_nil)))) pa_nil)))) (pss_one (ps_ret pe_bl)) pss_nil)
      (pss_one (ps_ret (pe_and (pe_cmpR op_notIn_seq (pv 1) (pv 0) (by with_unfolding_all rfl)) (pe_one (pe_cmpR op_eq (pe_either (pe_lenset rfl B.b.len B.set (pv 0)) (pe_lensetT rfl B.b.len B.set (pv 0))) (pe_bcall call_len_seq rfl B.b.len PySem.boot_len (pa_c (pv 0) pa_nil)) (nomark _)))))))), ?_⟩
    refine ⟨_,rfl,by show 2 ≤ sizeLine; decide,fun t ht => ?_⟩
    have s1 : Same H (upd H t (.tup [.ty "list",.ty "tuple"])) := same_of ht
    have e1 : (upd H t (.tup [.ty "list",.ty "tuple"])) t = some (.tup [.ty "list",.ty "tuple"]) := upd_same
    generalize upd H t (.tup [.ty "list",.ty "tuple"]) = H1 at s1 e1
    rcases h with ⟨od,q⟩ | ⟨a,xs,rfl,sq,an,l20,q⟩
    · rcases od with ⟨y,rfl⟩ | ⟨y,rfl⟩ | ⟨y,rfl⟩ | ⟨a,kvs,rfl,hk⟩
      · exact ⟨_,t,_,false,rfl,e1,.str _,by kernel_rfl,_,rfl,iteT (iteT (q _ s1))⟩
      · exact ⟨_,t,_,false,rfl,e1,.int _,by kernel_rfl,_,rfl,iteT (iteT (q _ s1))⟩
      · exact ⟨_,t,_,false,rfl,e1,.bl _,by kernel_rfl,_,rfl,iteT (iteT (q _ s1))⟩
      · exact ⟨_,t,_,false,rfl,e1,.dK (s1 _ _ hk),by kernel_rfl,_,rfl,iteT (iteT (q _ s1))⟩
    · have sq1 := sq.same s1
      have rest : (∃ k,k = decide ((8 : Int) < (xs.length : Int)) ∧ True) → True := fun _ => True.intro
      have ty : ∃ m,TyOf K H1 (.ref a) (.type m) ∧ (m = "list" ∨ m = "tuple") := sq1.elim (fun e => ⟨_,.lst e,.inl rfl⟩) (fun e => ⟨_,.tup e,.inr rfl⟩)
      obtain ⟨m,ty,hm⟩ := ty
      refine ⟨_,t,_,true,rfl,e1,ty,(by rcases hm with rfl | rfl <;> kernel_rfl),_,rfl,iteF ?_⟩
      refine ⟨_,rfl,a,xs,rfl,sq1.or,_,_,rfl,rfl,_,rfl,ite2 (fun h8 => ?_) (fun h8 => next_to ?_)⟩
      · have h8' : ¬ xs.length ≤ 8 := by have := of_decide_eq_true h8; omega
        have e : okNeeds z xs = false := by unfold okNeeds; rw [decide_eq_false h8',Bool.false_and]
        rw [e] at q
        exact q _ s1
      · have h8' : xs.length ≤ 8 := by
          have : ¬ (8 : Int) < (xs.length : Int) := fun z => h8 (decide_eq_true z)
          omega
        dsimp only
        refine if_use (fun b H' => b = !(xs.all (madeOf LET 12)) ∧ Same H1 H') (fun Q' kk => ?_) ?_ ?_
        · have comp : ∀ (J : It) (Pp : Hp → Prop),Wk J xs Pp → (∀ H',Same H1 H' → Pp H') → ∀ (Qc : VK) (σ : L2.St),(∀ Dd H',Same H1 H' → H' Dd = none → Qc (.ref Dd) (upd H' Dd (.lst ((xs.map (madeOf LET 12)).map V.bl)))) → tCompB 1 [] (gName 0) tTrue (tCall (sp_is_name K) [] E0 (tCons (tVar 0) tNil)) σ Qc J H1 := fun J Pp wk hP Qc σ fin => by
            refine comp1_wk wk (fun i ys H3 => Same H1 H3 ∧ ys = ((xs.take i).map (madeOf LET 12)).map V.bl) ⟨Same.refl _,rfl⟩ (fun i ys H3 _ h => ⟨hP _ h.1,by rw [h.2,List.length_map,List.length_map,List.length_take]; omega⟩) (Nat.le_trans l20 (by decide)) (fun i y ys H3 Nx hy hv k => ?_) ?_
            · obtain ⟨s3,rfl⟩ := hv
              refine tTrue_use ⟨_,rfl,y,rfl,((an y (List.mem_of_getElem? hy)).same s1).same s3,fun H4 s4 => k _ _ ⟨s3.trans s4, ?_⟩⟩
              rw [List.take_add_one,hy,List.map_append,List.map_append]
              rfl
            · rintro ys H3 ⟨s3,rfl⟩ p hp
              have := fin p H3 s3 hp
              rw [List.take_length]
              exact this
          have fin : ∀ Dd H',Same H1 H' → H' Dd = none → ∃ (p : Addr) (bs : List Bool),[V.ref Dd] = [.ref p] ∧ SqL K (upd H' Dd (.lst ((xs.map (madeOf LET 12)).map V.bl))) p (bs.map V.bl) ∧ ∃ c,V.bl (bs.all id) = .bl c ∧ Q' (!c) (upd H' Dd (.lst ((xs.map (madeOf LET 12)).map V.bl))) := fun Dd H' s2 hD => by
            refine ⟨Dd,xs.map (madeOf LET 12),rfl,SqL.of upd_same,_,rfl,kk _ _ ⟨?_,s2.trans (same_of hD)⟩⟩
            rw [List.all_map]
            rfl
          rcases sq1 with e | e
          · refine .inl ⟨_,rfl,a,rfl,⟨_,SqL.of e⟩, ?_⟩
            refine comp _ _ (wk_list K a xs) (fun H' s' => SqL.of (s' _ _ e)) _ _ (fun Dd H' s' hD => ?_)
            exact fin Dd H' s' hD
          · refine .inr ⟨_,rfl,a,rfl,⟨_,SqT.of e⟩, ?_⟩
            refine comp _ _ (wk_tup K a xs) (fun H' s' => SqT.of (s' _ _ e)) _ _ (fun Dd H' s' hD => ?_)
            exact fin Dd H' s' hD
        · rintro H2 ⟨hb,s2⟩
          have hb' : xs.all (madeOf LET 12) = false := by
            cases h : xs.all (madeOf LET 12) with
            | false => rfl
            | true => rw [h] at hb; cases hb
          have e : okNeeds z xs = false := by unfold okNeeds; rw [hb',Bool.false_and,Bool.and_false]
          rw [e] at q
          exact q _ (s1.trans s2)
        · rintro H2 ⟨hb,s2⟩
          have hb' : xs.all (madeOf LET 12) = true := by
            cases h : xs.all (madeOf LET 12) with
            | false => rw [h] at hb; cases hb
            | true => rfl
          refine next_to ?_
          dsimp only
          obtain ⟨ks,rfl⟩ := all_strs hb'
          have sq2 := sq1.same s2
          refine ⟨_,rfl,_,rfl,a,_,rfl,sq2.or,rfl,by simp [flatV], ?_⟩
          have fin := q _ (s1.trans s2)
          unfold okNeeds at fin
          rw [decide_eq_true h8',hb',Bool.true_and,Bool.true_and] at fin
          have e0 : (if true = true then !inV (.str z) (ks.map V.str) else inV (.str z) (ks.map V.str)) = !inV (.str z) (ks.map V.str) := rfl
          rw [e0]
          refine ⟨_,rfl,ite2 (fun h => ?_) (fun h => ?_)⟩
          · rw [h,Bool.true_and,keys_strs] at fin
            have ek : ks.map V.str = (ks.map (Sum.inr : Str → Key)).map kV := by rw [List.map_map]; rfl
            have hb1 : (ks.map (Sum.inr : Str → Key)).length + 1 < scanBound := by rw [List.length_map]; rw [List.length_map] at h8'; exact Nat.lt_of_le_of_lt (Nat.succ_le_succ h8') (by decide)
            have hll : (ks.map V.str).length = ks.length := List.length_map ..
            rw [hll] at fin
            have tail : ∃ a_1 ys,[V.ref a] = [.ref a_1] ∧ (SqL K H2 a_1 ys ∨ SqT K H2 a_1 ys) ∧ (flatV (.int ((uniqK (ks.map Sum.inr)).length : Int)) && flatV (.int (ys.length : Int))) = true ∧ Q (.bl (decide (V.int ((uniqK (ks.map Sum.inr)).length : Int) = V.int (ys.length : Int)))) H2 := by
              refine ⟨a,_,rfl,sq2.or,rfl, ?_⟩
              rw [hll]
              have : decide (V.int ((uniqK (ks.map Sum.inr)).length : Int) = V.int (ks.length : Int)) = decide ((uniqK (ks.map (Sum.inr : Str → Key))).length = ks.length) := by
                by_cases e : (uniqK (ks.map (Sum.inr : Str → Key))).length = ks.length
                · rw [decide_eq_true e,e]
                  exact decide_eq_true rfl
                · rw [decide_eq_false e]
                  exact decide_eq_false fun z => e (by injection z with z; omega)
              rw [this]
              exact fin
            obtain ⟨a1,ys,ea,so,fl,qq⟩ := tail
            cases ea
            rcases sq2 with e | e
            · exact .inl ⟨_,rfl,a,ks.map Sum.inr,rfl,by rw [← ek]; exact SqL.of e,hb1,_,rfl,a,ys,rfl,so,rfl,qq⟩
            · exact .inr ⟨_,rfl,a,ks.map Sum.inr,rfl,by rw [← ek]; exact SqT.of e,hb1,_,rfl,a,ys,rfl,so,rfl,qq⟩
          · have h' : (!inV (.str z) (ks.map V.str)) = false := by simpa using h
            rw [h',Bool.false_and] at fin
            exact fin
end
end K03
namespace L2
open PySem
theorem fld_use {K : PySem.W.Frag} {ta tv : TE} {f : Str} {u : TS} {D : Ends} {σ : St} {H : Hp} (Post : V → Hp → Prop) (g : ∀ Q',(∀ v H',Post v H' → Q' v H') → tv σ H Q')
    (k : ∀ v H',Post v H' → ta σ H' fun x H2 => ∃ a C dx fs,x = .ref a ∧ H2 a = some (.ins C dx fs) ∧ Cls K C ∧ NoAttr K C f ∧ fs.length < 1000 ∧ u D σ (upd H2 a (.ins C dx (putF f v fs)))) : tSeq (sFld K ta tv f) u D σ H := g _ k
end L2
namespace K03
open PySem L2 PyProof.Rows
theorem ite_of {b d : Bool} {A B : Prop} (e : b = d) (h1 : d = true → A) (h2 : d = false → B) : if b = true then A else B := by
  subst e
  exact ite_b h1 h2
abbrev jps : List Str := ["self","name","needs","rank","span","tries","wait","grow"]
inductive Nd (K : PySem.W.Frag) (H : Hp) (z : Str) : V → Option (List Str) → Prop
  | non : Nd K H z .non (some [])
  | odd {x : V} : Odd H x → Nd K H z x none
  | good {a : Addr} {ks : List Str} : Sq H a (ks.map V.str) → ks.length ≤ 1000 → okNeeds z (ks.map V.str) = true → (∀ k ∈ ks,k.length ≤ 100000) → Nd K H z (.ref a) (some ks)
  | bad {a : Addr} {xs : List V} : Sq H a xs → (∀ y ∈ xs,Any K H y) → xs.length ≤ 1000 → okNeeds z xs = false → Nd K H z (.ref a) none
theorem Odd.same {H H' : Hp} {x : V} (h : Odd H x) (s : Same H H') : Odd H' x := by
  rcases h with h | h | h | ⟨a,k,e,h⟩
  · exact .inl h
  · exact .inr (.inl h)
  · exact .inr (.inr (.inl h))
  · exact .inr (.inr (.inr ⟨a,k,e,s _ _ h⟩))
theorem Nd.same {K : PySem.W.Frag} {H H' : Hp} {z : Str} {x : V} {o : Option (List Str)} (h : Nd K H z x o) (s : Same H H') : Nd K H' z x o := by
  cases h with
  | non => exact .non
  | odd h => exact .odd (h.same s)
  | good a b c d => exact .good (a.same s) b c d
  | bad a b c d => exact .bad (a.same s) (fun y hy => (b y hy).same s) c d
def okNums (ys : List V) : Prop := ∀ (i : Nat) (w : Str) (lo hi : Int) (y : V),pw[i]? = some (w,lo,hi) → ys[i]? = some y → amongV y lo hi = true
section
variable {P : Program} {w : World} {K : PySem.W.Frag} {mg : Str → Option Value} {base : Heap} {C : Addr} {D : Nat → Addr}
def spCheckNeeds (K : PySem.W.Frag) (D : Nat → Addr) : Sp := fun vs H Q E => ∃ (x : V) (z : Str) (o : Option (List Str)),vs = [x,.str z] ∧ Nd K H z x o ∧ (o.isSome = true → ∀ H',Same H H' → Q .non H') ∧ (o = none → ∀ H',Same H H' → E (.ref (D 1)) none H')
theorem ok_check_needs (Df : Def K mg "check_needs" s_check_needs ["needs","name"]) (X : BX K mg D) (k_are_needs : Knows P w K mg base 3 "are_needs" ["needs","name"] (spAreNeeds K)) : KnowsX P w K mg base 4 "check_needs" ["needs","name"] (spCheckNeeds K D) := by
  refine Df.okX sc_check_needs (fun vs H Q E h => ?_) (fun f cdv A outer s H vs Q E hr h => ?_)
  · obtain ⟨x,z,o,rfl,_⟩ := h
    rfl
  · obtain ⟨x,z,o,rfl,nd,q1,q2⟩ := h
    refine ⟨_,by exact (pss_one (ps_if (PW.pt (pw_and (pt_cmpR op_notN (pv 0) pe_non (nomark _)) (pw_and1 (pt_not (pt_val (pe_callM k_are_needs hr (pa_c (pv 0) (pa_c (pv 1) pa_nil)))))))) (pss_one (ps_raise X.ex1 X.g1 (pa_c pe_str pa_nil))) pss_nil)), ?_⟩
    cases nd with
    | non => exact ⟨_,rfl,rfl,_,rfl,iteF (iteF (q1 rfl _ (Same.refl _)))⟩
    | odd od =>
      have hx : (!decide (x = V.non)) = true := by
        rcases od with ⟨y,rfl⟩ | ⟨y,rfl⟩ | ⟨y,rfl⟩ | ⟨a,kvs,rfl,_⟩ <;> rfl
      refine ⟨_,rfl,rfl,_,rfl,ite_of (d := true) hx (fun _ => ?_) (fun h => by cases h)⟩
      exact ⟨_,rfl,_,rfl,x,z,rfl,.inl ⟨od,fun H1 s1 => ⟨_,rfl,iteT ⟨by show 1 ≤ sizeLine; decide,q2 rfl _ s1⟩⟩⟩⟩
    | @good a ks sq hl ok hk =>
      refine ⟨_,rfl,rfl,_,rfl,iteT ⟨_,rfl,_,rfl,.ref a,z,rfl,.inr ⟨a,ks.map V.str,rfl,sq, ?_,by rw [List.length_map]; exact hl,fun H1 s1 => ⟨_,rfl, ?_⟩⟩⟩⟩
      · intro y hy
        obtain ⟨k,hk',rfl⟩ := List.mem_map.mp hy
        exact Any.str (hk k hk')
      · rw [ok]
        exact iteF (q1 rfl _ s1)
    | @bad a xs sq an hl ok =>
      refine ⟨_,rfl,rfl,_,rfl,iteT ⟨_,rfl,_,rfl,.ref a,z,rfl,.inr ⟨a,xs,rfl,sq,an,hl,fun H1 s1 => ⟨_,rfl, ?_⟩⟩⟩⟩
      rw [ok]
      exact iteT ⟨by show 1 ≤ sizeLine; decide,q2 rfl _ s1⟩
def spCheckNumbers (K : PySem.W.Frag) (D : Nat → Addr) : Sp := fun vs H Q E => ∃ (t : Addr) (ys : List V),vs = [.ref t] ∧ H t = some (.tup ys) ∧ ys.length = 5 ∧ (∀ y ∈ ys,Any K H y) ∧ (okNums ys → ∀ H',Same H H' → Q .non H') ∧ (¬ okNums ys → ∀ H',Same H H' → E (.ref (D 2)) none H')
theorem ok_check_numbers (Df : Def K mg "check_numbers" s_check_numbers ["numbers"]) (B : Bj mg) (PK : PartsK K mg) (X : BX K mg D) (k_is_among : Knows P w K mg base 2 "is_among" ["thing","least","most"] (sp_is_among K)) : KnowsX P w K mg base 3 "check_numbers" ["numbers"] (spCheckNumbers K D) := by
  refine Df.okX sc_check_numbers (fun vs H Q E h => ?_) (fun f cdv A outer s H vs Q E hr h => ?_)
  · obtain ⟨t,ys,rfl,_⟩ := h
    rfl
  · obtain ⟨t,ys,rfl,ht,hl,an,q1,q2⟩ := h
    obtain ⟨T,ps,hmg,hpl,hT,hp⟩ := PK.ex
    refine ⟨_,by exact (pss_one (ps_for PassesOwn.leaving rfl (pi_zipT B.zip (pe_glob (v := .ref T) rfl hmg rfl) (pv 0)) (pg_tup rfl (pgs_cons (pg_name (i := 1) sc_check_numbers.nd rfl (Or.inl rfl)) (pgs_cons (pg_name (i := 2) sc_check_numbers.nd rfl (Or.inl rfl)) pgs_nil))) (pss_cons (ps_set (i := 3) sc_check_numbers.nd rfl (Or.inl rfl) (pe_ix ix_tup (pv 1) pe_int (fun _ _ => rfl)))
      (pss_cons (ps_set (i := 4) sc_check_numbers.nd rfl (Or.inl rfl) (pe_ix ix_tup (pv 1) pe_int (fun _ _ => rfl)))
      (pss_cons (ps_set (i := 5) sc_check_numbers.nd rfl (Or.inl rfl) (pe_ix ix_tup (pv 1) pe_int (fun _ _ => rfl)))
      (pss_one (ps_if (pt_not (pt_val (pe_callM k_is_among hr (pa_c (pv 2) (pa_c (pv 4) (pa_c (pv 5) pa_nil)))))) (pss_one (ps_raise X.ex2 X.g2 (pa_c (pe_fstr (pj_cons (pe_fmt (pv 3)) (pj_cons pe_str (pj_cons (pe_fmt (pv 4)) (pj_cons pe_str (pj_cons (pe_fmt (pv 5)) pj_nil)))))) pa_nil))) pss_nil))))))), ?_⟩
    refine ⟨_,rfl,T,t,rfl,rfl,⟨_,hT H⟩,⟨_,SqT.of ht⟩, ?_⟩
    refine for_zipT (xs := ps.map V.ref) (ys := ys) (n := 5) (by rw [List.length_map,hpl,hl]; rfl) (fun i σ H1 => Same H H1 ∧ (∀ (j : Nat) (w : Str) (lo hi : Int) (y : V),j < i → pw[j]? = some (w,lo,hi) → ys[j]? = some y → amongV y lo hi = true) ∧ ∃ v1 v2 v3 v4 v5,σ = [some (.ref t),v1,v2,v3,v4,v5]) ⟨Same.refl _,(fun j w lo hi y h => by omega),_,_,_,_,_,rfl⟩ (fun i σ H1 _ h => ⟨hT H1,SqT.of (h.1 _ _ ht)⟩) ?_ ?_
    · rintro i x y σ H1 t2 hx hy ⟨s1,hg,v1,v2,v3,v4,v5,rfl⟩ h2
      rw [List.getElem?_map] at hx
      obtain ⟨p,hp',rfl⟩ := Option.map_eq_some_iff.mp hx
      obtain ⟨wd,lo,hi,hbd,hpt⟩ := hp i p hp'
      refine ⟨t2,_,rfl,SqT.of upd_same,rfl,_,_,rfl,_,_,rfl,rfl, ?_⟩
      have s2 : Same H1 (upd H1 t2 (.tup [.ref p,y])) := same_of h2
      generalize upd H1 t2 (.tup [.ref p,y]) = H2 at s2
      refine ⟨_,rfl,p,_,_,_,rfl,rfl,hpt H2,atI_nat (j := 0) rfl, ?_⟩
      refine ⟨_,rfl,p,_,_,_,rfl,rfl,hpt H2,atI_nat (j := 1) rfl, ?_⟩
      refine ⟨_,rfl,p,_,_,_,rfl,rfl,hpt H2,atI_nat (j := 2) rfl, ?_⟩
      refine ⟨_,rfl,_,rfl,_,rfl,y,lo,hi,rfl,(an y (List.mem_of_getElem? hy)).same (s1.trans s2),_,rfl, ?_⟩
      cases e : amongV y lo hi with
      | true =>
        refine iteF ⟨s1.trans s2,fun j w lo' hi' y' hj h1' h2' => ?_,_,_,_,_,_,rfl⟩
        by_cases hji : j = i
        · rw [hji,hbd] at h1'
          rw [hji,hy] at h2'
          cases h1'
          cases h2'
          exact e
        · exact hg j w lo' hi' y' (by omega) h1' h2'
      | false =>
        have fk : fok (wd,lo,hi) = true := List.all_eq_true.mp fok_all _ (List.mem_of_getElem? hbd)
        unfold fok at fk
        simp only [Bool.and_eq_true,decide_eq_true_eq] at fk
        obtain ⟨⟨⟨⟨⟨⟨⟨f1,f2⟩,f3⟩,f4⟩,f5⟩,f6⟩,f7⟩,f8⟩ := fk
        refine iteT ⟨_,rfl,.inl ⟨wd,rfl,f1,⟨_,rfl,f2,_,rfl,f3,_,rfl,.inr ⟨lo,rfl,f4,⟨_,rfl,f5,_,rfl,f6,_,rfl,.inr ⟨hi,rfl,f7,⟨_,rfl,f8,f8,by show 1 ≤ sizeLine; decide, ?_⟩⟩⟩⟩⟩⟩⟩
        refine q2 (fun ok => ?_) _ (s1.trans s2)
        rw [ok i wd lo hi y hbd hy] at e
        cases e
    · rintro σ H1 ⟨s1,hg,_⟩
      refine q1 (fun i w lo hi y h1 h2 => hg i w lo hi y ?_ h1 h2) _ s1
      have := (List.getElem?_eq_some_iff.mp h1).1
      exact this
end
end K03
namespace K03
open PySem L2 PyProof.Rows
structure JobL (C : Addr) (H : Hp) (p l : Addr) (j : Jb) : Prop where
  ob : ∃ dx,H p = some (.ins C dx (jobF j l))
  ls : H l = some (.lst (j.needs.map V.str))
theorem JobL.same {C : Addr} {H H' : Hp} {p l : Addr} {j : Jb} (h : JobL C H p l j) (s : Same H H') : JobL C H' p l j := by
  obtain ⟨⟨dx,a⟩,b⟩ := h
  exact ⟨⟨dx,s _ _ a⟩,s _ _ b⟩
theorem among_int {y : V} {lo hi : Int} (h : amongV y lo hi = true) : ∃ n : Int,y = .int n ∧ lo ≤ n ∧ n ≤ hi := by
  cases y with
  | int n =>
    have h' : (decide (lo ≤ n) && decide (n ≤ hi)) = true := h
    rw [Bool.and_eq_true,decide_eq_true_eq,decide_eq_true_eq] at h'
    exact ⟨n,rfl,h'.1,h'.2⟩
  | _ => cases h
theorem nums_ints {v1 v2 v3 v4 v5 : V} (h : okNums [v1,v2,v3,v4,v5]) : ∃ a b c d e : Int,v1 = .int a ∧ v2 = .int b ∧ v3 = .int c ∧ v4 = .int d ∧ v5 = .int e := by
  obtain ⟨a,rfl,_⟩ := among_int (h 0 "rank" 0 99 v1 rfl rfl)
  obtain ⟨b,rfl,_⟩ := among_int (h 1 "span" 1 1000 v2 rfl rfl)
  obtain ⟨c,rfl,_⟩ := among_int (h 2 "tries" 1 20 v3 rfl rfl)
  obtain ⟨d,rfl,_⟩ := among_int (h 3 "wait" 0 1000 v4 rfl rfl)
  obtain ⟨e,rfl,_⟩ := among_int (h 4 "grow" 1 4 v5 rfl rfl)
  exact ⟨a,b,c,d,e,rfl,rfl,rfl,rfl,rfl⟩
section
variable {P : Program} {w : World} {K : PySem.W.Frag} {mg : Str → Option Value} {base : Heap} {C : Addr} {D : Nat → Addr}
def spJob (K : PySem.W.Frag) (C : Addr) (D : Nat → Addr) : Sp := fun vs H Q E => ∃ (p dx : Addr) (nm nd v1 v2 v3 v4 v5 : V),vs = [.ref p,nm,nd,v1,v2,v3,v4,v5] ∧ H p = some (.ins C dx []) ∧ Any K H nm ∧ (∀ y ∈ [v1,v2,v3,v4,v5],Any K H y) ∧
  (madeOf LET 12 nm = false → ∀ H',Same H H' → E (.ref (D 0)) none H') ∧
  (madeOf LET 12 nm = true → ∃ (z : Str) (o : Option (List Str)),nm = .str z ∧ Nd K H z nd o ∧ (o = none → ∀ H',Same H H' → E (.ref (D 1)) none H') ∧
    (∀ ks,o = some ks → (¬ okNums [v1,v2,v3,v4,v5] → ∀ H',Same H H' → E (.ref (D 2)) none H') ∧
      ∀ a b c d e : Int,v1 = .int a → v2 = .int b → v3 = .int c → v4 = .int d → v5 = .int e → okNums [v1,v2,v3,v4,v5] → ∀ l H',H l = none → JobL C H' p l ⟨z,ks,a,b,c,d,e⟩ → Chg [p] H H' → Q .non H'))
theorem ok_job {f : Addr} {fd : FuncData} (F : FunD K "__init__" "Job.__init__" s_Job___init__ f fd) (J : JCls K mg C) (B : Bj mg) (k_check_name : KnowsX P w K mg base 3 "check_name" ["name"] (spCheckName K D)) (k_check_needs : KnowsX P w K mg base 4 "check_needs" ["needs","name"] (spCheckNeeds K D))
    (k_check_numbers : KnowsX P w K mg base 3 "check_numbers" ["numbers"] (spCheckNumbers K D)) : FnOk P w K mg base (CX1 P w base) 5 f fd jps (spJob K C D) := by
  refine FunD.okX F sc_Job___init__ (fun vs H Q E h => ?_) (fun cdv A outer s H vs Q E hr h => ?_)
  · obtain ⟨p,dx,nm,nd,v1,v2,v3,v4,v5,rfl,_⟩ := h
    rfl
  · obtain ⟨p,dx,nm,nd,v1,v2,v3,v4,v5,rfl,hp,anm,anv,qn,qy⟩ := h
    refine ⟨_,by exact (pss_cons (ps_expr (pe_callX k_check_name hr passes_on (pa_c (pv 1) pa_nil)))
      (pss_cons (ps_expr (pe_callX k_check_needs hr passes_on (pa_c (pv 2) (pa_c (pv 1) pa_nil))))
      (pss_cons (ps_expr (pe_callX k_check_numbers hr passes_on (pa_c (pe_tup (pa_c (pv 3) (pa_c (pv 4) (pa_c (pv 5) (pa_c (pv 6) (pa_c (pv 7) pa_nil)))))) pa_nil)))
      (pss_cons (ps_fld (pv 0) (pv 1) rfl)
      (pss_cons (ps_fld (pv 0) (pe_ifExp (pt_cmpR op_isN (pv 2) pe_non (nomark _)) (pe_lst pa_nil) (pe_tcall call_list_of rfl B.b.list boot_list (pa_c (pv 2) pa_nil))) rfl)
      (pss_cons (ps_fld (pv 0) (pv 3) rfl)
      (pss_cons (ps_fld (pv 0) (pv 4) rfl)
      (pss_cons (ps_fld (pv 0) (pv 5) rfl)
      (pss_cons (ps_fld (pv 0) (pv 6) rfl)
      (pss_one (ps_fld (pv 0) (pv 7) rfl))))))))))), ?_⟩
    refine ⟨_,rfl,nm,rfl,anm,fun hm H1 s1 => ?_,qn⟩
    obtain ⟨z,o,rfl,nd0,qd,qk⟩ := qy hm
    refine ⟨_,rfl,_,rfl,nd,z,o,rfl,nd0.same s1,fun ho H2 s2 => ?_,fun ho H2 s2 => qd ho _ (s1.trans s2)⟩
    obtain ⟨ks,rfl⟩ := Option.isSome_iff_exists.mp ho
    obtain ⟨qm,qg⟩ := qk ks rfl
    refine ⟨_,rfl,_,rfl,_,rfl,_,rfl,_,rfl,by show 5 ≤ sizeLine; decide,fun t ht => ?_⟩
    have s3 : Same H2 (upd H2 t (.tup [v1,v2,v3,v4,v5])) := same_of ht
    have s13 := (s1.trans s2).trans s3
    refine ⟨t,[v1,v2,v3,v4,v5],rfl,upd_same,rfl,fun y hy => (anv y hy).same s13,fun okn H4 s4 => ?_,fun okn H4 s4 => qm okn _ (s13.trans s4)⟩
    obtain ⟨a,b,c,d,e,rfl,rfl,rfl,rfl,rfl⟩ := nums_ints okn
    have s5 := s13.trans s4
    have p5 := s5 _ _ hp
    refine ⟨_,rfl,_,rfl,p,C,dx,[],rfl,p5,J.cl,J.n1,by decide, ?_⟩
    have c6 : Chg [p] H (upd H4 p (.ins C dx (putF "name" (.str z) []))) := fun b o hb e => by rw [upd_ne (fun z => hb (by simp [z]))]; exact s5 _ _ e
    have p6 : (upd H4 p (.ins C dx (putF "name" (.str z) []))) p = some (.ins C dx [("name",.str z)]) := upd_same
    generalize upd H4 p (.ins C dx (putF "name" (.str z) [])) = H6 at c6 p6
    dsimp only
    refine fld_use (fun v H' => ∃ l,v = .ref l ∧ l ≠ p ∧ H l = none ∧ H' l = some (.lst (ks.map V.str)) ∧ H' p = some (.ins C dx [("name",.str z)]) ∧ Chg [p] H H') (fun Q' kk => ?_) ?_
    · have fin : ∀ l,H6 l = none → Q' (.ref l) (upd H6 l (.lst (ks.map V.str))) := fun l hl => by
        have hlp : l ≠ p := fun z => by rw [z,p6] at hl; cases hl
        have hln : H l = none := by
          cases eh : H l with
          | none => rfl
          | some u =>
            have := c6 l u (fun y => hlp (List.mem_singleton.mp y)) eh
            rw [hl] at this
            cases this
        exact kk _ _ ⟨l,rfl,hlp,hln,upd_same,by rw [upd_ne (Ne.symm hlp)]; exact p6,fun b o hb e => by rw [upd_ne (ne_of_none (c6 b o hb e) hl)]; exact c6 b o hb e⟩
      cases nd0 with
      | non => exact ⟨_,rfl,rfl,_,rfl,iteT ⟨by decide,fin⟩⟩
      | @good na ks' sq hl ok hk =>
        have hne : na ≠ p := fun y => by
          rcases sq with e | e
          · rw [y,hp] at e; cases e
          · rw [y,hp] at e; cases e
        have sq6 : Sq H6 na (ks.map V.str) := sq.elim (fun e => .inl (c6 _ _ (fun y => hne (List.mem_singleton.mp y)) e)) (fun e => .inr (c6 _ _ (fun y => hne (List.mem_singleton.mp y)) e))
        exact ⟨_,rfl,rfl,_,rfl,iteF ⟨_,rfl,na,_,rfl,sq6.or,fin⟩⟩
    rintro v H7 ⟨l,rfl,hlp,hln,hl,p7,c7⟩
    refine ⟨_,rfl,p,C,dx,_,rfl,p7,J.cl,J.n2,(by show 1 < 1000; decide), ?_⟩
    refine ⟨_,rfl,_,rfl,p,C,dx,_,rfl,upd_same,J.cl,J.n3,(by show 2 < 1000; decide), ?_⟩
    refine ⟨_,rfl,_,rfl,p,C,dx,_,rfl,upd_same,J.cl,J.n4,(by show 3 < 1000; decide), ?_⟩
    refine ⟨_,rfl,_,rfl,p,C,dx,_,rfl,upd_same,J.cl,J.n5,(by show 4 < 1000; decide), ?_⟩
    refine ⟨_,rfl,_,rfl,p,C,dx,_,rfl,upd_same,J.cl,J.n6,(by show 5 < 1000; decide), ?_⟩
    refine ⟨_,rfl,_,rfl,p,C,dx,_,rfl,upd_same,J.cl,J.n7,(by show 6 < 1000; decide), ?_⟩
    refine qg a b c d e rfl rfl rfl rfl rfl okn l _ hln ⟨⟨dx,upd_same⟩, ?_⟩ fun b o hb e => ?_
    · rw [upd_ne hlp,upd_ne hlp,upd_ne hlp,upd_ne hlp,upd_ne hlp,upd_ne hlp]
      exact hl
    · have hb' : b ≠ p := fun z => hb (by simp [z])
      rw [upd_ne hb',upd_ne hb',upd_ne hb',upd_ne hb',upd_ne hb',upd_ne hb']
      exact c7 b o hb e
end
end K03
seal L2.PIQ
namespace L2
theorem XdOk.same {H H' : Hp} {od : Option PySem.Addr} (h : XdOk H od) (s : Same H H') : XdOk H' od := fun dx e => let ⟨fs,z⟩ := h dx e; ⟨fs,s _ _ z⟩
end L2
namespace K03
open PySem L2 PyProof.Rows
theorem boot_VE : bootBuiltins "ValueError" = some (.type "ValueError") := by kernel_rfl
structure EX (K : PySem.W.Frag) (mg : Str → Option Value) (D : Nat → Addr) (CH : Addr) (R : Nat → Prop) : Prop where
  c0 : ECls0 K
  ec : ∀ r,R r → ECls K (D r)
  kit : ∀ r i,R r → i < 19 → PySem.W.kitOne K (.ref (D r)) (.ref (D i)) = some (decide (i = r))
  ve : ∀ r,R r → PySem.W.kitOne K (.ref (D r)) (.type "ValueError") = some true
  he : ∀ r,R r → PySem.W.kitOne K (.ref (D r)) (.ref CH) = some true
  noVE : mg "ValueError" = none
  gH : mg "HallError" = some (.ref CH)
  g0 : mg "BadName" = some (.ref (D 0))
  g1 : mg "BadNeeds" = some (.ref (D 1))
  g2 : mg "BadNumber" = some (.ref (D 2))
  g3 : mg "BadPlan" = some (.ref (D 3))
  g4 : mg "Twice" = some (.ref (D 4))
  g5 : mg "NoJob" = some (.ref (D 5))
  g6 : mg "Ring" = some (.ref (D 6))
  g7 : mg "BadLine" = some (.ref (D 7))
  g8 : mg "Busy" = some (.ref (D 8))
  g9 : mg "Gone" = some (.ref (D 9))
  g10 : mg "BadTerm" = some (.ref (D 10))
  g11 : mg "NoAlarm" = some (.ref (D 11))
  g12 : mg "BadStep" = some (.ref (D 12))
  g13 : mg "BadState" = some (.ref (D 13))
  g14 : mg "BadTurn" = some (.ref (D 14))
  g15 : mg "BadBuilders" = some (.ref (D 15))
  g16 : mg "BadBook" = some (.ref (D 16))
  g17 : mg "BadShot" = some (.ref (D 17))
  g18 : mg "BadEvent" = some (.ref (D 18))
def kn (r n : Nat) : List V := (List.range n).map fun i => .bl (decide (i = r))
theorem kn_flat (r n : Nat) : (kn r n).all flatV = true := by
  rw [List.all_eq_true]
  intro x hx
  obtain ⟨j,_,rfl⟩ := List.mem_map.mp hx
  rfl
theorem kn_succ (r n : Nat) : kn r (n + 1) = kn r n ++ [.bl (decide (n = r))] := by
  unfold kn
  rw [List.range_succ,List.map_append]
  rfl
theorem kn_len (r n : Nat) : (kn r n).length = n := by
  unfold kn
  simp
section
variable {P : Program} {w : World} {K : PySem.W.Frag} {mg : Str → Option Value} {base : Heap} {D : Nat → Addr} {CH : Addr} {R : Nat → Prop}
def spKinds (D : Nat → Addr) (R : Nat → Prop) : Sp := fun vs H Q _ => ∃ (a : Addr) (r : Nat) (od oc : Option Addr),vs = [.ref a] ∧ R r ∧ H a = some (ExcC a (D r) od oc) ∧ XdOk H od ∧ ∀ l H',Same H H' → H' l = some (.lst (kn r 19)) → Q (.ref l) H'
theorem ok_kinds (Df : Def K mg "_law_kinds" s__law_kinds ["_law_e"]) (B : Bltn mg) (X : EX K mg D CH R) : KnowsQ P w K mg base 1 "_law_kinds" ["_law_e"] (spKinds D R) := by
  refine Df.okQ sc__law_kinds (fun vs H Q E h => ?_) (fun f cdv A outer s H vs Q E hr hq h => ?_)
  · obtain ⟨a,r,od,oc,rfl,_⟩ := h
    rfl
  · obtain ⟨a,r,od,oc,rfl,hR,ea,xd,q⟩ := h
    have ec := X.ec r hR
    refine ⟨_,by exact (pss_cons (ps_set (i := 1) sc__law_kinds.nd rfl (Or.inl rfl) (pe_lst (pa_c (pe_bcall (call_isiE (D := .ref (D 0)) (vD := .ref (D 0)) (fun u h => h) X.c0) rfl B.isi boot_isinstance (pa_c (pv 0) (pa_c (pe_glob (v := .ref (D 0)) rfl X.g0 rfl) pa_nil))) (pa_c (pe_bcall (call_isiE (D := .ref (D 1)) (vD := .ref (D 1)) (fun u h => h) X.c0) rfl B.isi boot_isinstance (pa_c (pv 0) (pa_c (pe_glob (v := .ref (D 1)) rfl X.g1 rfl) pa_nil))) (pa_c (pe_bcall (call_isiE (D := .ref (D 2)) (vD := .ref (D 2)) (fun u h => h) X.c0) rfl B.isi boot_isinstance (pa_c (pv 0) (pa_c (pe_glob (v := .ref (D 2)) rfl X.g2 rfl) pa_nil))) (pa_c (pe_bcall (call_isiE (D := .ref (D 3)) (vD := .ref (D 3)) (fun u h => h) X.c0) rfl B.isi boot_isinstance (pa_c (pv 0) (pa_c (pe_glob (v := .ref (D 3)) rfl X.g3 rfl) pa_nil))) pa_nil))))))
      (pss_cons (ps_set (i := 1) sc__law_kinds.nd rfl (Or.inl rfl) (pe_op op_cat (pv 1) (pe_lst (pa_c (pe_bcall (call_isiE (D := .ref (D 4)) (vD := .ref (D 4)) (fun u h => h) X.c0) rfl B.isi boot_isinstance (pa_c (pv 0) (pa_c (pe_glob (v := .ref (D 4)) rfl X.g4 rfl) pa_nil))) (pa_c (pe_bcall (call_isiE (D := .ref (D 5)) (vD := .ref (D 5)) (fun u h => h) X.c0) rfl B.isi boot_isinstance (pa_c (pv 0) (pa_c (pe_glob (v := .ref (D 5)) rfl X.g5 rfl) pa_nil))) (pa_c (pe_bcall (call_isiE (D := .ref (D 6)) (vD := .ref (D 6)) (fun u h => h) X.c0) rfl B.isi boot_isinstance (pa_c (pv 0) (pa_c (pe_glob (v := .ref (D 6)) rfl X.g6 rfl) pa_nil))) (pa_c (pe_bcall (call_isiE (D := .ref (D 7)) (vD := .ref (D 7)) (fun u h => h) X.c0) rfl B.isi boot_isinstance (pa_c (pv 0) (pa_c (pe_glob (v := .ref (D 7)) rfl X.g7 rfl) pa_nil))) pa_nil)))))))
      (pss_cons (ps_set (i := 1) sc__law_kinds.nd rfl (Or.inl rfl) (pe_op op_cat (pv 1) (pe_lst (pa_c (pe_bcall (call_isiE (D := .ref (D 8)) (vD := .ref (D 8)) (fun u h => h) X.c0) rfl B.isi boot_isinstance (pa_c (pv 0) (pa_c (pe_glob (v := .ref (D 8)) rfl X.g8 rfl) pa_nil))) (pa_c (pe_bcall (call_isiE (D := .ref (D 9)) (vD := .ref (D 9)) (fun u h => h) X.c0) rfl B.isi boot_isinstance (pa_c (pv 0) (pa_c (pe_glob (v := .ref (D 9)) rfl X.g9 rfl) pa_nil))) (pa_c (pe_bcall (call_isiE (D := .ref (D 10)) (vD := .ref (D 10)) (fun u h => h) X.c0) rfl B.isi boot_isinstance (pa_c (pv 0) (pa_c (pe_glob (v := .ref (D 10)) rfl X.g10 rfl) pa_nil))) (pa_c (pe_bcall (call_isiE (D := .ref (D 11)) (vD := .ref (D 11)) (fun u h => h) X.c0) rfl B.isi boot_isinstance (pa_c (pv 0) (pa_c (pe_glob (v := .ref (D 11)) rfl X.g11 rfl) pa_nil))) pa_nil)))))))
      (pss_cons (ps_set (i := 1) sc__law_kinds.nd rfl (Or.inl rfl) (pe_op op_cat (pv 1) (pe_lst (pa_c (pe_bcall (call_isiE (D := .ref (D 12)) (vD := .ref (D 12)) (fun u h => h) X.c0) rfl B.isi boot_isinstance (pa_c (pv 0) (pa_c (pe_glob (v := .ref (D 12)) rfl X.g12 rfl) pa_nil))) (pa_c (pe_bcall (call_isiE (D := .ref (D 13)) (vD := .ref (D 13)) (fun u h => h) X.c0) rfl B.isi boot_isinstance (pa_c (pv 0) (pa_c (pe_glob (v := .ref (D 13)) rfl X.g13 rfl) pa_nil))) (pa_c (pe_bcall (call_isiE (D := .ref (D 14)) (vD := .ref (D 14)) (fun u h => h) X.c0) rfl B.isi boot_isinstance (pa_c (pv 0) (pa_c (pe_glob (v := .ref (D 14)) rfl X.g14 rfl) pa_nil))) pa_nil))))))
      (pss_one (ps_ret (pe_op op_cat (pv 1) (pe_lst (pa_c (pe_bcall (call_isiE (D := .ref (D 15)) (vD := .ref (D 15)) (fun u h => h) X.c0) rfl B.isi boot_isinstance (pa_c (pv 0) (pa_c (pe_glob (v := .ref (D 15)) rfl X.g15 rfl) pa_nil))) (pa_c (pe_bcall (call_isiE (D := .ref (D 16)) (vD := .ref (D 16)) (fun u h => h) X.c0) rfl B.isi boot_isinstance (pa_c (pv 0) (pa_c (pe_glob (v := .ref (D 16)) rfl X.g16 rfl) pa_nil))) (pa_c (pe_bcall (call_isiE (D := .ref (D 17)) (vD := .ref (D 17)) (fun u h => h) X.c0) rfl B.isi boot_isinstance (pa_c (pv 0) (pa_c (pe_glob (v := .ref (D 17)) rfl X.g17 rfl) pa_nil))) (pa_c (pe_bcall (call_isiE (D := .ref (D 18)) (vD := .ref (D 18)) (fun u h => h) X.c0) rfl B.isi boot_isinstance (pa_c (pv 0) (pa_c (pe_glob (v := .ref (D 18)) rfl X.g18 rfl) pa_nil))) pa_nil)))))))))))), ?_⟩
    refine seq_use (fun v H' => ∃ l,v = .ref l ∧ H' l = some (.lst (kn r 4)) ∧ Same H H') (fun Q' kk => ?_) ?_
    · refine ⟨_,rfl,a,_,_,_,_,rfl,ea,xd,ec,X.kit r 0 hR (by decide),_,rfl,a,_,_,_,_,rfl,ea,xd,ec,X.kit r 1 hR (by decide),_,rfl,a,_,_,_,_,rfl,ea,xd,ec,X.kit r 2 hR (by decide),_,rfl,a,_,_,_,_,rfl,ea,xd,ec,X.kit r 3 hR (by decide),by show 4 ≤ sizeLine; decide,fun l hl => ?_⟩
      exact kk _ _ ⟨l,rfl,upd_same,same_of hl⟩
    rintro _ G1 ⟨l1,rfl,e1,s1⟩
    have ea1 := s1 _ _ ea
    have xd1 := xd.same s1
    refine seq_use (fun v H' => ∃ l,v = .ref l ∧ H' l = some (.lst (kn r 8)) ∧ Same H H') (fun Q' kk => ?_) ?_
    · refine ⟨_,rfl,_,rfl,a,_,_,_,_,rfl,ea1,xd1,ec,X.kit r 4 hR (by decide),_,rfl,a,_,_,_,_,rfl,ea1,xd1,ec,X.kit r 5 hR (by decide),_,rfl,a,_,_,_,_,rfl,ea1,xd1,ec,X.kit r 6 hR (by decide),_,rfl,a,_,_,_,_,rfl,ea1,xd1,ec,X.kit r 7 hR (by decide),by show 4 ≤ sizeLine; decide,fun b hb => ?_⟩
      have zb := same_of (o := .lst [.bl (decide (4 = r)),.bl (decide (5 = r)),.bl (decide (6 = r)),.bl (decide (7 = r))]) hb
      refine ⟨l1,b,_,_,rfl,rfl,zb _ _ e1,upd_same,by show 8 ≤ sizeLine; decide,fun c hc => ?_⟩
      exact kk _ _ ⟨c,rfl,upd_same,(s1.trans zb).trans (same_of hc)⟩
    rintro _ G2 ⟨l2,rfl,e2,s2⟩
    have ea2 := s2 _ _ ea
    have xd2 := xd.same s2
    refine seq_use (fun v H' => ∃ l,v = .ref l ∧ H' l = some (.lst (kn r 12)) ∧ Same H H') (fun Q' kk => ?_) ?_
    · refine ⟨_,rfl,_,rfl,a,_,_,_,_,rfl,ea2,xd2,ec,X.kit r 8 hR (by decide),_,rfl,a,_,_,_,_,rfl,ea2,xd2,ec,X.kit r 9 hR (by decide),_,rfl,a,_,_,_,_,rfl,ea2,xd2,ec,X.kit r 10 hR (by decide),_,rfl,a,_,_,_,_,rfl,ea2,xd2,ec,X.kit r 11 hR (by decide),by show 4 ≤ sizeLine; decide,fun b hb => ?_⟩
      have zb := same_of (o := .lst [.bl (decide (8 = r)),.bl (decide (9 = r)),.bl (decide (10 = r)),.bl (decide (11 = r))]) hb
      refine ⟨l2,b,_,_,rfl,rfl,zb _ _ e2,upd_same,by show 12 ≤ sizeLine; decide,fun c hc => ?_⟩
      exact kk _ _ ⟨c,rfl,upd_same,(s2.trans zb).trans (same_of hc)⟩
    rintro _ G3 ⟨l3,rfl,e3,s3⟩
    have ea3 := s3 _ _ ea
    have xd3 := xd.same s3
    refine seq_use (fun v H' => ∃ l,v = .ref l ∧ H' l = some (.lst (kn r 15)) ∧ Same H H') (fun Q' kk => ?_) ?_
    · refine ⟨_,rfl,_,rfl,a,_,_,_,_,rfl,ea3,xd3,ec,X.kit r 12 hR (by decide),_,rfl,a,_,_,_,_,rfl,ea3,xd3,ec,X.kit r 13 hR (by decide),_,rfl,a,_,_,_,_,rfl,ea3,xd3,ec,X.kit r 14 hR (by decide),by show 3 ≤ sizeLine; decide,fun b hb => ?_⟩
      have zb := same_of (o := .lst [.bl (decide (12 = r)),.bl (decide (13 = r)),.bl (decide (14 = r))]) hb
      refine ⟨l3,b,_,_,rfl,rfl,zb _ _ e3,upd_same,by show 15 ≤ sizeLine; decide,fun c hc => ?_⟩
      exact kk _ _ ⟨c,rfl,upd_same,(s3.trans zb).trans (same_of hc)⟩
    rintro _ G4 ⟨l4,rfl,e4,s4⟩
    have ea4 := s4 _ _ ea
    have xd4 := xd.same s4
    refine ⟨_,rfl,_,rfl,a,_,_,_,_,rfl,ea4,xd4,ec,X.kit r 15 hR (by decide),_,rfl,a,_,_,_,_,rfl,ea4,xd4,ec,X.kit r 16 hR (by decide),_,rfl,a,_,_,_,_,rfl,ea4,xd4,ec,X.kit r 17 hR (by decide),_,rfl,a,_,_,_,_,rfl,ea4,xd4,ec,X.kit r 18 hR (by decide),by show 4 ≤ sizeLine; decide,fun b hb => ?_⟩
    have zb := same_of (o := .lst [.bl (decide (15 = r)),.bl (decide (16 = r)),.bl (decide (17 = r)),.bl (decide (18 = r))]) hb
    refine ⟨l4,b,_,_,rfl,rfl,zb _ _ e4,upd_same,by show 19 ≤ sizeLine; decide,fun c hc => ?_⟩
    exact q c _ ((s4.trans zb).trans (same_of hc)) upd_same
def spAlone (D : Nat → Addr) (R : Nat → Prop) : Sp := fun vs H Q _ => ∃ (a : Addr) (r : Nat) (od oc : Option Addr),vs = [.ref a,.int (r : Int)] ∧ R r ∧ H a = some (ExcC a (D r) od oc) ∧ XdOk H od ∧ ∀ H',Same H H' → Q (.bl true) H'
theorem ok_alone (Df : Def K mg "_law_alone" s__law_alone ["_law_e","_law_which"]) (B : Bltn mg) (X : EX K mg D CH R) (k_kinds : KnowsQ P w K mg base 1 "_law_kinds" ["_law_e"] (spKinds D R)) : KnowsQ P w K mg base 2 "_law_alone" ["_law_e","_law_which"] (spAlone D R) := by
  refine Df.okQ sc__law_alone (fun vs H Q E h => ?_) (fun f cdv A outer s H vs Q E hr hq h => ?_)
  · obtain ⟨a,r,od,oc,rfl,_⟩ := h
    rfl
  · obtain ⟨a,r,od,oc,rfl,hR,ea,xd,q⟩ := h
    have ec := X.ec r hR
    have hu := hr.units0
    refine ⟨_,by exact (pss_one (ps_ret (pe_and (pe_bcall (call_isiE (D := .ref CH) (vD := .ref CH) (fun u h => h) X.c0) rfl B.isi boot_isinstance (pa_c (pv 0) (pa_c (pe_glob (v := .ref CH) rfl X.gH rfl) pa_nil)))
      (pe_and (pe_bcall (call_isiE (D := .type "ValueError") (vD := .ty "ValueError") (fun u h => h) X.c0) rfl B.isi boot_isinstance (pa_c (pv 0) (pa_c (pe_bltn (v := .ty "ValueError") rfl X.noVE boot_VE rfl (by decide) (by decide)) pa_nil)))
        (pe_one (pe_cmpR (op_eqL hu) (pe_callQ k_kinds hr (pa_c (pv 0) pa_nil)) (pe_comp1Q [1] ["_law_k","_law_which"] (pi_rangeQ1 rfl B.range (pa_c pe_int pa_nil)) (fun _ _ _ _ => pts_nil) (fun _ _ _ _ => (pe_cmpR op_eq (pv 0) (pv 1) (nomark _)))) (nomark _))))))), ?_⟩
    refine ⟨_,rfl,a,_,_,_,_,rfl,ea,xd,ec,X.he r hR,_,rfl,iteT ?_⟩
    refine ⟨_,rfl,a,_,_,_,_,rfl,ea,xd,ec,X.ve r hR,_,rfl,iteT ?_⟩
    refine ⟨_,rfl,hq,a,r,od,oc,rfl,hR,ea,xd,fun l H1 s1 e1 => ?_⟩
    refine ⟨19,rfl,by decide,by decide, ?_⟩
    have hq1 := hq.same s1
    refine comp1_wk (wk_rangeQ _ 0 19) (fun i ys H' => H' = H1 ∧ ys = kn r i) ⟨rfl,rfl⟩ (fun i ys H' _ h => ⟨by rw [h.1]; exact hq1,by rw [h.2,kn_len]; exact Nat.le_refl _⟩) (by rw [rangeV_length]; decide) (fun i x ys H' Nx hx h kk => ?_) (fun ys H' h Dd hD => ?_)
    · obtain ⟨rfl,rfl⟩ := h
      unfold rangeV at hx
      rw [List.getElem?_map] at hx
      obtain ⟨j,hj,rfl⟩ := Option.map_eq_some_iff.mp hx
      have : j = i := (List.getElem?_range (by have := (List.getElem?_eq_some_iff.mp hj).1; simpa using this)).symm.trans hj |> Option.some.inj |> Eq.symm
      subst this
      refine tTrue_use ⟨_,rfl,_,rfl,rfl,kk _ _ ⟨rfl, ?_⟩⟩
      rw [kn_succ]
      congr 3
      rw [decide_eq_decide]
      constructor
      · intro e
        injection e with e
        omega
      · intro e
        rw [e,Int.zero_add]
    · obtain ⟨rfl,rfl⟩ := h
      have sD := same_of (o := .lst (kn r (rangeV 0 19).length)) hD
      rw [rangeV_length] at sD ⊢
      refine ⟨l,Dd,_,_,rfl,rfl,SqL.of (sD _ _ e1),SqL.of upd_same,kn_flat _ _,kn_flat _ _, ?_⟩
      rw [eqL_refl (kn_flat _ _)]
      exact q _ (s1.trans sD)
end
end K03
namespace L2
open PySem PyProof.Rows
structure XDef (K : PySem.W.Frag) (C : Addr) (qual : Str) (st : Stmt) (ps : List Str) : Prop where
  ex : ∃ fi fd,XMk K C fi ∧ Fun K "__init__" qual st fi fd ∧ Binds K fd ps []
section
variable {P : Program} {w : World} {K : PySem.W.Frag} {mg : Str → Option Value} {base : Heap}
theorem Fun.okQ {x qual : Str} {st : Stmt} {f : Addr} {fd : FuncData} {N ps : List Str} {k : Nat} {sp : Sp} (F : Fun K x qual st f fd) (S : FnScope N ps (defScope st)) (len : ∀ vs H Q E,sp vs H Q E → vs.length = ps.length)
    (hbody : ∀ (cdv : Value) (A : Around) (outer : List Env) (s : Shared) (H : Hp) (vs : List V) (Q : VK) (E : XK),RoomQ k (A.deeper (envOfC qual (defScope st) s.heap.objs.size f cdv)) → HQ (A.deeper (envOfC qual (defScope st) s.heap.objs.size f cdv)) H → sp vs H Q E →
      ∃ t,PSs (cxOfQ CX0 P w K mg base N qual (defScope st) f cdv A outer s H E).nox (defBody st) t ∧ t { nx := fun _ H' => Q .non H',rt := Q } (start N vs) H) : FnOkQ P w K mg base CX0 (k + 1) f fd ps sp := by
  obtain ⟨oc,od,kV,doc,pm,an,cdv,ct,osl,rfl,lk,hcd⟩ := F.ex
  refine fn_ofQ lk hcd S len fun A outer s H vs Q E hr hq hsp => ?_
  obtain ⟨t,h,q⟩ := hbody cdv A outer s H vs Q E hr hq hsp
  exact ⟨t,h.nox,q⟩
end
end L2
namespace K03
open PySem L2 PyProof.Rows
section
variable {P : Program} {w : World} {K : PySem.W.Frag} {mg : Str → Option Value} {base : Heap} {C CH : Addr}
def spBad (C : Addr) : Sp := fun vs H Q _ => ∃ (x : Addr),vs = [.ref x,.int 0] ∧ H x = some (ExcN x C none) ∧ ∀ dx H',H dx = none → dx ≠ x → Chg [x] H H' → H' x = some (ExcN x C (some dx)) → H' dx = some (.xd [("place",.int 0)]) → Q .non H'
theorem bad_len {C : Addr} : ∀ vs H Q E,spBad C vs H Q E → vs.length = ["self","place"].length := fun vs H Q E h => by
  obtain ⟨x,rfl,_⟩ := h
  rfl
theorem ok_bad (D : XDef K C "BadLine.__init__" s_BadLine___init__ ["self","place"]) (U : UpK K CH) (hm : mg "HallError" = some (.ref CH)) (xc : xClass K C = true) (xa : XAttr K C "place") : KnowsE P w K mg base 1 C ["self","place"] (spBad C) := by
  obtain ⟨fi,fd,M,F,hb⟩ := D.ex
  refine ⟨fi,fd,M,hb,F.ok sc_BadLine___init__ bad_len (fun cdv A outer s H vs Q E hr h => ?_)⟩
  obtain ⟨x,rfl,hx,q⟩ := h
  refine ⟨_,by exact (pss_cons (ps_expr (pe_up U hm (pa_c (pv 0) (pa_c (pe_fstr (pj_cons pe_str (pj_cons (pe_fmt (pv 1)) pj_nil))) pa_nil)))) (pss_one (ps_xfld (pv 0) (pv 1) rfl))), ?_⟩
  refine ⟨_,rfl,_,rfl,(by decide),_,rfl,.inr ⟨0,rfl,by decide +kernel,_,rfl,by decide +kernel,by decide +kernel,x,C,_,rfl,hx,xc, ?_⟩⟩
  refine ⟨_,rfl,_,rfl,x,C,rfl,upd_same,xa,fun dx hd hne => ?_⟩
  have hd' : H dx = none := by rw [upd_ne hne] at hd; exact hd
  refine q dx _ hd' hne (fun b o hb e => ?_) ?_ upd_same
  · have hb' : b ≠ x := fun z => hb (by simp [z])
    have hbd : b ≠ dx := ne_of_none e hd'
    rw [upd_ne hbd,upd_ne hb',upd_ne hb']
    exact e
  · rw [upd_ne (Ne.symm hne),upd_same]
theorem ok_badQ (D : XDef K C "BadLine.__init__" s_BadLine___init__ ["self","place"]) (U : UpK K CH) (hm : mg "HallError" = some (.ref CH)) (xc : xClass K C = true) (xa : XAttr K C "place") : KnowsEQ P w K mg base 1 C ["self","place"] (spBad C) := by
  obtain ⟨fi,fd,M,F,hb⟩ := D.ex
  refine ⟨fi,fd,M,hb,F.okQ sc_BadLine___init__ bad_len (fun cdv A outer s H vs Q E hr hq h => ?_)⟩
  obtain ⟨x,rfl,hx,q⟩ := h
  refine ⟨_,by exact (pss_cons (ps_expr (pe_up U hm (pa_c (pv 0) (pa_c (pe_fstr (pj_cons pe_str (pj_cons (pe_fmt (pv 1)) pj_nil))) pa_nil)))) (pss_one (ps_xfld (pv 0) (pv 1) rfl))), ?_⟩
  refine ⟨_,rfl,_,rfl,(by decide),_,rfl,.inr ⟨0,rfl,by decide +kernel,_,rfl,by decide +kernel,by decide +kernel,x,C,_,rfl,hx,xc, ?_⟩⟩
  refine ⟨_,rfl,_,rfl,x,C,rfl,upd_same,xa,fun dx hd hne => ?_⟩
  have hd' : H dx = none := by rw [upd_ne hne] at hd; exact hd
  refine q dx _ hd' hne (fun b o hb e => ?_) ?_ upd_same
  · have hb' : b ≠ x := fun z => hb (by simp [z])
    have hbd : b ≠ dx := ne_of_none e hd'
    rw [upd_ne hbd,upd_ne hb',upd_ne hb']
    exact e
  · rw [upd_ne (Ne.symm hne),upd_same]
end
end K03
namespace K03
open PySem L2 PyProof.Rows
def numI (z : Str) : Int := match numOf (.str z) with
  | .int n => n
  | _ => -1
theorem numOf_two (z : Str) : numOf (.str z) = .non ∨ ∃ n,numOf (.str z) = .int n := by
  unfold numOf
  dsimp only
  split
  · split
    · exact .inl rfl
    · exact .inr ⟨_,rfl⟩
  · exact .inl rfl
theorem among_num (z : Str) {lo hi : Int} (h : 0 ≤ lo) : amongV (numOf (.str z)) lo hi = (decide (lo ≤ numI z) && decide (numI z ≤ hi)) := by
  unfold numI
  rcases numOf_two z with e | ⟨n,e⟩
  · rw [e]
    dsimp only
    rw [decide_eq_false (by omega),Bool.false_and]
    rfl
  · rw [e]
    rfl
def needsIn : List Str → Option (List Str)
  | [] => some []
  | x :: r => if x = "needs" ∧ r ≠ [] then some r else none
def partsV : List (Str × Int × Int) → List Str → List V × List Str
  | [],r => ([],r)
  | p :: ps,[] => (.int p.2.1 :: (partsV ps []).1,(partsV ps []).2)
  | p :: ps,x :: r => if x = p.1 then ((match r with | [] => V.non | n :: _ => numOf (.str n)) :: (partsV ps (r.drop 1)).1,(partsV ps (r.drop 1)).2) else (.int p.2.1 :: (partsV ps (x :: r)).1,(partsV ps (x :: r)).2)
def progR : List (Str × Int × Int) → List Str → Option (List Int × List Str)
  | [],r => (needsIn r).map fun ks => ([],ks)
  | p :: ps,[] => (progR ps []).map fun y => (p.2.1 :: y.1,y.2)
  | p :: ps,x :: r => if x = p.1 then (match r with
      | [] => none
      | n :: r' => if p.2.1 ≤ numI n ∧ numI n ≤ p.2.2 then (progR ps r').map fun y => (numI n :: y.1,y.2) else none)
    else (progR ps (x :: r)).map fun y => (p.2.1 :: y.1,y.2)
def goodBy : List (Str × Int × Int) → List V → Bool
  | p :: ps,v :: vs => amongV v p.2.1 p.2.2 && goodBy ps vs
  | [],[] => true
  | _,_ => false
def okPs (ps : List (Str × Int × Int)) : Prop := ∀ p ∈ ps,0 ≤ p.2.1 ∧ p.2.1 ≤ p.2.2
theorem among_lo {lo hi : Int} (h : lo ≤ hi) : amongV (.int lo) lo hi = true := by
  show (decide (lo ≤ lo) && decide (lo ≤ hi)) = true
  rw [decide_eq_true (Int.le_refl _),decide_eq_true h]; rfl
def Cl (ps : List (Str × Int × Int)) (r : List Str) : Prop := (goodBy ps (partsV ps r).1 = true → ∀ ks,needsIn (partsV ps r).2 = some ks → ∃ ns : List Int,(partsV ps r).1 = ns.map V.int ∧ progR ps r = some (ns,ks)) ∧
    (goodBy ps (partsV ps r).1 = false ∨ needsIn (partsV ps r).2 = none → progR ps r = none)
theorem Cl.step {p : Str × Int × Int} {ps : List (Str × Int × Int)} {R R' : List Str} {m : Int} (ih : Cl ps R') (e1 : partsV (p :: ps) R = (.int m :: (partsV ps R').1,(partsV ps R').2)) (ha : amongV (.int m) p.2.1 p.2.2 = true) (e2 : progR (p :: ps) R = (progR ps R').map fun y => (m :: y.1,y.2)) : Cl (p :: ps) R := by
  unfold Cl
  rw [e1,e2]
  have e3 : goodBy (p :: ps) (.int m :: (partsV ps R').1) = goodBy ps (partsV ps R').1 := by
    show (amongV (.int m) p.2.1 p.2.2 && goodBy ps (partsV ps R').1) = _
    rw [ha,Bool.true_and]
  dsimp only
  rw [e3]
  refine ⟨fun hg ks hk => ?_,fun h => ?_⟩
  · obtain ⟨ns,h1,h2⟩ := ih.1 hg ks hk
    exact ⟨m :: ns,by rw [h1]; rfl,by rw [h2]; rfl⟩
  · rw [ih.2 h]; rfl
theorem Cl.stop {p : Str × Int × Int} {ps : List (Str × Int × Int)} {R q : List Str} {v : V} {vs : List V} (e1 : partsV (p :: ps) R = (v :: vs,q)) (ha : amongV v p.2.1 p.2.2 = false) (e2 : progR (p :: ps) R = none) : Cl (p :: ps) R := by
  unfold Cl
  rw [e1,e2]
  have e3 : goodBy (p :: ps) (v :: vs) = false := by
    show (amongV v p.2.1 p.2.2 && goodBy ps vs) = _
    rw [ha,Bool.false_and]
  dsimp only
  rw [e3]
  exact ⟨fun h => (by cases h),fun _ => rfl⟩
theorem pV_eq (p : Str × Int × Int) (ps : List (Str × Int × Int)) (x : Str) (r : List Str) : partsV (p :: ps) (x :: r) = if x = p.1 then ((match r with | [] => V.non | n :: _ => numOf (.str n)) :: (partsV ps (r.drop 1)).1,(partsV ps (r.drop 1)).2) else (.int p.2.1 :: (partsV ps (x :: r)).1,(partsV ps (x :: r)).2) := rfl
theorem pR_eq (p : Str × Int × Int) (ps : List (Str × Int × Int)) (x : Str) (r : List Str) : progR (p :: ps) (x :: r) = if x = p.1 then (match r with
      | [] => none
      | n :: r' => if p.2.1 ≤ numI n ∧ numI n ≤ p.2.2 then (progR ps r').map fun y => (numI n :: y.1,y.2) else none)
    else (progR ps (x :: r)).map fun y => (p.2.1 :: y.1,y.2) := rfl
theorem partsV_progR : ∀ (ps : List (Str × Int × Int)),okPs ps → ∀ r,Cl ps r
  | [],_,r => by
    have e1 : partsV [] r = ([],r) := by cases r <;> rfl
    have e2 : progR [] r = (needsIn r).map fun ks => ([],ks) := by cases r <;> rfl
    unfold Cl
    rw [e1,e2]
    refine ⟨fun _ ks h => ⟨[],rfl,by rw [show needsIn r = some ks from h]; rfl⟩,fun h => ?_⟩
    rcases h with h | h
    · cases h
    · rw [show needsIn r = none from h]; rfl
  | p :: ps,hp,[] => (partsV_progR ps (fun q hq => hp q (List.mem_cons_of_mem _ hq)) []).step rfl (among_lo (hp p (List.mem_cons_self ..)).2) rfl
  | p :: ps,hp,x :: r => by
    have ih := partsV_progR ps (fun q hq => hp q (List.mem_cons_of_mem _ hq))
    have h0 := (hp p (List.mem_cons_self ..)).1
    by_cases hx : x = p.1
    · cases r with
      | nil => exact .stop (p := p) (ps := ps) (v := .non) (vs := (partsV ps []).1) (q := (partsV ps []).2) (by rw [pV_eq,if_pos hx]; rfl) rfl (by rw [pR_eq,if_pos hx])
      | cons n r =>
        have ha := among_num n (hi := p.2.2) h0
        by_cases hg : p.2.1 ≤ numI n ∧ numI n ≤ p.2.2
        · have e : numOf (.str n) = .int (numI n) := by
            unfold numI
            rcases numOf_two n with z | ⟨m,z⟩
            · have : numI n = -1 := by unfold numI; rw [z]
              omega
            · rw [z]
          refine (ih r).step (m := numI n) (by rw [← e,pV_eq,if_pos hx]; rfl) ?_ (by rw [pR_eq,if_pos hx]; dsimp only; rw [if_pos hg])
          rw [← e,ha,decide_eq_true hg.1,decide_eq_true hg.2]
          rfl
        · refine .stop (p := p) (ps := ps) (v := numOf (.str n)) (vs := (partsV ps r).1) (q := (partsV ps r).2) (by rw [pV_eq,if_pos hx]; rfl) ?_ (by rw [pR_eq,if_pos hx]; dsimp only; rw [if_neg hg])
          rw [ha,Bool.and_eq_false_iff,decide_eq_false_iff_not,decide_eq_false_iff_not]
          by_cases z : p.2.1 ≤ numI n
          · exact .inr fun y => hg ⟨z,y⟩
          · exact .inl z
    · exact (ih (x :: r)).step (m := p.2.1) (by rw [pV_eq,if_neg hx]) (among_lo (hp p (List.mem_cons_self ..)).2) (by rw [pR_eq,if_neg hx])
def split2 : List Str → List Str × Option (List Str)
  | [] => ([],none)
  | [x] => if x = "needs" then ([],some []) else ([x],none)
  | x :: n :: r => if x = "needs" then ([],some (n :: r)) else (x :: n :: (split2 r).1,(split2 r).2)
def findP (x : Str) : List (Str × Int × Int) → Option (Nat × Int × Int)
  | [] => none
  | p :: ps => if p.1 = x then some (0,p.2.1,p.2.2) else (findP x ps).map fun y => (y.1 + 1,y.2)
def lawN : Nat → List (Str × Int × Int) → List Int → List Str → Option (List Int)
  | _,_,acc,[] => some acc
  | _,_,_,[_] => none
  | k,ps,acc,x :: n :: r => match findP x ps with
    | none => none
    | some (j,lo,hi) => if lo ≤ numI n ∧ numI n ≤ hi then lawN (k + j + 1) (ps.drop (j + 1)) (acc.set (k + j) (numI n)) r else none
def lawR (k : Nat) (ps : List (Str × Int × Int)) (acc : List Int) (rest : List Str) : Option (List Int × List Str) := (lawN k ps acc (split2 rest).1).bind fun ns => match (split2 rest).2 with
  | none => some (ns.drop k,[])
  | some [] => none
  | some (x :: r) => some (ns.drop k,x :: r)
theorem lawN_keep : ∀ (r : List Str) (k : Nat) (ps : List (Str × Int × Int)) (acc ns : List Int),lawN k ps acc r = some ns → ns.take k = acc.take k
  | [],k,ps,acc,ns,h => by
    have : some acc = some ns := by rw [← h]; unfold lawN; rfl
    cases this; rfl
  | [x],k,ps,acc,ns,h => by unfold lawN at h; cases h
  | x :: n :: r,k,ps,acc,ns,h => by
    unfold lawN at h
    split at h
    · cases h
    · rename_i j lo hi _
      split at h
      · have ih := lawN_keep r _ _ _ _ h
        have : ns.take k = ((ns.take (k + j + 1)).take k) := by rw [List.take_take]; congr 1; omega
        rw [this,ih,List.take_take,Nat.min_eq_left (by omega)]
        rw [List.take_set]
        refine List.set_eq_of_length_le ?_
        rw [List.length_take]
        omega
      · cases h
theorem lawN_eq (k : Nat) (ps : List (Str × Int × Int)) (acc : List Int) (x n : Str) (r : List Str) : lawN k ps acc (x :: n :: r) = match findP x ps with
    | none => none
    | some (j,lo,hi) => if lo ≤ numI n ∧ numI n ≤ hi then lawN (k + j + 1) (ps.drop (j + 1)) (acc.set (k + j) (numI n)) r else none := by
  conv => lhs; unfold lawN
theorem lawN_nil (k : Nat) (ps : List (Str × Int × Int)) (acc : List Int) : lawN k ps acc [] = some acc := by unfold lawN; rfl
theorem lawN_one (k : Nat) (ps : List (Str × Int × Int)) (acc : List Int) (x : Str) : lawN k ps acc [x] = none := by unfold lawN; rfl
theorem lawN_shift {p : Str × Int × Int} {ps : List (Str × Int × Int)} {k : Nat} {acc : List Int} {x n : Str} {r : List Str} (h : x ≠ p.1) : lawN k (p :: ps) acc (x :: n :: r) = lawN (k + 1) ps acc (x :: n :: r) := by
  rw [lawN_eq,lawN_eq]
  have e : findP x (p :: ps) = (findP x ps).map fun y => (y.1 + 1,y.2) := by
    show (if p.1 = x then _ else _) = _
    rw [if_neg (Ne.symm h)]
  rw [e]
  cases findP x ps with
  | none => rfl
  | some y =>
    obtain ⟨j,lo,hi⟩ := y
    show (if lo ≤ numI n ∧ numI n ≤ hi then lawN (k + (j + 1) + 1) ((p :: ps).drop (j + 1 + 1)) (acc.set (k + (j + 1)) (numI n)) r else none) = _
    have e1 : k + (j + 1) + 1 = k + 1 + j + 1 := by omega
    have e2 : k + (j + 1) = k + 1 + j := by omega
    rw [e1,e2]
    rfl
theorem drop_step {ns acc : List Int} {k : Nat} {m : Int} (h : ns.take (k + 1) = acc.take (k + 1)) (hm : acc[k]? = some m) : ns.drop k = m :: ns.drop (k + 1) := by
  have h1 : ns[k]? = some m := by
    have : (ns.take (k + 1))[k]? = (acc.take (k + 1))[k]? := by rw [h]
    rw [List.getElem?_take_of_lt (by omega),List.getElem?_take_of_lt (by omega)] at this
    rw [this,hm]
  obtain ⟨hk,e⟩ := List.getElem?_eq_some_iff.mp h1
  rw [List.drop_eq_getElem_cons hk,e]
theorem prog_law : ∀ (ps : List (Str × Int × Int)) (k : Nat) (acc : List Int) (rest : List Str),(∀ p ∈ ps,p.1 ≠ "needs") → (ps.map (·.1)).Nodup → acc.drop k = ps.map (·.2.1) → acc.length = k + ps.length → progR ps rest = lawR k ps acc rest
  | [],k,acc,rest,_,_,hd,_ => by
    have e2 : progR [] rest = (needsIn rest).map fun ks => ([],ks) := by cases rest <;> rfl
    have hd' : acc.drop k = [] := hd
    rw [e2]
    unfold lawR
    match rest with
    | [] => rw [show split2 [] = ([],none) from rfl]; dsimp only; rw [lawN_nil]; show some ([],[]) = some (acc.drop k,[]); rw [hd']
    | [x] =>
      by_cases hx : x = "needs"
      · rw [show split2 [x] = ([],some []) from if_pos hx]; dsimp only; rw [lawN_nil]; show (needsIn [x]).map _ = none; rw [show needsIn [x] = none from if_neg fun z => z.2 rfl]; rfl
      · rw [show split2 [x] = ([x],none) from if_neg hx]; dsimp only; rw [lawN_one,show needsIn [x] = none from if_neg fun z => hx z.1]; rfl
    | x :: n :: r =>
      by_cases hx : x = "needs"
      · rw [show split2 (x :: n :: r) = ([],some (n :: r)) from if_pos hx]; dsimp only; rw [lawN_nil,show needsIn (x :: n :: r) = some (n :: r) from if_pos ⟨hx,by simp⟩]; show some ([],n :: r) = some (acc.drop k,n :: r); rw [hd']
      · rw [show split2 (x :: n :: r) = (x :: n :: (split2 r).1,(split2 r).2) from if_neg hx]; dsimp only; rw [lawN_eq,show findP x [] = none from rfl,show needsIn (x :: n :: r) = none from if_neg fun z => hx z.1]; rfl
  | p :: ps,k,acc,rest,hn,nd,hd,hl => by
    have hn' : ∀ q ∈ ps,q.1 ≠ "needs" := fun q hq => hn q (List.mem_cons_of_mem _ hq)
    have nd' : (ps.map (·.1)).Nodup := (List.nodup_cons.mp nd).2
    have hlen : acc.length = k + 1 + ps.length := by rw [hl,List.length_cons]; omega
    have hk : acc[k]? = some p.2.1 := by
      have : (acc.drop k)[0]? = some p.2.1 := by rw [hd]; rfl
      rwa [List.getElem?_drop] at this
    have hd' : acc.drop (k + 1) = ps.map (·.2.1) := by
      have : (acc.drop k).drop 1 = ps.map (·.2.1) := by rw [hd]; rfl
      rwa [List.drop_drop] at this
    have np := hn p (List.mem_cons_self ..)
    have fin : ∀ (ac : List Int) (m : Int) (a : List Str) (b : Option (List Str)),ac[k]? = some m → ((lawN (k + 1) ps ac a).bind fun ns => match b with
        | none => some (ns.drop k,[])
        | some [] => none
        | some (x :: r) => some (ns.drop k,x :: r)) = (((lawN (k + 1) ps ac a).bind fun ns => match b with
        | none => some (ns.drop (k + 1),[])
        | some [] => none
        | some (x :: r) => some (ns.drop (k + 1),x :: r))).map fun y => (m :: y.1,y.2) := fun ac m a b hm => by
      cases e : lawN (k + 1) ps ac a with
      | none => rfl
      | some ns =>
        have := drop_step (lawN_keep _ _ _ _ _ e) hm
        dsimp only [Option.bind]
        match b with
        | none => rw [this]; rfl
        | some [] => rfl
        | some (x :: r) => rw [this]; rfl
    match rest with
    | [] =>
      have ih := prog_law ps (k + 1) acc [] hn' nd' hd' hlen
      show (progR ps []).map _ = _
      rw [ih]
      unfold lawR
      rw [show split2 [] = ([],none) from rfl]
      have := fin acc p.2.1 [] none hk
      dsimp only at this ⊢
      rw [lawN_nil] at this ⊢
      exact this.symm
    | [x] =>
      have ih := prog_law ps (k + 1) acc [x] hn' nd' hd' hlen
      by_cases hx : x = p.1
      · rw [pR_eq,if_pos hx]
        have hx' : x ≠ "needs" := fun z => np (hx ▸ z)
        unfold lawR
        rw [show split2 [x] = ([x],none) from if_neg hx']
        dsimp only
        rw [lawN_one]
        rfl
      · rw [pR_eq,if_neg hx,ih]
        unfold lawR
        have := fin acc p.2.1 (split2 [x]).1 (split2 [x]).2 hk
        rw [← this]
        by_cases hx' : x = "needs"
        · rw [show split2 [x] = ([],some []) from if_pos hx']
          dsimp only
          rw [lawN_nil,lawN_nil]
        · rw [show split2 [x] = ([x],none) from if_neg hx']
          dsimp only
          rw [lawN_one,lawN_one]
    | x :: n :: r =>
      by_cases hx : x = p.1
      · have hx' : x ≠ "needs" := fun z => np (hx ▸ z)
        rw [pR_eq,if_pos hx]
        dsimp only
        unfold lawR
        rw [show split2 (x :: n :: r) = (x :: n :: (split2 r).1,(split2 r).2) from if_neg hx']
        dsimp only
        rw [lawN_eq,show findP x (p :: ps) = some (0,p.2.1,p.2.2) from if_pos hx.symm]
        dsimp only
        by_cases hg : p.2.1 ≤ numI n ∧ numI n ≤ p.2.2
        · rw [if_pos hg,if_pos hg]
          have hk' : k < acc.length := by rw [hl,List.length_cons]; omega
          have ih := prog_law ps (k + 1) (acc.set k (numI n)) r hn' nd' (by rw [List.drop_set_of_lt (by omega)]; exact hd') (by rw [List.length_set]; exact hlen)
          rw [ih]
          have := fin (acc.set k (numI n)) (numI n) (split2 r).1 (split2 r).2 (by rw [List.getElem?_set_self hk'])
          exact this.symm
        · rw [if_neg hg,if_neg hg]
          rfl
      · have ih := prog_law ps (k + 1) acc (x :: n :: r) hn' nd' hd' hlen
        rw [pR_eq,if_neg hx,ih]
        unfold lawR
        have := fin acc p.2.1 (split2 (x :: n :: r)).1 (split2 (x :: n :: r)).2 hk
        rw [← this]
        by_cases hx' : x = "needs"
        · rw [show split2 (x :: n :: r) = ([],some (n :: r)) from if_pos hx']
          dsimp only
          rw [lawN_nil,lawN_nil]
        · rw [show split2 (x :: n :: r) = (x :: n :: (split2 r).1,(split2 r).2) from if_neg hx']
          dsimp only
          rw [lawN_shift hx]
end K03
namespace K03
open PySem L2 PyProof.Rows
theorem cut_to (xs : List V) (n : Nat) : cutV xs none (some (n : Int)) = xs.take n := by
  unfold cutV
  rw [HT.sIx_nat,HT.sIx_none,List.drop_zero,Nat.sub_zero]
  by_cases h : n ≤ xs.length
  · rw [Nat.min_eq_left h]
  · rw [Nat.min_eq_right (by omega),List.take_of_length_le (Nat.le_refl _),List.take_of_length_le (by omega)]
theorem cut_from (xs : List V) (n : Nat) : cutV xs (some (n : Int)) none = xs.drop n := by
  unfold cutV
  rw [HT.sIx_nat,HT.sIx_none]
  by_cases h : n ≤ xs.length
  · rw [Nat.min_eq_left h,List.take_of_length_le (by rw [List.length_drop]; exact Nat.le_refl _)]
  · rw [Nat.min_eq_right (by omega),Nat.sub_self,List.take_zero,List.drop_eq_nil_of_le (by omega)]
structure JForms (K : PySem.W.Frag) (fd : FuncData) : Prop where
  f7 : BT K fd jps 7 [] [.p 0,.p 1,.p 2,.p 3,.p 4,.p 5,.p 6]
theorem made_same {H H' : Hp} {x dx : Addr} {u v : HO} (hx : H x = none) (hdx : H dx = none) (ch : Chg [x] (upd (upd H dx u) x v) H') : Same H H' := fun b o e => by
  have n1 : b ≠ x := ne_of_none e hx
  have n2 : b ≠ dx := ne_of_none e hdx
  exact ch b o (by simp [n1]) (by rw [upd_ne n1,upd_ne n2]; exact e)
theorem same_none {H H' : Hp} (s : Same H H') {p : Addr} (h : H' p = none) : H p = none := by
  cases e : H p with
  | none => rfl
  | some u => rw [s _ _ e] at h; cases h
def EB (E : XK) (CB : Addr) (H : Hp) : Prop := ∀ dx H',Same H H' → H dx = none → H' dx = some (.xd [("place",.int 0)]) → E (.ref CB) (some dx) H'
theorem EB.same {E : XK} {CB : Addr} {H H1 : Hp} (h : EB E CB H) (s : Same H H1) : EB E CB H1 := fun dx H' s' hd e => h dx H' (s.trans s') (same_none s hd) e
theorem bad_mk {E : XK} {CB : Addr} {H : Hp} {x : Addr} (hx : H x = none) (e : EB E CB H) : spBad CB [.ref x,.int 0] (upd H x (ExcN x CB none)) (fun v H2 => v = .non ∧ ∃ od,H2 x = some (ExcN x CB od) ∧ E (.ref CB) od (del H2 x)) E0 := by
  refine ⟨x,rfl,upd_same,fun dx H' hd hne ch e1 e2 => ⟨rfl,some dx,e1,e dx (del H' x) (fun b o eb => ?_) ?_ ?_⟩⟩
  · have nb : b ≠ x := ne_of_none eb hx
    rw [del_ne nb]
    exact ch b o (by simp [nb]) (by rw [upd_ne nb]; exact eb)
  · rw [upd_ne hne] at hd; exact hd
  · rw [del_ne hne]; exact e2
theorem bad_mkQ {E : XK} {CB a C1 : Addr} {od1 : Option Addr} {H : Hp} {x : Addr} (ha : H a = some (ExcD a C1 od1)) (hx : H x = none) (e : EB E CB H) : spBad CB [.ref x,.int 0] (upd H x (ExcN x CB none)) (fun v H2 => v = .non ∧ (∃ C1 od1,H2 a = some (ExcD a C1 od1)) ∧ ∃ dx,H2 x = some (ExcN x CB (some dx)) ∧ E (.ref CB) (some dx) (del H2 x)) E0 := by
  refine ⟨x,rfl,upd_same,fun dx H' hd hne ch e1 e2 => ⟨rfl,⟨C1,od1, ?_⟩,dx,e1,e dx (del H' x) (fun b o eb => ?_) ?_ ?_⟩⟩
  · have nb : a ≠ x := ne_of_none ha hx
    exact ch a _ (by simp [nb]) (by rw [upd_ne nb]; exact ha)
  · have nb : b ≠ x := ne_of_none eb hx
    rw [del_ne nb]
    exact ch b o (by simp [nb]) (by rw [upd_ne nb]; exact eb)
  · rw [upd_ne hne] at hd; exact hd
  · rw [del_ne hne]; exact e2
theorem nI_pos {x n : Str} {r : List Str} (h : x = "needs") : needsIn (x :: n :: r) = some (n :: r) := by
  unfold needsIn
  dsimp only
  rw [if_pos ⟨h,by simp⟩]
theorem nI_one (x : Str) : needsIn [x] = none := by
  unfold needsIn
  dsimp only
  rw [if_neg fun z => z.2 rfl]
theorem nI_neg {x : Str} {r : List Str} (h : x ≠ "needs") : needsIn (x :: r) = none := by
  unfold needsIn
  dsimp only
  rw [if_neg fun z => h z.1]
def Short (ws : List Str) : Prop := ∀ z ∈ ws,z.length ≤ 100000
theorem Short.drop {ws : List Str} (h : Short ws) (n : Nat) : Short (ws.drop n) := fun z hz => h z (List.mem_of_mem_drop hz)
def behind : List Str → V
  | _ :: n :: _ => numOf (.str n)
  | _ => .non
section
variable {P : Program} {w : World} {K : PySem.W.Frag} {mg : Str → Option Value} {base : Heap} {C CH CB : Addr} {D : Nat → Addr}
def spBehind : Sp := fun vs H Q _ => ∃ (l : Addr) (ws : List Str),vs = [.ref l] ∧ H l = some (.lst (ws.map V.str)) ∧ Short ws ∧ ∀ H',Same H H' → Q (behind ws) H'
theorem ok_behind (Df : Def K mg "number_behind" s_number_behind ["words"]) (B : Bltn mg) (k_number_of : Knows P w K mg base 2 "number_of" ["word"] (sp_number_of K)) : Knows P w K mg base 3 "number_behind" ["words"] spBehind := by
  refine Df.ok sc_number_behind (fun vs H Q E h => ?_) (fun f cdv A outer s H vs Q E hr h => ?_)
  · obtain ⟨l,ws,rfl,_⟩ := h
    rfl
  · obtain ⟨l,ws,rfl,hl,sh,q⟩ := h
    refine ⟨_,by exact (pss_one (ps_ret (pe_ifExp (pt_cmpR op_gt (pe_bcall call_len_seq rfl B.len PySem.boot_len (pa_c (pv 0) pa_nil)) pe_int (nomark _)) (pe_callM k_number_of hr (pa_c (pe_ix ix_list (pv 0) pe_int (fun _ _ => rfl)) pa_nil)) pe_non))), ?_⟩
    refine ⟨_,rfl,l,_,rfl,.inl (SqL.of hl),_,_,rfl,rfl,_,rfl, ?_⟩
    match ws,hl,sh,q with
    | [],hl,sh,q => exact iteF (q H (Same.refl _))
    | [x],hl,sh,q => exact iteF (q H (Same.refl _))
    | x :: n :: r,hl,sh,q =>
      refine ite_of (d := true) (decide_eq_true (by rw [List.length_map]; show (1 : Int) < ((r.length + 1 + 1 : Nat) : Int); omega)) (fun _ => ?_) (fun z => by cases z)
      exact ⟨_,rfl,l,_,_,_,rfl,rfl,SqL.of hl,atI_nat (j := 1) rfl,_,rfl,Any.str (sh n (by simp)),q⟩
def spNeedsIn (CB : Addr) : Sp := fun vs H Q E => ∃ (l : Addr) (ws : List Str),vs = [.ref l] ∧ H l = some (.lst (ws.map V.str)) ∧ (∀ ks,needsIn ws = some ks → ∀ p H',H p = none → Same H H' → H' p = some (.lst (ks.map V.str)) → Q (.ref p) H') ∧ (needsIn ws = none → EB E CB H)
theorem ok_needs_in (Df : Def K mg "needs_in" s_needs_in ["words"]) (B : Bltn mg) (gB : mg "BadLine" = some (.ref CB)) (k_bad : KnowsE P w K mg base 1 CB ["self","place"] (spBad CB)) : KnowsX P w K mg base 3 "needs_in" ["words"] (spNeedsIn CB) := by
  refine Df.okX sc_needs_in (fun vs H Q E h => ?_) (fun f cdv A outer s H vs Q E hr h => ?_)
  · obtain ⟨l,ws,rfl,_⟩ := h
    rfl
  · obtain ⟨l,ws,rfl,hl,q,e⟩ := h
    refine ⟨_,by exact (pss_cons (ps_if (pt_not (pt_truth (pv 0) (fun _ => rfl))) (pss_one (ps_ret (pe_lst pa_nil))) pss_nil)
      (pss_cons (ps_if (PW.pt (pw_or (pt_cmpR op_ne (pe_ix ix_list (pv 0) pe_int (fun _ _ => rfl)) pe_str (nomark _)) (pw_or1 (pt_cmpR op_eq (pe_bcall call_len_seq rfl B.len PySem.boot_len (pa_c (pv 0) pa_nil)) pe_int (nomark _))))) (pss_one (ps_raiseI k_bad hr gB (pa_c pe_int pa_nil))) pss_nil)
      (pss_one (ps_ret (pe_slice sl_list (pv 0) (po_some pe_int) po_none))))), ?_⟩
    have rz : ∀ (σ : L2.St) (D : Ends),needsIn ws = none → tRaiseI CB (spBad CB) E (tCons (tC (.int 0)) tNil) D σ H := fun _ _ hn => ⟨by show 1 ≤ sizeLine; decide,fun x hx => bad_mk hx (e hn)⟩
    match ws,hl,q,e,rz with
    | [],hl,q,e,rz =>
      refine ⟨_,rfl,_,.inl ⟨_,SqL.of hl,rfl⟩,iteT ⟨by show 0 ≤ sizeLine; decide,fun p hp => ?_⟩⟩
      exact q [] rfl p _ hp (same_of hp) upd_same
    | [x],hl,q,e,rz =>
      refine ⟨_,rfl,_,.inl ⟨_,SqL.of hl,rfl⟩,iteF ?_⟩
      have hn : needsIn [x] = none := nI_one x
      refine ⟨_,rfl,l,_,_,_,rfl,rfl,SqL.of hl,atI_nat (j := 0) rfl,rfl,_,rfl, ?_⟩
      refine ite_of (d := !decide (V.str x = V.str "needs")) rfl (fun _ => iteT (rz _ _ hn)) (fun _ => ?_)
      exact ⟨_,rfl,l,_,rfl,.inl (SqL.of hl),rfl,_,rfl,iteT (rz _ _ hn)⟩
    | x :: n :: r,hl,q,e,rz =>
      refine ⟨_,rfl,_,.inl ⟨_,SqL.of hl,rfl⟩,iteF ?_⟩
      refine ⟨_,rfl,l,_,_,_,rfl,rfl,SqL.of hl,atI_nat (j := 0) rfl,rfl,_,rfl, ?_⟩
      by_cases hx : x = "needs"
      · subst hx
        refine ite_of (d := false) (by rw [decide_eq_true rfl]; rfl) (fun z => by cases z) (fun _ => ?_)
        refine ⟨_,rfl,l,_,rfl,.inl (SqL.of hl),rfl,_,rfl, ?_⟩
        refine ite_of (d := false) (decide_eq_false fun z => ?_) (fun z => by cases z) (fun _ => ?_)
        · injection z with z
          rw [List.length_map] at z
          have : ((r.length + 1 + 1 : Nat) : Int) = 1 := z
          omega
        · refine ⟨_,rfl,_,rfl,l,_,rfl,SqL.of hl,fun p hp => ?_⟩
          refine q (n :: r) (nI_pos rfl) p _ hp (same_of hp) ?_
          rw [upd_same,show (some (1 : Int)) = some ((1 : Nat) : Int) from rfl,cut_from]
          rfl
      · refine ite_of (d := true) (by rw [decide_eq_false (fun z => hx (by injection z))]; rfl) (fun _ => iteT (rz _ _ (nI_neg hx))) (fun z => by cases z)
def spJobBy (K : PySem.W.Frag) (C CB : Addr) : Sp := fun vs H Q E => ∃ (z : Str) (nl vl : Addr) (ks : List Str) (v1 v2 v3 v4 v5 : V),vs = [.str z,.ref nl,.ref vl] ∧ z.length ≤ 100000 ∧ H nl = some (.lst (ks.map V.str)) ∧ ks.length ≤ 1000 ∧ Short ks ∧ H vl = some (.lst [v1,v2,v3,v4,v5]) ∧ (∀ y ∈ [v1,v2,v3,v4,v5],Any K H y) ∧
  (∀ a b c d e : Int,isName z = true → okNeeds z (ks.map V.str) = true → okNums [v1,v2,v3,v4,v5] → v1 = .int a → v2 = .int b → v3 = .int c → v4 = .int d → v5 = .int e → ∀ p l H',H p = none → H l = none → Same H H' → JobL C H' p l ⟨z,ks,a,b,c,d,e⟩ → Q (.ref p) H') ∧
  (¬ (isName z = true ∧ okNeeds z (ks.map V.str) = true ∧ okNums [v1,v2,v3,v4,v5]) → EB E CB H)
theorem ok_job_by (Df : Def K mg "job_by" s_job_by ["name","needs","numbers"]) (J : JCls K mg C) (gH : mg "HallError" = some (.ref CH)) (gB : mg "BadLine" = some (.ref CB)) (ex : ∀ r,r < 3 → PySem.W.exmOne K (.ref (D r)) (.ref CH) = some true) (kj : KnowsIB (CX1 P w base) P w K mg base 5 C jps (spJob K C D) JForms)
    (k_badQ : KnowsEQ P w K mg base 1 CB ["self","place"] (spBad CB)) : KnowsX P w K mg base 7 "job_by" ["name","needs","numbers"] (spJobBy K C CB) := by
  refine Df.okX sc_job_by (fun vs H Q E h => ?_) (fun f cdv A outer s H vs Q E hr h => ?_)
  · obtain ⟨z,nl,vl,ks,v1,v2,v3,v4,v5,rfl,_⟩ := h
    rfl
  · obtain ⟨z,nl,vl,ks,v1,v2,v3,v4,v5,rfl,hz,hn,hk,sk,hv,an,q,eb⟩ := h
    refine ⟨_,by exact (pss_one (ps_tryQ rfl rfl gH (fun a => PassesOwnAt.leaving) (fun Eb pn xe hL => pss_one (ps_ret (pe_makeBS kj (fun _ h => h.f7) hr J.mgC hL (pa_c (pv 0) (pa_c (pv 1) (pa_c (pe_ix (ix_listC (K0 := K) rfl) (pv 2) pe_int (fun _ _ => rfl)) (pa_c (pe_ix (ix_listC (K0 := K) rfl) (pv 2) pe_int (fun _ _ => rfl)) (pa_c (pe_ix (ix_listC (K0 := K) rfl) (pv 2) pe_int (fun _ _ => rfl)) (pa_c (pe_ix (ix_listC (K0 := K) rfl) (pv 2) pe_int (fun _ _ => rfl)) (pa_c (pe_ix (ix_listC (K0 := K) rfl) (pv 2) pe_int (fun _ _ => rfl)) pa_nil))))))) pk_nil))) (fun a => pss_one (ps_raiseF k_badQ hr gB (pa_c pe_int pa_nil))))), ?_⟩
    refine ⟨fun σ' c od H' => (∃ r,r < 3 ∧ c = .ref (D r)) ∧ od = none ∧ Same H H' ∧ EB E CB H, ?_, ?_⟩
    · refine ⟨_,rfl,_,rfl,_,rfl,vl,_,_,_,rfl,rfl,SqL.of hv,atI_nat (j := 0) rfl,_,rfl,vl,_,_,_,rfl,rfl,SqL.of hv,atI_nat (j := 1) rfl,_,rfl,vl,_,_,_,rfl,rfl,SqL.of hv,atI_nat (j := 2) rfl,_,rfl,vl,_,_,_,rfl,rfl,SqL.of hv,atI_nat (j := 3) rfl,_,rfl,vl,_,_,_,rfl,rfl,SqL.of hv,atI_nat (j := 4) rfl,rfl,rfl,fun x dx hx hdx hne => ?_⟩
      have sy : Same H (upd (upd H dx (.own x)) x (.ins C dx [])) := fun b o e => by
        rw [upd_ne (ne_of_none e hx),upd_ne (ne_of_none e hdx)]
        exact e
      have fin : ∀ r,r < 3 → EB E CB H → ∀ H',Same (upd (upd H dx (.own x)) x (.ins C dx [])) H' → (∃ r',r' < 3 ∧ Value.ref (D r) = .ref (D r')) ∧ (none : Option Addr) = none ∧ Same H H' ∧ EB E CB H := fun r hr' e H' s' => ⟨⟨r,hr',rfl⟩,rfl,sy.trans s',e⟩
      refine ⟨x,dx,.str z,.ref nl,v1,v2,v3,v4,v5,rfl,upd_same,Any.str hz,fun y hy => (an y hy).same sy,fun hm H' s' => fin 0 (by decide) (eb fun y => ?_) H' s',fun hm => ?_⟩
      · rw [show isName z = false from hm] at y
        cases y.1
      cases ho : okNeeds z (ks.map V.str) with
      | true =>
        refine ⟨z,some ks,rfl,.good (.inl (sy _ _ hn)) hk ho sk,fun h => (by cases h),fun ks' e => ?_⟩
        cases e
        exact ⟨fun n H' s' => fin 2 (by decide) (eb fun y => n y.2.2) H' s',fun a b c d e e1 e2 e3 e4 e5 ok l H' hl j ch => ⟨rfl,q a b c d e hm ho ok e1 e2 e3 e4 e5 x l H' hx (same_none sy hl) (made_same hx hdx ch) j⟩⟩
      | false =>
        refine ⟨z,none,rfl,.bad (.inl (sy _ _ hn)) (fun y hy => ?_) (by rw [List.length_map]; exact hk) ho,fun _ H' s' => fin 1 (by decide) (eb fun y => ?_) H' s',fun ks' e => (by cases e)⟩
        · obtain ⟨k,hk',rfl⟩ := List.mem_map.mp hy
          exact Any.str (sk k hk')
        · rw [ho] at y
          cases y.2.1
    · rintro σ' c od oc H' ⟨⟨r,hr',ec⟩,rfl,s1,e⟩ oz xc
      cases ec
      cases oz rfl
      refine ⟨ex r hr',fun a ha => ?_⟩
      exact ⟨by show 1 ≤ sizeLine; decide,⟨_,_,upd_same⟩,fun x hx => bad_mkQ upd_same hx (e.same (s1.trans (same_of ha)))⟩
end
end K03
namespace K03
open PySem L2 PyProof.Rows WM
theorem splitC_part (c : Nat) : ∀ (l : List Nat) (p : List Nat),p ∈ splitC c l → p.length ≤ l.length
  | [],p,h => by
    have : p = [] := by simpa [splitC] using h
    rw [this]; exact Nat.le_refl _
  | d :: r,p,h => by
    have ih := splitC_part c r
    have hne := splitC_ne c r
    have e : splitC c (d :: r) = if d = c then [] :: splitC c r else match splitC c r with | [] => [[d]] | q :: qs => (d :: q) :: qs := rfl
    rw [e] at h
    by_cases hd : d = c
    · rw [if_pos hd] at h
      rcases List.mem_cons.mp h with rfl | h
      · exact Nat.zero_le _
      · exact Nat.le_trans (ih p h) (Nat.le_succ _)
    · rw [if_neg hd] at h
      cases hS : splitC c r with
      | nil => exact absurd hS hne
      | cons q qs =>
        rw [hS] at h ih
        rcases List.mem_cons.mp h with rfl | h
        · have := ih q List.mem_cons_self
          simp only [List.length_cons]
          omega
        · exact Nat.le_trans (ih p (List.mem_cons_of_mem _ h)) (Nat.le_succ _)
theorem parts_short (z : Str) : ∀ p ∈ partsOf z,p.length ≤ z.length := fun p hp => by
  obtain ⟨q,hq,rfl⟩ := List.mem_map.mp hp
  have h1 := splitC_part 32 z.cps.toList q hq
  show q.toArray.size ≤ z.cps.size
  rw [List.size_toArray]
  rwa [Array.length_toList] at h1
theorem parts_few (z : Str) : (partsOf z).length ≤ z.length + 1 := by
  have h1 := splitC_len 32 z.cps.toList
  unfold partsOf
  rw [List.length_map]
  rwa [Array.length_toList] at h1
def jobOf (z : Str) : Option (Str × List Str × List Int) := match wordsOf (.str z) with
  | some (j :: nm :: rest) => if j = "job" ∧ isName nm = true then (match progR pw rest with
      | some (ns,ks) => if okNeeds nm (ks.map V.str) = true then some (nm,ks,ns) else none
      | none => none) else none
  | _ => none
theorem goodBy_iff {v1 v2 v3 v4 v5 : V} : goodBy pw [v1,v2,v3,v4,v5] = true ↔ okNums [v1,v2,v3,v4,v5] := by
  have e : goodBy pw [v1,v2,v3,v4,v5] = (amongV v1 0 99 && (amongV v2 1 1000 && (amongV v3 1 20 && (amongV v4 0 1000 && (amongV v5 1 4 && true))))) := rfl
  rw [e]
  simp only [Bool.and_eq_true,and_true]
  constructor
  · rintro ⟨h1,h2,h3,h4,h5⟩ i w lo hi y hp hy
    match i,hp,hy with
    | 0,hp,hy => cases hp; cases hy; exact h1
    | 1,hp,hy => cases hp; cases hy; exact h2
    | 2,hp,hy => cases hp; cases hy; exact h3
    | 3,hp,hy => cases hp; cases hy; exact h4
    | 4,hp,hy => cases hp; cases hy; exact h5
    | i + 5,hp,hy => cases hy
  · intro h
    exact ⟨h 0 _ _ _ _ rfl rfl,h 1 _ _ _ _ rfl rfl,h 2 _ _ _ _ rfl rfl,h 3 _ _ _ _ rfl rfl,h 4 _ _ _ _ rfl rfl⟩
theorem okPs_pw : okPs pw := by
  intro p hp
  simp only [pw,List.mem_cons,List.not_mem_nil,or_false] at hp
  rcases hp with rfl | rfl | rfl | rfl | rfl <;> decide
def NV (y : V) : Prop := y = .non ∨ ∃ n : Int,y = .int n
theorem NV.any {K : PySem.W.Frag} {H : Hp} {y : V} (h : NV y) : Any K H y := by
  rcases h with rfl | ⟨n,rfl⟩
  · exact ⟨⟨_,.non⟩,fun _ e => by cases e⟩
  · exact Any.int
theorem pV_pos (wd : Str) (lh : Int × Int) (ps : List (Str × Int × Int)) (r : List Str) : partsV ((wd,lh) :: ps) (wd :: r) = (behind (wd :: r) :: (partsV ps (r.drop 1)).1,(partsV ps (r.drop 1)).2) := by
  rw [pV_eq,if_pos rfl]
  cases r <;> rfl
theorem needsIn_sub {rs ks : List Str} (h : needsIn rs = some ks) : ks.length ≤ rs.length ∧ ∀ k ∈ ks,k ∈ rs := by
  cases rs with
  | nil => cases h; exact ⟨Nat.le_refl _,fun k hk => hk⟩
  | cons x r =>
    unfold needsIn at h
    dsimp only at h
    split at h
    · cases h
      exact ⟨Nat.le_succ _,fun k hk => by simp [hk]⟩
    · cases h
theorem behind_nv (x : Str) (r : List Str) : NV (behind (x :: r)) := by
  cases r with
  | nil => exact .inl rfl
  | cons n r => exact numOf_two n
theorem pwSome {i : Nat} (h : i < 5) : ∃ w lo hi,pw[i]? = some (w,lo,hi) ∧ pw.drop i = (w,lo,hi) :: pw.drop (i + 1) := by
  match i,h with
  | 0,_ => exact ⟨_,_,_,rfl,rfl⟩
  | 1,_ => exact ⟨_,_,_,rfl,rfl⟩
  | 2,_ => exact ⟨_,_,_,rfl,rfl⟩
  | 3,_ => exact ⟨_,_,_,rfl,rfl⟩
  | 4,_ => exact ⟨_,_,_,rfl,rfl⟩
section
variable {P : Program} {w : World} {K : PySem.W.Frag} {mg : Str → Option Value} {base : Heap} {C CH CB : Addr} {D : Nat → Addr}
def spJobOf (K : PySem.W.Frag) (C CB : Addr) : Sp := fun vs H Q E => ∃ x : V,vs = [x] ∧ Any K H x ∧ (∀ z,x = .str z → z.length ≤ 900) ∧
  (∀ z nm ks a b c d e,x = .str z → jobOf z = some (nm,ks,[a,b,c,d,e]) → ∀ p l H',H p = none → H l = none → Same H H' → JobL C H' p l ⟨nm,ks,a,b,c,d,e⟩ → Q (.ref p) H') ∧
  ((∀ z,x = .str z → jobOf z = none) → EB E CB H)
theorem ok_job_of (Df : Def K mg "job_of" s_job_of ["line"]) (B : Bltn mg) (PK : PartsK K mg) (gB : mg "BadLine" = some (.ref CB)) (k_bad : KnowsE P w K mg base 1 CB ["self","place"] (spBad CB)) (k_words_of : Knows P w K mg base 1 "words_of" ["line"] (sp_words_of K))
    (k_number_behind : Knows P w K mg base 3 "number_behind" ["words"] spBehind) (k_needs_in : KnowsX P w K mg base 3 "needs_in" ["words"] (spNeedsIn CB)) (k_job_by : KnowsX P w K mg base 7 "job_by" ["name","needs","numbers"] (spJobBy K C CB)) : KnowsX P w K mg base 8 "job_of" ["line"] (spJobOf K C CB) := by
  refine Df.okX sc_job_of (fun vs H Q E h => ?_) (fun f cdv A outer s H vs Q E hr h => ?_)
  · obtain ⟨x,rfl,_⟩ := h
    rfl
  · obtain ⟨x,rfl,ax,sx,q,e⟩ := h
    have hu := hr.units0
    obtain ⟨T,ps,hmg,hpl,hT,hp⟩ := PK.ex
    refine ⟨_,by exact (pss_cons (ps_set (i := 1) sc_job_of.nd rfl (Or.inl rfl) (pe_callM k_words_of hr (pa_c (pv 0) pa_nil)))
      (pss_cons (ps_if (PW.pt (pw_or (pt_cmpR op_isN (pv 1) pe_non (nomark _)) (pw_or (pt_cmpR op_lt (pe_bcall call_len_seq rfl B.len PySem.boot_len (pa_c (pv 1) pa_nil)) pe_int (nomark _)) (pw_or1 (pt_cmpR op_ne (pe_ix ix_list (pv 1) pe_int (fun _ _ => rfl)) pe_str (nomark _)))))) (pss_one (ps_raiseI k_bad hr gB (pa_c pe_int pa_nil))) pss_nil)
      (pss_cons (ps_set (i := 2) sc_job_of.nd rfl (Or.inl rfl) (pe_lst pa_nil))
      (pss_cons (ps_set (i := 3) sc_job_of.nd rfl (Or.inl rfl) (pe_slice sl_list (pv 1) (po_some pe_int) po_none))
      (pss_cons (ps_for PassesOwn.leaving rfl (pi_tup (pe_glob (v := .ref T) rfl hmg rfl)) (pg_name (i := 4) sc_job_of.nd rfl (Or.inl rfl)) (pss_one (ps_if (pt_cmpR (op_eqL hu) (pe_slice sl_list (pv 3) po_none (po_some pe_int)) (pe_lst (pa_c (pe_ix ix_tup (pv 4) pe_int (fun _ _ => rfl)) pa_nil)) (nomark _)) (pss_cons (ps_expr (pe_mcall PySem.F.plainAttrs_list PySem.F.slot_list_append PySem.F.type_list_append mt_append (pv 2) (pa_c (pe_callM k_number_behind hr (pa_c (pv 3) pa_nil)) pa_nil)))
      (pss_one (ps_set (i := 3) sc_job_of.nd rfl (Or.inl rfl) (pe_slice sl_list (pv 3) (po_some pe_int) po_none)))) (pss_one (ps_expr (pe_mcall PySem.F.plainAttrs_list PySem.F.slot_list_append PySem.F.type_list_append mt_append (pv 2) (pa_c (pe_ix ix_tup (pv 4) pe_int (fun _ _ => rfl)) pa_nil)))))))
      (pss_one (ps_ret (pe_callX k_job_by hr passes_on (pa_c (pe_ix ix_list (pv 1) pe_int (fun _ _ => rfl)) (pa_c (pe_callX k_needs_in hr passes_on (pa_c (pv 3) pa_nil)) (pa_c (pv 2) pa_nil))))))))))), ?_⟩
    have rz : ∀ (σ : L2.St) (D : Ends) (H1 : Hp),Same H H1 → (∀ z,x = .str z → jobOf z = none) → tRaiseI CB (spBad CB) E (tCons (tC (.int 0)) tNil) D σ H1 := fun _ _ H1 s1 hn => ⟨by show 1 ≤ sizeLine; decide,fun x hx => bad_mk hx ((e hn).same s1)⟩
    refine seq_use (fun v H' => (v = .non ∧ Same H H' ∧ wordsOf x = none) ∨ ∃ p ws,v = .ref p ∧ Same H H' ∧ H p = none ∧ H' p = some (.lst (ws.map V.str)) ∧ wordsOf x = some ws) (fun Q' kk => ?_) ?_
    · exact ⟨_,rfl,x,rfl,ax,fun hn H' s' => kk _ _ (.inl ⟨rfl,s',hn⟩),fun ws hw p H' hp s' e' => kk _ _ (.inr ⟨p,ws,rfl,s',hp,e',hw⟩)⟩
    rintro v H1 (⟨rfl,s1,hw⟩ | ⟨p,ws,rfl,s1,hp0,e1,hw⟩)
    · refine ⟨_,rfl,rfl,_,rfl,iteT (iteT (rz _ _ _ s1 fun z hz => ?_))⟩
      subst hz
      unfold jobOf
      rw [hw]
    obtain ⟨z,rfl⟩ : ∃ z,x = .str z := by
      cases x with
      | str z => exact ⟨z,rfl⟩
      | _ => cases hw
    have z9 := sx z rfl
    have hwz : ws = partsOf z := by
      unfold wordsOf at hw
      dsimp only at hw
      split at hw
      · cases hw
      · cases hw; rfl
    have wsh : Short ws := fun y hy => by
      rw [hwz] at hy
      exact Nat.le_trans (parts_short z y hy) (Nat.le_trans z9 (by decide))
    have wfew : ws.length ≤ 901 := by
      rw [hwz]
      exact Nat.le_trans (parts_few z) (by omega)
    have jn : (∀ j nm rest,ws = j :: nm :: rest → j = "job" → isName nm = true → ∀ ns ks,progR pw rest = some (ns,ks) → ¬ okNeeds nm (ks.map V.str) = true) → jobOf z = none := fun h => by
      unfold jobOf
      rw [hw]
      match ws,h with
      | [],_ => rfl
      | [a],_ => rfl
      | j :: nm :: rest,h =>
        dsimp only
        split
        · rename_i hj
          cases ep : progR pw rest with
          | none => rfl
          | some y =>
            dsimp only
            rw [if_neg (h j nm rest rfl hj.1 hj.2 y.1 y.2 ep)]
        · rfl
    refine ⟨_,rfl,rfl,_,rfl, ?_⟩
    refine ite_of (d := false) (decide_eq_false fun h => by cases h) (fun h => by cases h) (fun _ => ?_)
    match ws,e1,hw,wsh,wfew,jn with
    | [],e1,hw,wsh,wfew,jn => exact ⟨_,rfl,p,_,rfl,.inl (SqL.of e1),_,_,rfl,rfl,_,rfl,iteT (iteT (rz _ _ _ s1 fun z' hz => by cases hz; exact jn fun j nm rest h => by cases h))⟩
    | [a],e1,hw,wsh,wfew,jn => exact ⟨_,rfl,p,_,rfl,.inl (SqL.of e1),_,_,rfl,rfl,_,rfl,iteT (iteT (rz _ _ _ s1 fun z' hz => by cases hz; exact jn fun j nm rest h => by cases h))⟩
    | j :: nm :: rest,e1,hw,wsh,wfew,jn =>
      refine ⟨_,rfl,p,_,rfl,.inl (SqL.of e1),_,_,rfl,rfl,_,rfl, ?_⟩
      refine ite_of (d := false) (decide_eq_false (by rw [List.length_map]; show ¬ ((rest.length + 1 + 1 : Nat) : Int) < 2; omega)) (fun h => by cases h) (fun _ => ?_)
      refine ⟨_,rfl,p,_,_,_,rfl,rfl,SqL.of e1,atI_nat (j := 0) rfl,rfl,_,rfl, ?_⟩
      by_cases hj : j = "job"
      · subst hj
        refine ite_of (d := false) (by rw [decide_eq_true rfl]; rfl) (fun h => by cases h) (fun _ => next_to ?_)
        dsimp only
        refine ⟨by decide,fun nl hnl => ?_⟩
        have hn0 := same_none s1 hnl
        have s2 : Same H (upd H1 nl (.lst [])) := s1.trans (same_of hnl)
        have t2 : Same H1 (upd H1 nl (.lst [])) := same_of hnl
        have n2 : (upd H1 nl (.lst [])) nl = some (.lst []) := upd_same
        have e2 := t2 _ _ e1
        generalize upd H1 nl (.lst []) = H2 at s2 t2 n2 e2
        dsimp only
        refine ⟨_,rfl,_,rfl,p,_,rfl,SqL.of e2,fun rl hrl => ?_⟩
        have t3 : Same H2 (upd H2 rl (.lst (cutV (((("job" : Str) :: nm :: rest)).map V.str) (some 2) none))) := same_of hrl
        have r3 : (upd H2 rl (.lst (cutV (((("job" : Str) :: nm :: rest)).map V.str) (some 2) none))) rl = some (.lst (rest.map V.str)) := by
          rw [upd_same,show (some (2 : Int)) = some ((2 : Nat) : Int) from rfl,cut_from]
          rfl
        have s3 := s2.trans t3
        have n3 := t3 _ _ n2
        have p3 := t3 _ _ e2
        have nr : rl ≠ nl := fun h => by rw [h,n2] at hrl; cases hrl
        generalize upd H2 rl (.lst (cutV (((("job" : Str) :: nm :: rest)).map V.str) (some 2) none)) = H3 at t3 r3 s3 n3 p3
        dsimp only
        have np : nl ≠ p := fun h => by rw [h,e1] at hnl; cases hnl
        refine ⟨T,rfl,⟨_,hT _⟩, ?_⟩
        refine for_tup (xs := ps.map V.ref) (fun i σ H' => Same H H' ∧ H' p = some (.lst ((("job" : Str) :: nm :: rest).map V.str)) ∧ ∃ (done : List V) (rl : Addr) (rs : List Str) (v4 : Option V),H' nl = some (.lst done) ∧ done.length = i ∧ (∀ y ∈ done,NV y) ∧ H' rl = some (.lst (rs.map V.str)) ∧ Short rs ∧ rs.length ≤ 901 ∧ rl ≠ nl ∧ partsV pw rest = (done ++ (partsV (pw.drop i) rs).1,(partsV (pw.drop i) rs).2) ∧
          σ = [some (.str z),some (.ref p),some (.ref nl),some (.ref rl),v4]) ⟨s3,p3,[],rl,rest,_,n3,rfl,fun y hy => (by cases hy),r3,fun y hy => wsh y (by simp [hy]),by simp only [List.length_cons] at wfew; omega,nr,rfl,rfl⟩ (fun i σ H' _ h => hT H') ?_ ?_
        · rintro i xx σ H4 hx ⟨s4,p4,done,rl4,rs,v4,d4,dl,nv,r4,sr,lr,nr4,pv,rfl⟩
          rw [List.getElem?_map] at hx
          obtain ⟨pp,hpp,rfl⟩ := Option.map_eq_some_iff.mp hx
          have hi : i < 5 := by have := (List.getElem?_eq_some_iff.mp hpp).1; omega
          obtain ⟨wd,lo,hg,hbd,hpt⟩ := hp i pp hpp
          obtain ⟨wd',lo',hg',hbd',hdr⟩ := pwSome hi
          rw [hbd] at hbd'
          cases hbd'
          rw [hdr] at pv
          dsimp only [gName]
          refine ⟨_,rfl,_,rfl,rl4,_,rfl,SqL.of r4,fun q1 hq1 => ?_⟩
          have t5 : Same H4 (upd H4 q1 (.lst (cutV (rs.map V.str) none (some 1)))) := same_of hq1
          have e5 : (upd H4 q1 (.lst (cutV (rs.map V.str) none (some 1)))) q1 = some (.lst ((rs.take 1).map V.str)) := by
            rw [upd_same,show (some (1 : Int)) = some ((1 : Nat) : Int) from rfl,cut_to,List.map_take]
          generalize upd H4 q1 (.lst (cutV (rs.map V.str) none (some 1))) = H5 at t5 e5
          refine ⟨_,rfl,pp,_,_,_,rfl,rfl,hpt H5,atI_nat (j := 0) rfl,(by show 1 ≤ sizeLine; decide),fun q2 hq2 => ?_⟩
          have t6 : Same H5 (upd H5 q2 (.lst [.str wd])) := same_of hq2
          have e6 : (upd H5 q2 (.lst [.str wd])) q2 = some (.lst (([wd] : List Str).map V.str)) := upd_same
          generalize upd H5 q2 (.lst [.str wd]) = H6 at t6 e6
          have t46 := t5.trans t6
          have s6 := s4.trans t46
          have d6 := t46 _ _ d4
          have r6 := t46 _ _ r4
          have p6 := t46 _ _ p4
          refine ⟨q1,q2,_,_,rfl,rfl,SqL.of (t6 _ _ e5),SqL.of e6,flat_strs _,flat_strs _,_,rfl, ?_⟩
          have eb : (if false = true then !eqL ((rs.take 1).map V.str) (([wd] : List Str).map V.str) else eqL ((rs.take 1).map V.str) (([wd] : List Str).map V.str)) = decide (rs.take 1 = [wd]) := by rw [if_neg Bool.false_ne_true,eqL_strs]
          have small : done.length < sizeLine := by rw [dl]; exact Nat.lt_of_lt_of_le hi (by decide)
          refine ite_of eb (fun h => ?_) (fun h => ?_)
          · rw [decide_eq_true_eq] at h
            obtain ⟨r,rfl⟩ : ∃ r,rs = wd :: r := by
              cases rs with
              | nil => cases h
              | cons x r => exact ⟨r,by rw [show x = wd from by injection h]⟩
            refine ⟨_,rfl,.inl ⟨rfl,_,SqL.of d6⟩,_,rfl,rl4,_,rfl,r6,sr,fun H7 t7 => ?_⟩
            have d7 := t7 _ _ d6
            refine ⟨nl,_,_,rfl,rfl,d7,small, ?_⟩
            have s8 : Same H (upd H7 nl (.lst (done ++ [behind (wd :: r)]))) := Same.upd (s6.trans t7) hn0
            have d8 : (upd H7 nl (.lst (done ++ [behind (wd :: r)]))) nl = some (.lst (done ++ [behind (wd :: r)])) := upd_same
            have r8 : (upd H7 nl (.lst (done ++ [behind (wd :: r)]))) rl4 = some (.lst ((wd :: r).map V.str)) := by rw [upd_ne nr4]; exact t7 _ _ r6
            have p8 : (upd H7 nl (.lst (done ++ [behind (wd :: r)]))) p = some (.lst ((("job" : Str) :: nm :: rest).map V.str)) := by rw [upd_ne (Ne.symm np)]; exact t7 _ _ p6
            generalize upd H7 nl (.lst (done ++ [behind (wd :: r)])) = H8 at s8 d8 r8 p8
            refine ⟨_,rfl,_,rfl,rl4,_,rfl,SqL.of r8,fun q3 hq3 => ?_⟩
            have t9 : Same H8 (upd H8 q3 (.lst (cutV ((wd :: r).map V.str) (some 2) none))) := same_of hq3
            refine ⟨s8.trans t9,t9 _ _ p8,done ++ [behind (wd :: r)],q3,(wd :: r).drop 2,_,t9 _ _ d8,by rw [List.length_append,dl]; rfl,fun y hy => ?_, ?_,sr.drop 2, ?_,fun h => (by rw [h,d8] at hq3; cases hq3), ?_,rfl⟩
            · rcases List.mem_append.mp hy with h1 | h1
              · exact nv y h1
              · rw [List.mem_singleton.mp h1]
                exact behind_nv wd r
            · rw [upd_same,show (some (2 : Int)) = some ((2 : Nat) : Int) from rfl,cut_from,List.map_drop]
            · rw [List.length_drop]; omega
            · rw [pv,pV_pos,List.append_assoc]
              rfl
          · rw [decide_eq_false_iff_not] at h
            refine ⟨_,rfl,.inl ⟨rfl,_,SqL.of d6⟩,_,rfl,pp,_,_,_,rfl,rfl,hpt H6,atI_nat (j := 1) rfl,nl,_,_,rfl,rfl,d6,small, ?_⟩
            refine ⟨Same.upd s6 hn0,(by rw [upd_ne (Ne.symm np)]; exact p6),done ++ [.int lo],rl4,rs,_,upd_same,by rw [List.length_append,dl]; rfl,fun y hy => ?_,(by rw [upd_ne nr4]; exact r6),sr,lr,nr4, ?_,rfl⟩
            · rcases List.mem_append.mp hy with h1 | h1
              · exact nv y h1
              · rw [List.mem_singleton.mp h1]
                exact .inr ⟨_,rfl⟩
            · rw [pv]
              cases rs with
              | nil => rw [List.append_assoc]; rfl
              | cons x r =>
                have hx' : x ≠ wd := fun y => h (by rw [y]; rfl)
                rw [pV_eq,if_neg hx',List.append_assoc]
                rfl
        · rintro σ H4 ⟨s4,p4,done,rl4,rs,v4,d4,dl,nv,r4,sr,lr,nr4,pv,rfl⟩
          rw [List.length_map,hpl] at dl pv
          have pv' : partsV pw rest = (done,rs) := by
            rw [pv]
            show (done ++ (partsV [] rs).1,(partsV [] rs).2) = _
            rw [show partsV [] rs = ([],rs) from by cases rs <;> rfl,List.append_nil]
          have cl := partsV_progR pw okPs_pw rest
          unfold Cl at cl
          rw [pv'] at cl
          obtain ⟨cl1,cl2⟩ := cl
          dsimp only at cl1 cl2
          clear pv
          match done,dl with
          | [v1,v2,v3,v4',v5],_ =>
            refine ⟨_,rfl,p,_,_,_,rfl,rfl,SqL.of p4,atI_nat (j := 1) rfl,_,rfl,rl4,rs,rfl,r4,fun ks hk kl H5 hkl s5 e5 => ?_,fun hn => (e fun z' hz => ?_).same s4⟩
            · obtain ⟨k1,k2⟩ := needsIn_sub hk
              refine ⟨_,rfl,nm,kl,nl,ks,v1,v2,v3,v4',v5,rfl,wsh nm (by simp),e5,by omega,fun k h => sr k (k2 k h),s5 _ _ d4,fun y hy => (nv y hy).any,fun a b c d e' hnm hok hnum e1 e2 e3 e4 e5 p' l H' hp' hl s' j => ?_,fun hneg => (e fun z' hz => ?_).same (s4.trans s5)⟩
              · have sa := s4.trans s5
                refine q z nm ks a b c d e' rfl ?_ p' l H' (same_none sa hp') (same_none sa hl) (sa.trans s') j
                obtain ⟨ns,h1,h2⟩ := cl1 (goodBy_iff.mpr hnum) ks hk
                have h3 : ns = [a,b,c,d,e'] := by
                  rw [e1,e2,e3,e4,e5] at h1
                  exact (List.map_inj_right (f := V.int) (fun x y h => by injection h)).mp (h1.symm.trans rfl)
                unfold jobOf
                rw [hw]
                dsimp only
                rw [if_pos ⟨rfl,hnm⟩,h2]
                dsimp only
                rw [if_pos hok,h3]
              · cases hz
                refine jn fun j nm' rest' he hj hnm ns ks' hpr hok => ?_
                cases he
                cases hg : goodBy pw [v1,v2,v3,v4',v5] with
                | false =>
                  rw [cl2 (.inl hg)] at hpr
                  cases hpr
                | true =>
                  obtain ⟨ns2,h1,h2⟩ := cl1 hg ks hk
                  rw [h2] at hpr
                  cases hpr
                  exact hneg ⟨hnm,hok,goodBy_iff.mp hg⟩
            · cases hz
              refine jn fun j nm' rest' he hj hnm ns ks' hpr hok => ?_
              cases he
              rw [cl2 (.inr hn)] at hpr
              cases hpr
      · refine ite_of (d := true) (by rw [decide_eq_false (fun h => hj (by injection h))]; rfl) (fun _ => rz _ _ _ s1 fun z' hz => by cases hz; exact jn fun j nm rest h h2 => absurd (by cases h; exact h2) hj) (fun h => by cases h)
end
end K03
namespace K03
open PySem L2 PyProof.Rows WM
abbrev tx (n : Int) : Str := Str.ofString (toString n)
def numGood (n : Nat) : Bool := decide (numI (tx (n : Int)) = (n : Int)) && (decide (1 ≤ (tx (n : Int)).length) && (decide ((tx (n : Int)).length ≤ 4) && decide (32 ∉ (tx (n : Int)).cps.toList)))
theorem numGood_all : (List.range 1001).all numGood = true := by decide +kernel
theorem num_good {n : Int} (h0 : 0 ≤ n) (h1 : n ≤ 1000) : numI (tx n) = n ∧ 1 ≤ (tx n).length ∧ (tx n).length ≤ 4 ∧ 32 ∉ (tx n).cps.toList := by
  have h := List.all_eq_true.mp numGood_all n.toNat (List.mem_range.mpr (by omega))
  unfold numGood at h
  rw [Int.toNat_of_nonneg h0] at h
  simp only [Bool.and_eq_true,decide_eq_true_eq] at h
  exact h
structure Wd (y : Str) : Prop where
  ne : 1 ≤ y.length
  le : y.length ≤ 12
  nb : 32 ∉ y.cps.toList
theorem let_no32 : 32 ∉ LET.cps.toList := by decide +kernel
theorem name_wd {z : Str} (h : isName z = true) : Wd z := by
  obtain ⟨a,b⟩ := name_len h
  refine ⟨a,b,fun hc => let_no32 ?_⟩
  unfold isName madeOf at h
  rw [Bool.and_eq_true] at h
  exact of_decide_eq_true (List.all_eq_true.mp h.2 32 hc)
theorem num_wd {n : Int} (h0 : 0 ≤ n) (h1 : n ≤ 1000) : Wd (tx n) := by
  obtain ⟨_,a,b,c⟩ := num_good h0 h1
  exact ⟨a,by omega,c⟩
theorem wd_of {y : Str} (h : (decide (1 ≤ y.length) && decide (y.length ≤ 12) && decide (32 ∉ y.cps.toList)) = true) : Wd y := by
  simp only [Bool.and_eq_true,decide_eq_true_eq] at h
  exact ⟨h.1.1,h.1.2,h.2⟩
theorem wd_job : Wd "job" := wd_of (by decide +kernel)
theorem wd_needs : Wd "needs" := wd_of (by decide +kernel)
theorem wd_pw : ∀ p ∈ pw,Wd p.1 := by
  intro p hp
  simp only [pw,List.mem_cons,List.not_mem_nil,or_false] at hp
  rcases hp with rfl | rfl | rfl | rfl | rfl <;> exact wd_of (by decide +kernel)
theorem join_list' (ys : List Str) : (Txt.join " " ys).cps.toList = joinC 32 (ys.map fun y => y.cps.toList) := by
  have e : Txt.join " " ys = Str.join " " ys := StrLaws.glued_eq_join " " ys
  rw [e,sp1,WM.join_list]
theorem parts_join {ws : List Str} (h : ws ≠ []) (hw : ∀ y ∈ ws,Wd y) : partsOf (Txt.join " " ws) = ws := by
  unfold partsOf
  rw [join_list',splitC_join 32 _ (by simpa using h) fun p hp => ?_,List.map_map]
  · conv => rhs; rw [← List.map_id ws]
    refine List.map_congr_left fun y _ => ?_
    apply str_ext
    show (y.cps.toList.toArray).toList = _
    simp
  · obtain ⟨y,hy,rfl⟩ := List.mem_map.mp hp
    exact (hw y hy).nb
theorem noempty {ws : List Str} (hw : ∀ y ∈ ws,Wd y) : emptyIn ws = false := by
  unfold emptyIn
  rw [Bool.eq_false_iff]
  intro h
  rw [List.any_eq_true] at h
  obtain ⟨y,hy,e⟩ := h
  have e' : y = "" := by simpa using e
  have := (hw y hy).ne
  rw [e'] at this
  exact absurd this (by decide +kernel)
theorem words_join {ws : List Str} (h : ws ≠ []) (hw : ∀ y ∈ ws,Wd y) : wordsOf (.str (Txt.join " " ws)) = some ws := by
  unfold wordsOf
  dsimp only
  rw [parts_join h hw,noempty hw]
  rfl
theorem join_le (z : Str) (ys : List Str) {n m : Nat} (h1 : ys.length ≤ n) (h2 : ∀ y ∈ ys,y.length ≤ m) : (ys.map (·.length)).sum + ys.length * z.length ≤ n * (m + z.length) := by
  have h : ∀ l : List Str,(∀ y ∈ l,y.length ≤ m) → (l.map (·.length)).sum + l.length * z.length ≤ l.length * (m + z.length) := by
    intro l
    induction l with
    | nil => intro _; simp
    | cons y r ih =>
      intro hh
      have a := hh y List.mem_cons_self
      have b := ih fun x hx => hh x (List.mem_cons_of_mem _ hx)
      rw [List.map_cons,List.sum_cons,List.length_cons,Nat.add_mul,Nat.add_mul,Nat.one_mul,Nat.one_mul]
      omega
  exact Nat.le_trans (h ys h2) (Nat.mul_le_mul_right _ h1)
theorem txt_join_len (z : Str) (ys : List Str) {k : Nat} (h : (ys.map (·.length)).sum + ys.length * z.length ≤ k) : (Txt.join z ys).length ≤ k := by
  have e : Txt.join z ys = Str.join z ys := StrLaws.glued_eq_join z ys
  rw [e]
  exact Nat.le_trans (StrLaws.join_length_le z ys) h
def tel : List (Str × Int × Int) → List Int → List Bool → List Str
  | p :: ps,n :: ns,b :: bs => (if n ≠ p.2.1 ∨ b = true then [p.1,tx n] else []) ++ tel ps ns bs
  | _,_,_ => []
def tail : List Str → List Str
  | [] => []
  | k :: ks => "needs" :: k :: ks
def okN : List (Str × Int × Int) → List Int → Prop
  | p :: ps,n :: ns => p.2.1 ≤ n ∧ n ≤ p.2.2 ∧ okN ps ns
  | [],[] => True
  | _,_ => False
theorem tel_head : ∀ (ps : List (Str × Int × Int)) (ns : List Int) (bs : List Bool) (ks : List Str),tel ps ns bs ++ tail ks = [] ∨ ∃ x r,tel ps ns bs ++ tail ks = x :: r ∧ (x = "needs" ∨ x ∈ ps.map (·.1))
  | [],ns,bs,ks => by
    have e : tel [] ns bs = [] := by unfold tel; rfl
    rw [e]
    cases ks with
    | nil => exact .inl rfl
    | cons k ks => exact .inr ⟨_,_,rfl,.inl rfl⟩
  | p :: ps,[],bs,ks => by
    have e : tel (p :: ps) [] bs = [] := by unfold tel; rfl
    rw [e]
    cases ks with
    | nil => exact .inl rfl
    | cons k ks => exact .inr ⟨_,_,rfl,.inl rfl⟩
  | p :: ps,n :: ns,[],ks => by
    have e : tel (p :: ps) (n :: ns) [] = [] := by unfold tel; rfl
    rw [e]
    cases ks with
    | nil => exact .inl rfl
    | cons k ks => exact .inr ⟨_,_,rfl,.inl rfl⟩
  | p :: ps,n :: ns,b :: bs,ks => by
    unfold tel
    split
    · exact .inr ⟨_,_,rfl,.inr (by simp)⟩
    · rw [List.nil_append]
      rcases tel_head ps ns bs ks with h | ⟨x,r,h,h2⟩
      · exact .inl h
      · exact .inr ⟨x,r,h,h2.imp id fun h3 => by simp only [List.map_cons,List.mem_cons]; exact .inr h3⟩
theorem progR_skip {p : Str × Int × Int} {ps : List (Str × Int × Int)} {r : List Str} (h : r = [] ∨ ∃ x r',r = x :: r' ∧ x ≠ p.1) : progR (p :: ps) r = (progR ps r).map fun y => (p.2.1 :: y.1,y.2) := by
  rcases h with rfl | ⟨x,r',rfl,hx⟩
  · rfl
  · rw [pR_eq,if_neg hx]
theorem tel_read : ∀ (ps : List (Str × Int × Int)) (ns : List Int) (bs : List Bool) (ks : List Str),(∀ p ∈ ps,0 ≤ p.2.1 ∧ p.2.2 ≤ 1000 ∧ p.1 ≠ "needs") → (ps.map (·.1)).Nodup → okN ps ns → bs.length = ps.length → progR ps (tel ps ns bs ++ tail ks) = some (ns,ks)
  | [],ns,bs,ks,_,_,ok,_ => by
    have e : tel [] ns bs = [] := by unfold tel; rfl
    rw [e]
    have en : ns = [] := by
      cases ns with
      | nil => rfl
      | cons n ns => unfold okN at ok; cases ok
    rw [en]
    cases ks with
    | nil => rfl
    | cons k ks =>
      show (needsIn ("needs" :: k :: ks)).map _ = _
      rw [nI_pos rfl]
      rfl
  | p :: ps,[],bs,ks,_,_,ok,_ => by unfold okN at ok; cases ok
  | p :: ps,n :: ns,[],ks,_,_,ok,hb => by cases hb
  | p :: ps,n :: ns,b :: bs,ks,hp,nd,ok,hb => by
    unfold okN at ok
    obtain ⟨o1,o2,o3⟩ := ok
    obtain ⟨p1,p2,p3⟩ := hp p (by simp)
    have ih := tel_read ps ns bs ks (fun q hq => hp q (by simp [hq])) (List.nodup_cons.mp nd).2 o3 (by simpa using hb)
    unfold tel
    split
    · show progR (p :: ps) (p.1 :: tx n :: (tel ps ns bs ++ tail ks)) = _
      rw [pR_eq,if_pos rfl]
      dsimp only
      rw [(num_good (by omega) (by omega)).1,if_pos ⟨o1,o2⟩,ih]
      rfl
    · rename_i hn
      have hn1 : n = p.2.1 := by
        by_cases h : n = p.2.1
        · exact h
        · exact absurd (.inl h) hn
      rw [List.nil_append,progR_skip,ih,hn1]
      · rfl
      · rcases tel_head ps ns bs ks with h | ⟨x,r,h,h2⟩
        · exact .inl h
        · refine .inr ⟨x,r,h,fun e => ?_⟩
          rcases h2 with h3 | h3
          · exact p3 (e ▸ h3)
          · rw [e] at h3
            exact (List.nodup_cons.mp nd).1 h3
theorem tel_wd : ∀ (ps : List (Str × Int × Int)) (ns : List Int) (bs : List Bool),(∀ p ∈ ps,0 ≤ p.2.1 ∧ p.2.2 ≤ 1000 ∧ Wd p.1) → okN ps ns → (tel ps ns bs).length ≤ 2 * ps.length ∧ ∀ y ∈ tel ps ns bs,Wd y
  | [],ns,bs,_,_ => by
    have e : tel [] ns bs = [] := by unfold tel; rfl
    rw [e]
    exact ⟨by simp,fun y hy => by cases hy⟩
  | p :: ps,[],bs,_,ok => by unfold okN at ok; cases ok
  | p :: ps,n :: ns,[],_,ok => by
    have e : tel (p :: ps) (n :: ns) [] = [] := by unfold tel; rfl
    rw [e]
    exact ⟨by simp,fun y hy => by cases hy⟩
  | p :: ps,n :: ns,b :: bs,hp,ok => by
    unfold okN at ok
    obtain ⟨o1,o2,o3⟩ := ok
    obtain ⟨p1,p2,p3⟩ := hp p (by simp)
    have ih := tel_wd ps ns bs (fun q hq => hp q (by simp [hq])) o3
    unfold tel
    refine ⟨?_,fun y hy => ?_⟩
    · rw [List.length_append,List.length_cons]
      have := ih.1
      split
      · show 2 + _ ≤ _
        omega
      · show 0 + _ ≤ _
        omega
    · rcases List.mem_append.mp hy with h | h
      · split at h
        · simp only [List.mem_cons,List.not_mem_nil,or_false] at h
          rcases h with rfl | rfl
          · exact p3
          · exact num_wd (by omega) (by omega)
        · cases h
      · exact ih.2 y h
def allW (nm : Str) (ks : List Str) (ns : List Int) (bs : List Bool) : List Str := "job" :: nm :: (tel pw ns bs ++ tail ks)
structure GdJ (nm : Str) (ks : List Str) (ns : List Int) : Prop where
  nam : isName nm = true
  ks8 : ks.length ≤ 8
  kn : ∀ k ∈ ks,isName k = true
  ot : nm ∉ ks
  un : ks.Nodup
  okn : okN pw ns
theorem pw_ok : ∀ p ∈ pw,0 ≤ p.2.1 ∧ p.2.2 ≤ 1000 ∧ Wd p.1 := fun p hp => by
  refine ⟨?_, ?_,wd_pw p hp⟩
  all_goals
    simp only [pw,List.mem_cons,List.not_mem_nil,or_false] at hp
    rcases hp with rfl | rfl | rfl | rfl | rfl <;> decide
theorem pw_nd : (pw.map (·.1)).Nodup := by decide +kernel
theorem pw_nn : ∀ p ∈ pw,p.1 ≠ ("needs" : Str) := fun p hp => by
  simp only [pw,List.mem_cons,List.not_mem_nil,or_false] at hp
  rcases hp with rfl | rfl | rfl | rfl | rfl <;> decide +kernel
theorem GdJ.needs {nm : Str} {ks : List Str} {ns : List Int} (g : GdJ nm ks ns) : okNeeds nm (ks.map V.str) = true := by
  have h1 : (ks.map V.str).all (madeOf LET 12) = true := by
    rw [List.all_eq_true]
    intro x hx
    obtain ⟨k,hk,rfl⟩ := List.mem_map.mp hx
    exact g.kn k hk
  have h2 : (uniqK ((ks.map V.str).map keyOf)).length = (ks.map V.str).length := by
    rw [keys_strs,uniq_nodup,List.length_map,List.length_map]
    rw [List.Nodup,List.pairwise_map]
    exact g.un.imp fun h e => h (by injection e)
  unfold okNeeds
  rw [h1,inV_str g.ot,decide_eq_true h2,decide_eq_true (by rw [List.length_map]; exact g.ks8)]
  rfl
theorem allW_wd {nm : Str} {ks : List Str} {ns : List Int} (g : GdJ nm ks ns) (bs : List Bool) : (allW nm ks ns bs).length ≤ 21 ∧ ∀ y ∈ allW nm ks ns bs,Wd y := by
  have t := tel_wd pw ns bs pw_ok g.okn
  have k8 := g.ks8
  refine ⟨?_,fun y hy => ?_⟩
  · show (tel pw ns bs ++ tail ks).length + 1 + 1 ≤ 21
    rw [List.length_append]
    have h1 := t.1
    have h2 : pw.length = 5 := rfl
    have h3 : (tail ks).length ≤ ks.length + 1 := by
      cases ks with
      | nil => exact Nat.zero_le _
      | cons k ks => exact Nat.le_refl _
    omega
  · simp only [allW,List.mem_cons,List.mem_append] at hy
    rcases hy with rfl | rfl | h | h
    · exact wd_job
    · exact name_wd g.nam
    · exact t.2 y h
    · have kn := g.kn
      cases ks with
      | nil => cases h
      | cons k ks =>
        rcases List.mem_cons.mp h with rfl | h
        · exact wd_needs
        · exact name_wd (kn y h)
theorem okN5 {ns : List Int} (h : okN pw ns) : ∃ a b c d e,ns = [a,b,c,d,e] ∧ 0 ≤ a ∧ a ≤ 99 ∧ 1 ≤ b ∧ b ≤ 1000 ∧ 1 ≤ c ∧ c ≤ 20 ∧ 0 ≤ d ∧ d ≤ 1000 ∧ 1 ≤ e ∧ e ≤ 4 := by
  match ns,h with
  | [a,b,c,d,e],h =>
    simp only [okN,pw,and_true] at h
    obtain ⟨h1,h2,h3,h4,h5,h6,h7,h8,h9,h10⟩ := h
    exact ⟨a,b,c,d,e,rfl,h1,h2,h3,h4,h5,h6,h7,h8,h9,h10⟩
theorem all_read {nm : Str} {ks : List Str} {ns : List Int} (g : GdJ nm ks ns) {bs : List Bool} (hb : bs.length = 5) : jobOf (Txt.join " " (allW nm ks ns bs)) = some (nm,ks,ns) := by
  unfold jobOf
  rw [words_join (ws := allW nm ks ns bs) (fun h => by cases h) (allW_wd g bs).2]
  unfold allW
  dsimp only
  rw [if_pos ⟨rfl,g.nam⟩,tel_read pw ns bs ks (fun p hp => ⟨(pw_ok p hp).1,(pw_ok p hp).2.1,pw_nn p hp⟩) pw_nd g.okn hb]
  dsimp only
  rw [if_pos g.needs]
theorem line_short {ws : List Str} (hl : ws.length ≤ 30) (hw : ∀ y ∈ ws,y.length ≤ 12) : (Txt.join " " ws).length ≤ 390 := by
  refine txt_join_len _ _ (Nat.le_trans (join_le " " ws hl hw) ?_)
  rw [sp1]
  decide
end K03
namespace K03
open PySem L2 PyProof.Rows WM
theorem num_log {n : Int} (h0 : 0 ≤ n) (h1 : n ≤ 100000000000) : n.natAbs.log2 < 1920 := by
  have h2 : n.natAbs < 2 ^ 64 := by omega
  by_cases hz : n.natAbs = 0
  · rw [hz]; decide
  · have := (Nat.log2_lt hz).mpr h2
    omega
abbrev ff5 : List Bool := [false,false,false,false,false]
def jn5 (j : Jb) : List Int := [j.rank,j.span,j.tries,j.wait,j.grow]
theorem drop_cons {α : Type} {xs : List α} {i : Nat} {x : α} (h : xs[i]? = some x) : xs.drop i = x :: xs.drop (i + 1) := by
  obtain ⟨hk,e⟩ := List.getElem?_eq_some_iff.mp h
  rw [List.drop_eq_getElem_cons hk,e]
theorem tel_cons (p : Str × Int × Int) (ps : List (Str × Int × Int)) (n : Int) (ns : List Int) (b : Bool) (bs : List Bool) : tel (p :: ps) (n :: ns) (b :: bs) = (if n ≠ p.2.1 ∨ b = true then [p.1,tx n] else []) ++ tel ps ns bs := by
  conv => lhs; unfold tel
theorem tel_step {i : Nat} {p : Str × Int × Int} {n : Int} {b : Bool} {ns : List Int} {bs : List Bool} (h1 : pw[i]? = some p) (h2 : ns[i]? = some n) (h3 : bs[i]? = some b) : tel (pw.drop i) (ns.drop i) (bs.drop i) = (if n ≠ p.2.1 ∨ b = true then [p.1,tx n] else []) ++ tel (pw.drop (i + 1)) (ns.drop (i + 1)) (bs.drop (i + 1)) := by
  rw [drop_cons h1,drop_cons h2,drop_cons h3,tel_cons]
theorem tel_end (ns : List Int) (bs : List Bool) : tel (pw.drop 5) ns bs = [] := by
  show tel [] ns bs = []
  unfold tel
  rfl
theorem okN_at {ns : List Int} (h : okN pw ns) {i : Nat} {p : Str × Int × Int} {n : Int} (h1 : pw[i]? = some p) (h2 : ns[i]? = some n) : 0 ≤ n ∧ n ≤ 1000 ∧ p.2.1 ≤ n ∧ n ≤ p.2.2 := by
  obtain ⟨a,b,c,d,e,rfl,h⟩ := okN5 h
  match i,h1,h2 with
  | 0,h1,h2 => cases h1; cases h2; dsimp only; omega
  | 1,h1,h2 => cases h1; cases h2; dsimp only; omega
  | 2,h1,h2 => cases h1; cases h2; dsimp only; omega
  | 3,h1,h2 => cases h1; cases h2; dsimp only; omega
  | 4,h1,h2 => cases h1; cases h2; dsimp only; omega
  | i + 5,h1,h2 => cases h2
section
variable {P : Program} {w : World} {K : PySem.W.Frag} {mg : Str → Option Value} {base : Heap} {C CH CB : Addr} {D : Nat → Addr}
def spJobLine (C : Addr) : Sp := fun vs H Q _ => ∃ (p l : Addr) (j : Jb),vs = [.ref p] ∧ JobL C H p l j ∧ GdJ j.name j.needs (jn5 j) ∧ ∀ H',Same H H' → Q (.str (Txt.join " " (allW j.name j.needs (jn5 j) ff5))) H'
theorem ok_job_line (Df : Def K mg "job_line" s_job_line ["job"]) (B : Bj mg) (J : JCls K mg C) (PK : PartsK K mg) (k_number_text : Knows P w K mg base 1 "number_text" ["number"] sp_number_text) : Knows P w K mg base 2 "job_line" ["job"] (spJobLine C) := by
  refine Df.ok sc_job_line (fun vs H Q E h => ?_) (fun f cdv A outer s H vs Q E hr h => ?_)
  · obtain ⟨p,l,j,rfl,_⟩ := h
    rfl
  · obtain ⟨p,l,j,rfl,jl,g,q⟩ := h
    obtain ⟨T,ps,hmg,hpl,hT,hps⟩ := PK.ex
    obtain ⟨⟨dx,hp⟩,hl⟩ := jl
    refine ⟨_,by exact (pss_cons (ps_set (i := 1) sc_job_line.nd rfl (Or.inl rfl) (pe_lst (pa_c pe_str (pa_c (pe_fld (pv 0) rfl) pa_nil))))
      (pss_cons (ps_set (i := 2) sc_job_line.nd rfl (Or.inl rfl) (pe_tup (pa_c (pe_fld (pv 0) rfl) (pa_c (pe_fld (pv 0) rfl) (pa_c (pe_fld (pv 0) rfl) (pa_c (pe_fld (pv 0) rfl) (pa_c (pe_fld (pv 0) rfl) pa_nil)))))))
      (pss_cons (ps_for PassesOwn.never rfl (pi_zipT B.zip (pe_glob (v := .ref T) rfl hmg rfl) (pv 2)) (pg_tup rfl (pgs_cons (pg_name (i := 3) sc_job_line.nd rfl (Or.inl rfl)) (pgs_cons (pg_name (i := 4) sc_job_line.nd rfl (Or.inl rfl)) pgs_nil))) (pss_one (ps_if (pt_cmpR op_ne (pv 4) (pe_ix ix_tup (pv 3) pe_int (fun _ _ => rfl)) (nomark _)) (pss_one (ps_expr (pe_mcall PySem.F.plainAttrs_list PySem.F.slot_list_extend PySem.F.type_list_extend mt_extend (pv 1) (pa_c (pe_lst (pa_c (pe_ix ix_tup (pv 3) pe_int (fun _ _ => rfl)) (pa_c (pe_callM k_number_text hr (pa_c (pv 4) pa_nil)) pa_nil))) pa_nil)))) pss_nil)))
      (pss_cons (ps_if (pt_truth (pe_fld (pv 0) rfl) (fun _ => rfl)) (pss_cons (ps_expr (pe_mcall PySem.F.plainAttrs_list PySem.F.slot_list_append PySem.F.type_list_append mt_append (pv 1) (pa_c pe_str pa_nil)))
      (pss_one (ps_expr (pe_mcall PySem.F.plainAttrs_list PySem.F.slot_list_extend PySem.F.type_list_extend mt_extend (pv 1) (pa_c (pe_fld (pv 0) rfl) pa_nil))))) pss_nil)
      (pss_one (ps_ret (pe_mcall PySem.F.plainAttrs_str PySem.F.slot_str_join PySem.F.type_str_join mt_join pe_str (pa_c (pv 1) pa_nil)))))))), ?_⟩
    refine seq_use (fun v H' => ∃ wl,v = .ref wl ∧ H wl = none ∧ H' wl = some (.lst ((["job",j.name] : List Str).map V.str)) ∧ Same H H') (fun Q' kk => ?_) ?_
    · refine ⟨_,rfl,p,C,dx,_,_,rfl,hp,J.cl,J.n1,rfl,(by show 2 ≤ sizeLine; decide),fun b hb => ?_⟩
      exact kk _ _ ⟨b,rfl,hb,upd_same,same_of hb⟩
    rintro _ H1 ⟨wl,rfl,hw0,ew1,s1⟩
    have hp1 := s1 _ _ hp
    refine seq_use (fun v H' => ∃ tp,v = .ref tp ∧ H' tp = some (.tup ((jn5 j).map V.int)) ∧ Same H1 H' ∧ tp ≠ wl) (fun Q' kk => ?_) ?_
    · refine ⟨_,rfl,p,C,dx,_,_,rfl,hp1,J.cl,J.n3,rfl,_,rfl,p,C,dx,_,_,rfl,hp1,J.cl,J.n4,rfl,_,rfl,p,C,dx,_,_,rfl,hp1,J.cl,J.n5,rfl,_,rfl,p,C,dx,_,_,rfl,hp1,J.cl,J.n6,rfl,_,rfl,p,C,dx,_,_,rfl,hp1,J.cl,J.n7,rfl,(by show 5 ≤ sizeLine; decide),fun b hb => ?_⟩
      exact kk _ _ ⟨b,rfl,upd_same,same_of hb,fun h => by rw [h,ew1] at hb; cases hb⟩
    rintro _ H2 ⟨tp,rfl,et2,s2,ntw⟩
    have npw : p ≠ wl := ne_of_none hp hw0
    have nlw : l ≠ wl := ne_of_none hl hw0
    dsimp only
    refine ⟨_,rfl,T,tp,rfl,rfl,⟨_,hT _⟩,⟨_,SqT.of et2⟩, ?_⟩
    refine for_zipT (xs := ps.map V.ref) (ys := (jn5 j).map V.int) (n := 5) (by rw [List.length_map,hpl]; rfl) (fun i σ H3 => Same H H3 ∧ H3 tp = some (.tup ((jn5 j).map V.int)) ∧ ∃ (cur : List Str) (v3 v4 : Option V),H3 wl = some (.lst (cur.map V.str)) ∧ cur.length ≤ 2 + 2 * i ∧ cur ++ tel (pw.drop i) ((jn5 j).drop i) (ff5.drop i) = (("job" : Str) :: j.name :: tel pw (jn5 j) ff5) ∧ σ = [some (.ref p),some (.ref wl),some (.ref tp),v3,v4])
      ⟨s1.trans s2,et2,(["job",j.name] : List Str),_,_,s2 _ _ ew1,Nat.le_refl _,rfl,rfl⟩ (fun i σ H3 _ h => ⟨hT H3,SqT.of h.2.1⟩) ?_ ?_
    · rintro i x y σ H3 t2 hx hy ⟨s3,e3,cur,v3,v4,ec,lc,ct,rfl⟩ h2
      rw [List.getElem?_map] at hx hy
      obtain ⟨pp,hp',rfl⟩ := Option.map_eq_some_iff.mp hx
      obtain ⟨n,hn,rfl⟩ := Option.map_eq_some_iff.mp hy
      have hi : i < 5 := by have := (List.getElem?_eq_some_iff.mp hp').1; omega
      obtain ⟨wd,lo,hg,hbd,hpt⟩ := hps i pp hp'
      obtain ⟨o0,o1,_,_⟩ := okN_at g.okn hbd hn
      have hbf : ff5[i]? = some false := by
        match i,hi with
        | 0,_ => rfl
        | 1,_ => rfl
        | 2,_ => rfl
        | 3,_ => rfl
        | 4,_ => rfl
      rw [tel_step hbd hn hbf] at ct
      have hcz : ∀ k,k ≤ 30 → k ≤ sizeLine := fun k h => Nat.le_trans h (by decide)
      refine ⟨t2,_,rfl,SqT.of upd_same,rfl,_,_,rfl,_,_,rfl,rfl, ?_⟩
      have s4 : Same H3 (upd H3 t2 (.tup [.ref pp,.int n])) := same_of h2
      generalize upd H3 t2 (.tup [.ref pp,.int n]) = H4 at s4
      refine ⟨_,rfl,_,rfl,pp,_,_,_,rfl,rfl,hpt H4,atI_nat (j := 1) rfl,rfl,_,rfl, ?_⟩
      by_cases hnl : n = lo
      · subst hnl
        refine ite_of (d := false) (by rw [decide_eq_true rfl]; rfl) (fun h => by cases h) (fun _ => ⟨s3.trans s4,s4 _ _ e3,cur,_,_,s4 _ _ ec,by omega, ?_,rfl⟩)
        rw [if_neg (by simp),List.nil_append] at ct
        exact ct
      · refine ite_of (d := true) (by rw [decide_eq_false (fun h => hnl (by injection h))]; rfl) (fun _ => ?_) (fun h => by cases h)
        rw [if_pos (.inl hnl)] at ct
        refine ⟨_,rfl,.inl ⟨rfl,_,SqL.of (s4 _ _ ec)⟩,_,rfl,pp,_,_,_,rfl,rfl,hpt H4,atI_nat (j := 0) rfl,_,rfl,n,rfl,num_log o0 (by omega),(by show 2 ≤ sizeLine; decide),fun b hb => ?_⟩
        have s5 : Same H4 (upd H4 b (.lst [.str wd,.str (tx n)])) := same_of hb
        have eb : (upd H4 b (.lst [.str wd,.str (tx n)])) b = some (.lst (([wd,tx n] : List Str).map V.str)) := upd_same
        generalize upd H4 b (.lst [.str wd,.str (tx n)]) = H5 at s5 eb
        have s35 := s4.trans s5
        refine ⟨wl,b,_,_,rfl,rfl,s35 _ _ ec,eb,hcz _ (by rw [List.length_map,List.length_map]; show cur.length + 2 ≤ 30; omega), ?_⟩
        refine ⟨Same.upd (s3.trans s35) hw0,by rw [upd_ne ntw]; exact s35 _ _ e3,cur ++ [wd,tx n],_,_,by rw [upd_same,List.map_append],by rw [List.length_append]; show cur.length + 2 ≤ _; omega, ?_,rfl⟩
        rw [List.append_assoc]
        exact ct
    · rintro σ H3 ⟨s3,e3,cur,v3,v4,ec,lc,ct,rfl⟩
      rw [tel_end,List.append_nil] at ct
      have hp3 := s3 _ _ hp
      have hl3 := s3 _ _ hl
      have al := allW_wd g ff5
      have fin : ∀ (σ : L2.St) (H4 : Hp),Same H H4 → σ[1]? = some (some (.ref wl)) → H4 wl = some (.lst ((allW j.name j.needs (jn5 j) ff5).map V.str)) → (tRet (tBM K "str" (rJoin K) (tC (.str " ")) (tCons (tVar 1) tNil))) { nx := fun _ H' => Q .non H',rt := Q } σ H4 := fun σ H4 s4 h1 e4 => by
        refine ⟨rfl,_,h1," ",wl,_,rfl,rfl,SqL.of e4, ?_,q _ s4⟩
        refine Nat.le_trans (join_le " " _ al.1 fun y hy => (al.2 y hy).le) ?_
        rw [sp1]
        decide
      refine ⟨_,rfl,p,C,dx,_,_,rfl,hp3,J.cl,J.n2,rfl,_,.inl ⟨_,SqL.of hl3,rfl⟩, ?_⟩
      have hcz : ∀ k,k ≤ 40 → k ≤ sizeLine := fun k h => Nat.le_trans h (by decide)
      have k8 := g.ks8
      by_cases hk : j.needs = []
      · refine ite_of (d := false) (by rw [hk]; rfl) (fun h => by cases h) (fun _ => next_to ?_)
        dsimp only
        refine fin _ _ s3 rfl ?_
        rw [ec,ct]
        unfold allW
        rw [show tail j.needs = [] from by rw [hk]; rfl,List.append_nil]
      · obtain ⟨k,ks,hks⟩ := List.exists_cons_of_ne_nil hk
        refine ite_of (d := true) (by rw [hks]; rfl) (fun _ => ?_) (fun h => by cases h)
        refine ⟨_,rfl,.inl ⟨rfl,_,SqL.of ec⟩,wl,_,_,rfl,rfl,ec,(by rw [List.length_map]; exact Nat.lt_of_lt_of_le (by omega : cur.length < 20) (by decide)), ?_⟩
        have s4 : Same H (upd H3 wl (.lst (cur.map V.str ++ [.str "needs"]))) := Same.upd s3 hw0
        have e4 : (upd H3 wl (.lst (cur.map V.str ++ [.str "needs"]))) wl = some (.lst ((cur ++ (["needs"] : List Str)).map V.str)) := by rw [upd_same,List.map_append]; rfl
        generalize upd H3 wl (.lst (cur.map V.str ++ [.str "needs"])) = H4 at s4 e4
        refine ⟨_,rfl,.inl ⟨rfl,_,SqL.of e4⟩,_,rfl,p,C,dx,_,_,rfl,s4 _ _ hp,J.cl,J.n2,rfl,wl,l,_,_,rfl,rfl,e4,s4 _ _ hl,hcz _ (by rw [List.length_map,List.length_map,List.length_append]; show cur.length + 1 + _ ≤ _; omega), ?_⟩
        dsimp only
        refine fin _ _ (Same.upd s4 hw0) rfl ?_
        rw [upd_same,← List.map_append,ct,show allW j.name j.needs (jn5 j) ff5 = (("job" : Str) :: j.name :: tel pw (jn5 j) ff5) ++ (["needs"] : List Str) ++ j.needs from by unfold allW; rw [hks]; simp [tail]]
end
end K03
namespace L2
section
open PySem
variable {X : Cx}
theorem pe_xgetC {K0 : PySem.W.Frag} (hK : X.K = K0) {e : Expr} {f : Str} {te : TE} {pos : Pos} (he : PE X e te) (hb : attributeBase e f X.env (eval e X.env) = eval e X.env) : PE X (.Attribute e f pos) (tXGet K0 te f) := by
  subst hK
  exact pe_xget he hb
end
end L2
namespace K03
open PySem L2 PyProof.Rows WM
structure JIs (K : PySem.W.Frag) (C : Addr) : Prop where
  ha : PySem.W.findIn K (.ref C) "__class__" = some (some (.builtin "object.__class__"))
  hn : PySem.W.specialIn K (.builtin "object.__class__") "__get__" = some (some (.builtin "getset_descriptor.__get__"))
  htk : PySem.W.takesIn K (.builtin "object.__class__") = some true
  hm : PySem.W.mroIn K C (.type "object") = some true
  is : PySem.W.kitOne K (.ref C) (.ref C) = some true
theorem range_at {n i : Nat} {x : V} (h : (rangeV 0 n)[i]? = some x) : i < n ∧ x = .int (i : Int) := by
  have h1 : i < (rangeV 0 n).length := (List.getElem?_eq_some_iff.mp h).1
  rw [rangeV_length] at h1
  refine ⟨h1, ?_⟩
  simp only [rangeV,List.getElem?_map,List.getElem?_range h1,Option.map_some,Option.some.injEq] at h
  rw [← h,Int.zero_add]
def Jb.nums (j : Jb) : List V := [.int j.rank,.int j.span,.int j.tries,.int j.wait,.int j.grow]
section
variable {P : Program} {w : World} {K : PySem.W.Frag} {mg : Str → Option Value} {base : Heap} {C CH : Addr} {D : Nat → Addr} {R : Nat → Prop}
def spMixed (K : PySem.W.Frag) : Sp := fun vs H Q _ => ∃ (a : Addr) (ns : List Int) (k : Int),vs = [.ref a,.int k] ∧ SqL K H a (ns.map V.int) ∧ 0 ≤ k ∧ k ≤ 1000 ∧ ∀ m H',0 ≤ m → Same H H' → Q (.int m) H'
theorem ok_mixed (Df : Def K mg "_law_mixed" s__law_mixed ["_law_script","_law_k"]) (B : Bltn mg) : Knows P w K mg base 1 "_law_mixed" ["_law_script","_law_k"] (spMixed K) := by
  refine Df.ok sc__law_mixed (fun vs H Q E h => ?_) (fun f cdv A outer s H vs Q E hr h => ?_)
  · obtain ⟨a,ns,k,rfl,_⟩ := h
    rfl
  · obtain ⟨a,ns,k,rfl,hS,hk0,hk1,q⟩ := h
    have hu := hu0 hr
    refine ⟨_,by exact (pss_cons (ps_set (i := 2) sc__law_mixed.nd rfl (Or.inl rfl) (pe_ifExp (pt_cmpR (op_neL hu) (pv 0) (pe_lst pa_nil) (nomark _)) (pe_ix ix_list (pv 0) (pe_op op_mod (pv 1) (pe_bcall call_len_seq rfl B.len PySem.boot_len (pa_c (pv 0) pa_nil))) (fun _ _ => rfl)) pe_int))
      (pss_cons (ps_set (i := 3) sc__law_mixed.nd rfl (Or.inl rfl) (pe_op op_mod (pe_op op_add (pe_op op_add (pe_op op_mul (pv 2) pe_int) (pe_op op_mul (pe_op op_mul pe_int (pv 1)) (pv 1))) (pe_op op_mul pe_int (pv 1))) pe_int))
      (pss_one (ps_ret (pe_op op_fdiv (pe_op op_mod (pe_op op_mul (pv 3) (pe_op op_add pe_int (pe_op op_mul pe_int (pv 1)))) pe_int) pe_int))))), ?_⟩
    refine seq_use (fun v H' => ∃ c : Int,v = .int c ∧ Same H H') (fun Q' kk => ?_) ?_
    · refine ⟨_,rfl,by walk_at "m",fun p hp => ?_⟩
      have s1 : Same H (upd H p (.lst [])) := same_of hp
      refine ⟨a,p,_,[],rfl,rfl,s1.seq hS,SqL.of upd_same,flat_ints _,rfl,_,rfl, ?_⟩
      refine ite2 (fun hne => ?_) (fun _ => kk _ _ ⟨0,rfl,s1⟩)
      have hl : 0 < (ns.map V.int).length := by
        cases ns with
        | nil => exact absurd hne (by decide)
        | cons _ _ => simp
      refine ⟨_,rfl,_,rfl,_,rfl,a,_,rfl,.inl (s1.seq hS),_,_,rfl,rfl,(by omega), ?_⟩
      have hm0 : 0 ≤ k % ((ns.map V.int).length : Int) := Int.emod_nonneg _ (by omega)
      have hm1 : k % ((ns.map V.int).length : Int) < ((ns.map V.int).length : Int) := Int.emod_lt_of_pos _ (by omega)
      obtain ⟨v,hv,hmem,_⟩ := atI_mem hm0 hm1
      obtain ⟨c,_,rfl⟩ := List.mem_map.mp hmem
      exact ⟨a,_,_,_,rfl,rfl,s1.seq hS,hv,kk _ _ ⟨c,rfl,s1⟩⟩
    rintro v H1 ⟨c,rfl,s1⟩
    refine ⟨_,rfl,_,_,rfl,rfl,.inr ⟨by walk_at "m",by walk_at "m"⟩,_,rfl,_,_,rfl,rfl,.inl ⟨by walk_at "m",by walk_at "m"⟩,_,rfl,_,_,rfl,rfl,.inr ⟨by omega,by omega⟩,_,_,rfl,rfl,_,rfl,_,_,rfl,rfl,.inl ⟨by walk_at "m",by walk_at "m"⟩,_,_,rfl,rfl,_,_,rfl,rfl,(by walk_at "m"), ?_⟩
    refine ⟨_,rfl,_,rfl,_,_,rfl,rfl,.inl ⟨by walk_at "m",by walk_at "m"⟩,_,_,rfl,rfl,_,_,rfl,rfl,.inr ⟨by omega,by omega⟩,_,_,rfl,rfl,(by walk_at "m"),_,_,rfl,rfl,⟨by walk_at "m",by walk_at "m"⟩, ?_⟩
    exact q _ _ (by omega) s1
def spRefused (K : PySem.W.Frag) : Sp := fun vs H Q _ => ∃ x : V,vs = [x] ∧ Any K H x ∧ (∀ z,x = .str z → z.length ≤ 900) ∧ (∀ z,x = .str z → jobOf z = none) ∧ ∀ H',Same H H' → Q (.bl true) H'
theorem ok_refused (Df : Def K mg "_law_refused" s__law_refused ["_law_line"]) (B : Bltn mg) (gH : mg "HallError" = some (.ref CH)) (ex : PySem.W.exmOne K (.ref (D 7)) (.ref CH) = some true) (R7 : R 7) (ec : ECls K (D 7)) (na : NoAttr K (D 7) "place")
    (k_job_of : KnowsX P w K mg base 8 "job_of" ["line"] (spJobOf K C (D 7))) (k_alone : KnowsQ P w K mg base 2 "_law_alone" ["_law_e","_law_which"] (spAlone D R)) : Knows P w K mg base 9 "_law_refused" ["_law_line"] (spRefused K) := by
  refine Df.ok sc__law_refused (fun vs H Q E h => ?_) (fun f cdv A outer s H vs Q E hr h => ?_)
  · obtain ⟨x,rfl,_⟩ := h
    rfl
  · obtain ⟨x,rfl,ax,sx,hx,q⟩ := h
    refine ⟨_,by exact (pss_cons (ps_tryAs (i := 1) rfl rfl gH (fun _ => PassesOwnAt.never) sc__law_refused.nd rfl rfl (fun Eb pn xe hL => pss_one (ps_expr (pe_callS k_job_of hr hL (pa_c (pv 0) pa_nil))))
      (fun a => pss_one (ps_ret (pe_and (pe_callQ k_alone (hr.q.mark _) (pa_c (pv 1) (pa_c pe_int pa_nil))) (pe_and (pe_isiC (K0 := K) rfl B.isi B.int boot_int (pe_xgetC (K0 := K) rfl (pv 1) rfl)) (pe_and (pe_not (pe_isiC (K0 := K) rfl B.isi B.bool boot_bool (pe_xgetC (K0 := K) rfl (pv 1) rfl))) (pe_one (pe_cmpR op_eq (pe_xgetC (K0 := K) rfl (pv 1) rfl) pe_int (nomark _))))))))) (pss_one (ps_ret pe_bl))), ?_⟩
    refine ⟨fun σ' c od H' => c = .ref (D 7) ∧ ∃ dx,od = some dx ∧ Same H H' ∧ H' dx = some (.xd [("place",.int 0)]) ∧ σ' = [some x,none], ?_, ?_⟩
    · refine ⟨_,rfl,x,rfl,ax,sx,fun z nm ks a b c d e h1 h2 => ?_,fun _ dx H' s' hd e => ⟨rfl,dx,rfl,s',e,rfl⟩⟩
      rw [hx z h1] at h2
      cases h2
    · rintro σ' C' od oc H' ⟨e1,dx,rfl,s1,ed,rfl⟩ oz xc
      cases e1
      refine ⟨ex,fun a ha => ?_⟩
      have ea : (upd H' a (ExcC a (D 7) (some dx) oc)) a = some (ExcC a (D 7) (some dx) oc) := upd_same
      have sa : Same H' (upd H' a (ExcC a (D 7) (some dx) oc)) := same_of ha
      have ed1 := sa _ _ ed
      have xc1 : XcOk (upd H' a (ExcC a (D 7) (some dx) oc)) oc := fun b hb => let ⟨c1,o1,h⟩ := xc b hb; ⟨c1,o1,sa _ _ h⟩
      generalize upd H' a (ExcC a (D 7) (some dx) oc) = H2 at ea sa ed1 xc1
      refine ⟨_,rfl,⟨a,D 7,some dx,oc,rfl,ea,xc1⟩,a,7,some dx,oc,rfl,R7,ea,(fun y hy => by cases hy; exact ⟨_,ed1⟩),fun H3 s3 => ⟨_,rfl,iteT ?_⟩⟩
      have ea3 := s3 _ _ ea
      have ed3 := s3 _ _ ed1
      refine ⟨_,rfl,a,D 7,dx,oc,_,_,rfl,ea3,ed3,ec,na,rfl,_,_,true,rfl,.int _,by kernel_rfl,_,rfl,iteT ?_⟩
      refine ⟨_,rfl,a,D 7,dx,oc,_,_,rfl,ea3,ed3,ec,na,rfl,_,_,false,rfl,.int _,by kernel_rfl,_,rfl,_,rfl,iteT ?_⟩
      exact ⟨_,rfl,a,D 7,dx,oc,_,_,rfl,ea3,ed3,ec,na,rfl,rfl,q H3 ((s1.trans sa).trans s3)⟩
structure DueAt (H : Hp) (t tl nl : Addr) (j : Jb) : Prop where
  t : H t = some (.tup [.str j.name,.ref tl,.ref nl])
  l : H tl = some (.lst (j.needs.map V.str))
  n : H nl = some (.lst j.nums)
theorem DueAt.same {H H' : Hp} {t tl nl : Addr} {j : Jb} (h : DueAt H t tl nl j) (s : Same H H') : DueAt H' t tl nl j := ⟨s _ _ h.t,s _ _ h.l,s _ _ h.n⟩
def spIs (C : Addr) : Sp := fun vs H Q _ => ∃ (p l t tl nl : Addr) (j : Jb),vs = [.ref p,.ref t] ∧ JobL C H p l j ∧ DueAt H t tl nl j ∧ ∀ H',Same H H' → Q (.bl true) H'
theorem ok_is (Df : Def K mg "_law_is" s__law_is ["_law_job","_law_due"]) (B : Bltn mg) (J : JCls K mg C) (I : JIs K C) : Knows P w K mg base 1 "_law_is" ["_law_job","_law_due"] (spIs C) := by
  refine Df.ok sc__law_is (fun vs H Q E h => ?_) (fun f cdv A outer s H vs Q E hr h => ?_)
  · obtain ⟨p,l,t,tl,nl,j,rfl,_⟩ := h
    rfl
  · obtain ⟨p,l,t,tl,nl,j,rfl,jl,du,q⟩ := h
    have hu := hu0 hr
    obtain ⟨⟨dx,hp⟩,hl⟩ := jl
    refine ⟨_,by exact (pss_cons (ps_set (i := 2) sc__law_is.nd rfl (Or.inl rfl) (pe_lst (pa_c (pe_fld (pv 0) rfl) (pa_c (pe_fld (pv 0) rfl) (pa_c (pe_fld (pv 0) rfl) (pa_c (pe_fld (pv 0) rfl) (pa_c (pe_fld (pv 0) rfl) pa_nil)))))))
      (pss_cons (ps_if (PW.pt (pw_or (pt_not (pt_val (pe_bcall (call_isiO C) rfl B.isi boot_isinstance (pa_c (pv 0) (pa_c (pe_glob (v := .ref C) rfl J.mgC rfl) pa_nil))))) (pw_or1 (pt_not (pt_val (pe_isiM B.isi B.list boot_list (pe_fld (pv 0) rfl))))))) (pss_one (ps_ret pe_bl)) pss_nil)
      (pss_cons (ps_if (PW.pt (pw_or (pt_cmpR op_ne (pe_fld (pv 0) rfl) (pe_ix ix_tup (pv 1) pe_int (fun _ _ => rfl)) (nomark _)) (pw_or1 (pt_cmpR (op_neL hu) (pe_fld (pv 0) rfl) (pe_ix ix_tup (pv 1) pe_int (fun _ _ => rfl)) (nomark _))))) (pss_one (ps_ret pe_bl)) pss_nil)
      (pss_cons (ps_setC (i := 3) [] ["_law_one"] sc__law_is.nd rfl (Or.inl rfl) rfl (pi_list (pv 2)) (fun _ _ _ _ => pts_one (PW.pt (pw_or (pt_not (pt_val (pe_isiC (K0 := K) rfl B.isi B.int boot_int (pv 0)))) (pw_or1 (pt_val (pe_isiC (K0 := K) rfl B.isi B.bool boot_bool (pv 0))))))) (fun _ _ _ _ => (pv 0)))
      (pss_one (ps_ret (pe_and (pe_cmpR (op_eqL hu) (pv 2) (pe_ix ix_tup (pv 1) pe_int (fun _ _ => rfl)) (nomark _)) (pe_one (pe_cmpR (op_eqL hu) (pv 3) (pe_lst pa_nil) (nomark _)))))))))), ?_⟩
    refine seq_use (fun v H' => ∃ b,v = .ref b ∧ H' b = some (.lst j.nums) ∧ Same H H') (fun Q' kk => ?_) ?_
    · refine ⟨_,rfl,p,C,dx,_,_,rfl,hp,J.cl,J.n3,rfl,_,rfl,p,C,dx,_,_,rfl,hp,J.cl,J.n4,rfl,_,rfl,p,C,dx,_,_,rfl,hp,J.cl,J.n5,rfl,_,rfl,p,C,dx,_,_,rfl,hp,J.cl,J.n6,rfl,_,rfl,p,C,dx,_,_,rfl,hp,J.cl,J.n7,rfl,(by show 5 ≤ sizeLine; decide),fun b hb => ?_⟩
      exact kk _ _ ⟨b,rfl,upd_same,same_of hb⟩
    rintro _ H1 ⟨b,rfl,eb,s1⟩
    have hp1 := s1 _ _ hp
    have hl1 := s1 _ _ hl
    have du1 := du.same s1
    refine ⟨_,rfl,_,_,true,rfl,.ins hp1 J.cl I.ha I.hn I.htk I.hm,I.is,_,rfl,iteF ?_⟩
    refine ⟨_,rfl,p,C,dx,_,_,rfl,hp1,J.cl,J.n2,rfl,_,_,true,rfl,.lst hl1,by kernel_rfl,_,rfl,iteF ?_⟩
    refine ⟨_,rfl,p,C,dx,_,_,rfl,hp1,J.cl,J.n1,rfl,_,rfl,t,_,_,_,rfl,rfl,SqT.of du1.t,atI_nat (j := 0) rfl,rfl,_,rfl,ite_of (d := false) (by simp) (fun h => by cases h) (fun _ => ?_)⟩
    refine ⟨_,rfl,p,C,dx,_,_,rfl,hp1,J.cl,J.n2,rfl,_,rfl,t,_,_,_,rfl,rfl,SqT.of du1.t,atI_nat (j := 1) rfl,l,tl,_,_,rfl,rfl,SqL.of hl1,SqL.of du1.l,flat_strs _,flat_strs _,_,rfl,ite_of (d := false) (by rw [eqL_refl (flat_strs _)]; rfl) (fun h => by cases h) (fun _ => ?_)⟩
    refine next_to ?_
    dsimp only
    refine ⟨_,rfl,b,rfl,⟨_,SqL.of eb⟩, ?_⟩
    refine comp1_wk (wk_list K b j.nums) (fun i ys H' => ys = [] ∧ H' = H1) ⟨rfl,rfl⟩ (fun i ys H' _ h => ⟨by rw [h.2]; exact SqL.of eb,by rw [h.1]; exact Nat.zero_le _⟩) (by show 5 ≤ sizeLine; decide) (fun i x ys H' Nx hx h kk => ?_) (fun ys H' h Dd hD => ?_)
    · obtain ⟨rfl,rfl⟩ := h
      obtain ⟨n,rfl⟩ : ∃ n : Int,x = .int n := by
        have := List.mem_of_getElem? hx
        simp only [Jb.nums,List.mem_cons,List.not_mem_nil,or_false] at this
        rcases this with rfl | rfl | rfl | rfl | rfl <;> exact ⟨_,rfl⟩
      refine ⟨_,rfl,_,_,true,rfl,.int _,by kernel_rfl,_,rfl,iteF ?_⟩
      exact ⟨_,rfl,_,_,false,rfl,.int _,by kernel_rfl,_,rfl,iteF (kk _ _ ⟨rfl,rfl⟩)⟩
    · obtain ⟨rfl,rfl⟩ := h
      have sD : Same H' (upd H' Dd (.lst [])) := same_of hD
      have eD : (upd H' Dd (.lst [])) Dd = some (.lst []) := upd_same
      generalize upd H' Dd (.lst []) = H2 at sD eD
      dsimp only [gName]
      have du2 := du1.same sD
      refine ⟨_,rfl,_,rfl,t,_,_,_,rfl,rfl,SqT.of du2.t,atI_nat (j := 2) rfl,b,nl,_,_,rfl,rfl,SqL.of (sD _ _ eb),SqL.of du2.n,rfl,rfl,_,rfl,ite_of (d := true) (by rw [show (if false = true then !eqL j.nums j.nums else eqL j.nums j.nums) = eqL j.nums j.nums from rfl,eqL_refl rfl]) (fun _ => ?_) (fun h => by cases h)⟩
      refine ⟨_,rfl,by decide,fun u hu => ?_⟩
      have su : Same H2 (upd H2 u (.lst [])) := same_of hu
      exact ⟨Dd,u,[],[],rfl,rfl,SqL.of (su _ _ eD),SqL.of upd_same,rfl,rfl,q _ ((s1.trans sD).trans su)⟩
end
end K03
namespace K03
open PySem L2 PyProof.Rows WM
theorem take12 (x : Str) : (Txt.slice x none (some 12)).cps.toList = x.cps.toList.take 12 := by
  have h := slice_to_min_closes (x := x) (n := 12) (m := if (x.length : Int) < 12 then (x.length : Int) else 12) (by decide) rfl
  rw [eq_of_beq h]
  show ((x.cps.toList.drop 0).take _) = _
  rw [List.drop_zero]
  by_cases h12 : (x.length : Int) < 12
  · rw [if_pos h12]
    have e : x.cps.toList.length = x.length := by simp [Str.length]
    rw [List.take_of_length_le (by omega),List.take_of_length_le (by omega)]
  · rw [if_neg h12]
    rfl
theorem rep_list (c n : Nat) : (repS ⟨#[c]⟩ n).cps.toList = List.replicate n c := by
  unfold repS
  show (List.replicate n [c]).flatten = _
  induction n with
  | zero => rfl
  | succ n ih => rw [List.replicate_succ,List.flatten_cons,ih,List.replicate_succ]; rfl
theorem rep_len (c n : Nat) : (repS ⟨#[c]⟩ n).length = n := by
  have : (repS ⟨#[c]⟩ n).cps.toList.length = n := by rw [rep_list,List.length_replicate]
  simpa [Str.length] using this
theorem let_get : ∀ n,n < 26 → LET.cps.toList[n]? = some (97 + n) := by decide
theorem let_at {i : Int} (h0 : 0 ≤ i) (h1 : i < 26) : atI LET.cps.toList i = some (97 + i.toNat) := by
  obtain ⟨n,rfl⟩ := Int.eq_ofNat_of_zero_le h0
  exact atI_nat (let_get n (by omega))
theorem let_mem {n : Nat} (h : n < 26) : 97 + n ∈ LET.cps.toList := List.mem_of_getElem? (let_get n h)
theorem name_of {z : Str} (h1 : 1 ≤ z.cps.toList.length) (h2 : z.cps.toList.length ≤ 12) (h3 : ∀ c ∈ z.cps.toList,c ∈ LET.cps.toList) : isName z = true := by
  have e : z.length = z.cps.toList.length := by simp [Str.length]
  unfold isName madeOf
  rw [Bool.and_eq_true,Bool.and_eq_true,decide_eq_true_eq,decide_eq_true_eq,List.all_eq_true]
  exact ⟨⟨by omega,by omega⟩,fun c hc => decide_eq_true (h3 c hc)⟩
theorem nodup_map {g : Nat → Str} {n : Nat} (h : ∀ i j,i < j → j < n → g i ≠ g j) : ((List.range n).map g).Nodup := by
  rw [List.Nodup,List.pairwise_map]
  refine List.Pairwise.imp_of_mem (fun {i j} hi hj hij => h i j hij (by simpa using hj)) (List.pairwise_lt_range (n := n))
def nmA (c : Nat) (f : Int) (k : Nat) : Str := repS ⟨#[c]⟩ (1 + (f + (k : Int)) % 12).toNat
theorem nmA_name {c : Nat} (hc : c ∈ LET.cps.toList) (f : Int) (k : Nat) : isName (nmA c f k) = true := by
  have e := rep_list c (1 + (f + (k : Int)) % 12).toNat
  refine name_of ?_ ?_ ?_
  · show 1 ≤ (repS ⟨#[c]⟩ _).cps.toList.length; rw [e,List.length_replicate]; omega
  · show (repS ⟨#[c]⟩ _).cps.toList.length ≤ 12; rw [e,List.length_replicate]; omega
  · intro d hd
    unfold nmA at hd
    rw [e] at hd
    rw [List.eq_of_mem_replicate hd]
    exact hc
theorem nmA_nodup (c : Nat) (f : Int) {n : Nat} (hn : n ≤ 9) : ((List.range n).map (nmA c f)).Nodup := nodup_map fun i j hij hj e => by
  have := congrArg Str.length e
  unfold nmA at this
  rw [rep_len,rep_len] at this
  omega
def nmB (c : Nat) (f : Int) (p s : Nat) (k : Nat) : Str := Txt.slice (repS ⟨#[c]⟩ p ++ (⟨#[97 + ((f + (k : Int)) % 26).toNat]⟩ : Str) ++ repS ⟨#[c]⟩ s) none (some 12)
theorem nmB_list (c : Nat) (f : Int) (p s k : Nat) : (nmB c f p s k).cps.toList = (List.replicate p c ++ [97 + ((f + (k : Int)) % 26).toNat] ++ List.replicate s c).take 12 := by
  unfold nmB
  rw [take12,app_list,app_list,rep_list,rep_list]
theorem nmB_name {c : Nat} (hc : c ∈ LET.cps.toList) (f : Int) (p s k : Nat) : isName (nmB c f p s k) = true := by
  have e := nmB_list c f p s k
  refine name_of ?_ ?_ ?_
  · rw [e]
    simp only [List.length_take,List.length_append,List.length_replicate,List.length_cons,List.length_nil]
    omega
  · rw [e]
    simp only [List.length_take]
    omega
  · intro d hd
    rw [e] at hd
    have := List.mem_of_mem_take hd
    simp only [List.mem_append,List.mem_singleton] at this
    rcases this with (h | h) | h
    · rw [List.eq_of_mem_replicate h]; exact hc
    · rw [h]; exact let_mem (by omega)
    · rw [List.eq_of_mem_replicate h]; exact hc
theorem nmB_at (c : Nat) (f : Int) {p : Nat} (hp : p < 12) (s k : Nat) : (nmB c f p s k).cps.toList[p]? = some (97 + ((f + (k : Int)) % 26).toNat) := by
  rw [nmB_list,List.getElem?_take_of_lt hp,List.append_assoc,List.getElem?_append_right (by simp)]
  simp
theorem nmB_nodup (c : Nat) (f : Int) {p : Nat} (hp : p < 12) (s : Nat) {n : Nat} (hn : n ≤ 9) : ((List.range n).map (nmB c f p s)).Nodup := nodup_map fun i j hij hj e => by
  have h1 := nmB_at c f hp s i
  rw [e,nmB_at c f hp s j] at h1
  have := Option.some.inj h1
  omega
abbrev some9 : List Str := ["rank","span","tries","wait","grow","needs","job","jobs","ran"]
def nmC (f : Int) (k : Nat) : Str := some9.getD ((f + (k : Int)) % 9).toNat ""
theorem some9_name : some9.all isName = true := by decide +kernel
theorem some9_nodup : some9.Nodup := by decide +kernel
theorem nmC_get (f : Int) (k : Nat) : some9[((f + (k : Int)) % 9).toNat]? = some (nmC f k) := by
  have h : ((f + (k : Int)) % 9).toNat < some9.length := by show _ < 9; omega
  unfold nmC
  rw [List.getD_eq_getElem?_getD,List.getElem?_eq_getElem h]
  rfl
theorem nmC_at (f : Int) (k : Nat) : atI (some9.map V.str) ((f + (k : Int)) % 9) = some (.str (nmC f k)) := by
  have h0 : 0 ≤ (f + (k : Int)) % 9 := Int.emod_nonneg _ (by decide)
  rw [← Int.toNat_of_nonneg h0]
  refine atI_nat ?_
  rw [List.getElem?_map,nmC_get]
  rfl
theorem nmC_name (f : Int) (k : Nat) : isName (nmC f k) = true := List.all_eq_true.mp some9_name _ (List.mem_of_getElem? (nmC_get f k))
theorem nmC_nodup (f : Int) {n : Nat} (hn : n ≤ 9) : ((List.range n).map (nmC f)).Nodup := nodup_map fun i j hij hj e => by
  have h1 := nmC_get f i
  have h2 := nmC_get f j
  rw [e] at h1
  have := (List.getElem?_inj (i := ((f + (i : Int)) % 9).toNat) (j := ((f + (j : Int)) % 9).toNat) (by show _ < 9; omega) some9_nodup).mp (h1.trans h2.symm)
  omega
section
variable {P : Program} {w : World} {K : PySem.W.Frag} {mg : Str → Option Value} {base : Heap}
def spNames (K : PySem.W.Frag) : Sp := fun vs H Q _ => ∃ (a : Addr) (ns : List Int) (n : Nat),vs = [.ref a,.int (n : Int)] ∧ SqL K H a (ns.map V.int) ∧ n ≤ 9 ∧ ∀ (ks : List Str) l H',Same H H' → H' l = some (.lst (ks.map V.str)) → ks.length = n → ks.Nodup → (∀ k ∈ ks,isName k = true) → Q (.ref l) H'
theorem ok_names (Df : Def K mg "_law_names" s__law_names ["_law_script","_law_many"]) (B : Bltn mg) (k__law_mixed : Knows P w K mg base 1 "_law_mixed" ["_law_script","_law_k"] (spMixed K)) : Knows P w K mg base 2 "_law_names" ["_law_script","_law_many"] (spNames K) := by
  refine Df.ok sc__law_names (fun vs H Q E h => ?_) (fun f cdv A outer s H vs Q E hr h => ?_)
  · obtain ⟨a,ns,n,rfl,_⟩ := h
    rfl
  · obtain ⟨a,ns,n,rfl,hS,hn,q⟩ := h
    refine ⟨_,by exact (pss_cons (ps_set (i := 2) sc__law_names.nd rfl (Or.inl rfl) pe_str)
      (pss_cons (ps_set (i := 3) sc__law_names.nd rfl (Or.inr rfl) (pe_ix ix_str (pv 2) (pe_op op_mod (pe_callM k__law_mixed hr (pa_c (pv 0) (pa_c pe_int pa_nil))) pe_int) (fun _ _ => rfl)))
      (pss_cons (ps_set (i := 4) sc__law_names.nd rfl (Or.inr rfl) (pe_op op_mod (pe_callM k__law_mixed hr (pa_c (pv 0) (pa_c pe_int pa_nil))) pe_int))
      (pss_cons (ps_set (i := 5) sc__law_names.nd rfl (Or.inl rfl) (pe_op op_mod (pe_callM k__law_mixed hr (pa_c (pv 0) (pa_c pe_int pa_nil))) pe_int))
      (pss_cons (ps_set (i := 6) sc__law_names.nd rfl (Or.inl rfl) (pe_op op_add pe_int (pe_op op_mod (pe_callM k__law_mixed hr (pa_c (pv 0) (pa_c pe_int pa_nil))) pe_int)))
      (pss_cons (ps_set (i := 7) sc__law_names.nd rfl (Or.inl rfl) (pe_op op_mod (pe_callM k__law_mixed hr (pa_c (pv 0) (pa_c pe_int pa_nil))) pe_int))
      (pss_cons (ps_if (pt_cmpR op_eq (pv 7) pe_int (nomark _)) (pss_one (ps_ret (pe_comp1 [3,4] ["_law_k","_law_fill","_law_first"] rfl (pi_range1 rfl B.range (pa_c (pv 1) pa_nil)) (fun _ _ _ _ => pts_nil) (fun _ _ _ _ => (pe_op op_repS (pv 1) (pe_op op_add pe_int (pe_op op_mod (pe_op op_add (pv 2) (pv 0)) pe_int))))))) pss_nil)
      (pss_cons (ps_if (pt_cmpR op_eq (pv 7) pe_int (nomark _)) (pss_cons (ps_set (i := 8) sc__law_names.nd rfl (Or.inr rfl) (pe_lst (pa_c pe_str (pa_c pe_str (pa_c pe_str (pa_c pe_str (pa_c pe_str (pa_c pe_str (pa_c pe_str (pa_c pe_str (pa_c pe_str pa_nil)))))))))))
      (pss_one (ps_ret (pe_comp1 [4,8] ["_law_k","_law_first","_law_some"] rfl (pi_range1 rfl B.range (pa_c (pv 1) pa_nil)) (fun _ _ _ _ => pts_nil) (fun _ _ _ _ => (pe_ix (ix_listC (K0 := K) rfl) (pv 2) (pe_op op_mod (pe_op op_add (pv 1) (pv 0)) pe_int) (fun _ _ => rfl))))))) pss_nil)
      (pss_cons (ps_set (i := 9) sc__law_names.nd rfl (Or.inl rfl) (pe_lst pa_nil))
      (pss_cons (ps_for PassesOwn.never rfl (pi_range1 rfl B.range (pa_c (pv 1) pa_nil)) (pg_name (i := 10) sc__law_names.nd rfl (Or.inl rfl)) (pss_cons (ps_set (i := 11) sc__law_names.nd rfl (Or.inl rfl) (pe_ix ix_str (pv 2) (pe_op op_mod (pe_op op_add (pv 4) (pv 10)) pe_int) (fun _ _ => rfl)))
      (pss_one (ps_expr (pe_mcall PySem.F.plainAttrs_list PySem.F.slot_list_append PySem.F.type_list_append mt_append (pv 9) (pa_c (pe_slice sl_str (pe_op op_add_str (pe_op op_add_str (pe_op op_repS (pv 3) (pv 5)) (pv 11)) (pe_op op_repS (pv 3) (pv 6))) po_none (po_some pe_int)) pa_nil))))))
      (pss_one (ps_ret (pv 9))))))))))))), ?_⟩
    refine seq_use (fun v H' => v = .str LET ∧ H = H') (fun Q' kk => kk _ _ ⟨rfl,rfl⟩) ?_
    rintro _ _ ⟨rfl,rfl⟩
    refine seq_use (fun v H' => ∃ c,v = .str ⟨#[c]⟩ ∧ c ∈ LET.cps.toList ∧ Same H H') (fun Q' kk => ?_) ?_
    · refine ⟨_,rfl,_,rfl,a,ns,1,rfl,hS,by decide,by decide,fun m H1 hm s1 => ⟨_,_,rfl,rfl,by walk_at "m", ?_⟩⟩
      have b0 := Int.emod_nonneg m (show (26 : Int) ≠ 0 by decide)
      have b1 := Int.emod_lt_of_pos m (show (0 : Int) < 26 by decide)
      exact ⟨_,_,_,rfl,rfl,by decide,let_at b0 b1,kk _ _ ⟨_,rfl,let_mem (by omega),s1⟩⟩
    rintro _ H1 ⟨c,rfl,hc,s1⟩
    refine seq_use (fun v H' => ∃ x : Int,v = .int x ∧ 0 ≤ x ∧ x < 26 ∧ Same H H') (fun Q' kk => ?_) ?_
    · exact ⟨_,rfl,a,ns,2,rfl,s1.seq hS,by decide,by decide,fun m H2 hm s2 => ⟨_,_,rfl,rfl,by walk_at "m",kk _ _ ⟨_,rfl,Int.emod_nonneg _ (by decide),Int.emod_lt_of_pos _ (by decide),s1.trans s2⟩⟩⟩
    rintro _ H2 ⟨fi,rfl,f0,f1,s2⟩
    refine seq_use (fun v H' => ∃ x : Nat,v = .int (x : Int) ∧ x < 12 ∧ Same H H') (fun Q' kk => ?_) ?_
    · refine ⟨_,rfl,a,ns,3,rfl,s2.seq hS,by decide,by decide,fun m H3 hm s3 => ⟨_,_,rfl,rfl,by walk_at "m", ?_⟩⟩
      refine kk _ _ ⟨(m % 12).toNat, ?_, ?_,s2.trans s3⟩
      · rw [Int.toNat_of_nonneg (Int.emod_nonneg _ (by decide))]
      · omega
    rintro _ H3 ⟨sp,rfl,p1,s3⟩
    refine seq_use (fun v H' => ∃ x : Nat,v = .int (x : Int) ∧ x ≤ 12 ∧ Same H H') (fun Q' kk => ?_) ?_
    · refine ⟨_,rfl,a,ns,4,rfl,s3.seq hS,by decide,by decide,fun m H4 hm s4 => ⟨_,_,rfl,rfl,by walk_at "m",_,_,rfl,rfl, ?_⟩⟩
      refine kk _ _ ⟨(1 + m % 12).toNat, ?_, ?_,s3.trans s4⟩
      · rw [Int.toNat_of_nonneg (by omega)]
      · omega
    rintro _ H4 ⟨sz,rfl,z1,s4⟩
    refine seq_use (fun v H' => ∃ x : Int,v = .int x ∧ Same H H') (fun Q' kk => ?_) ?_
    · exact ⟨_,rfl,a,ns,5,rfl,s4.seq hS,by decide,by decide,fun m H2 hm s5 => ⟨_,_,rfl,rfl,by walk_at "m",kk _ _ ⟨_,rfl,s4.trans s5⟩⟩⟩
    rintro _ H5 ⟨wy,rfl,s5⟩
    dsimp only
    refine ⟨_,rfl,rfl,_,rfl, ?_⟩
    refine ite2 (fun _ => ?_) (fun _ => next_to ?_)
    · refine ⟨_,rfl,_,rfl,by omega,by omega, ?_⟩
      refine comp1_wk (wk_range 0 n) (fun i ys H' => H' = H5 ∧ ys = ((List.range i).map (nmA c fi)).map V.str) ⟨rfl,rfl⟩ (fun i ys H' _ h => ⟨trivial,by rw [h.2]; simp⟩) (by rw [rangeV_length]; exact Nat.le_trans hn (by decide)) (fun i x ys H' Nx hx h kk => ?_) (fun ys H' h Dd hD => ?_)
      · obtain ⟨rfl,rfl⟩ := h
        obtain ⟨hi,rfl⟩ := range_at hx
        refine tTrue_use ⟨_,rfl,_,rfl,_,rfl,_,_,rfl,rfl,_,_,rfl,rfl,by walk_at "m",_,_,rfl,rfl, ?_⟩
        refine ⟨_,_,rfl,rfl,(by show 1 ≤ 1; decide),by omega, ?_,kk _ _ ⟨rfl, ?_⟩⟩
        · show ((1 : Nat) : Int) * _ ≤ 100000
          omega
        · rw [List.range_succ,List.map_append,List.map_append]
          rfl
      · obtain ⟨rfl,rfl⟩ := h
        rw [rangeV_length]
        refine q _ Dd _ (s5.trans (same_of hD)) upd_same (by simp) (nmA_nodup c fi hn) fun k hk => ?_
        obtain ⟨i,_,rfl⟩ := List.mem_map.mp hk
        exact nmA_name hc fi i
    dsimp only
    refine ⟨_,rfl,rfl,_,rfl, ?_⟩
    refine ite2 (fun _ => ?_) (fun _ => next_to ?_)
    · refine seq_use (fun v H' => ∃ sl,v = .ref sl ∧ H' sl = some (.lst (some9.map V.str)) ∧ Same H H') (fun Q' kk => ⟨by decide,fun sl hsl => kk _ _ ⟨sl,rfl,upd_same,s5.trans (same_of hsl)⟩⟩) ?_
      rintro _ H6 ⟨sl,rfl,es,s6⟩
      refine ⟨_,rfl,_,rfl,by omega,by omega, ?_⟩
      refine comp1_wk (wk_range 0 n) (fun i ys H' => H' = H6 ∧ ys = ((List.range i).map (nmC fi)).map V.str) ⟨rfl,rfl⟩ (fun i ys H' _ h => ⟨trivial,by rw [h.2]; simp⟩) (by rw [rangeV_length]; exact Nat.le_trans hn (by decide)) (fun i x ys H' Nx hx h kk => ?_) (fun ys H' h Dd hD => ?_)
      · obtain ⟨rfl,rfl⟩ := h
        obtain ⟨hi,rfl⟩ := range_at hx
        refine tTrue_use ⟨_,rfl,_,rfl,_,rfl,_,_,rfl,rfl,_,_,rfl,rfl,by walk_at "m", ?_⟩
        refine ⟨sl,_,_,_,rfl,rfl,SqL.of es,nmC_at fi i,kk _ _ ⟨rfl, ?_⟩⟩
        rw [List.range_succ,List.map_append,List.map_append]
        rfl
      · obtain ⟨rfl,rfl⟩ := h
        rw [rangeV_length]
        refine q _ Dd _ (s6.trans (same_of hD)) upd_same (by simp) (nmC_nodup fi hn) fun k hk => ?_
        obtain ⟨i,_,rfl⟩ := List.mem_map.mp hk
        exact nmC_name fi i
    · dsimp only
      refine ⟨by decide,fun l hl => ?_⟩
      have hl0 := same_none s5 hl
      have s6 : Same H (upd H5 l (.lst [])) := s5.trans (same_of hl)
      have e6 : (upd H5 l (.lst [])) l = some (.lst []) := upd_same
      generalize upd H5 l (.lst []) = H6 at s6 e6
      dsimp only
      refine ⟨_,rfl,_,rfl,by omega,by omega, ?_⟩
      refine for_range (n := n) (fun i σ H7 => Same H H7 ∧ H7 l = some (.lst (((List.range i).map (nmB c fi sp sz)).map V.str)) ∧ ∃ v8 v9,σ = [some (.ref a),some (.int (n : Int)),some (.str LET),some (.str ⟨#[c]⟩),some (.int fi),some (.int (sp : Int)),some (.int (sz : Int)),some (.int wy),none,some (.ref l),v8,v9]) ⟨s6,e6,_,_,rfl⟩ ?_ ?_
      · rintro i σ H7 hi ⟨s7,e7,v8,v9,rfl⟩
        rw [Int.zero_add]
        refine ⟨_,rfl,_,rfl,_,rfl,_,_,rfl,rfl,_,_,rfl,rfl,by walk_at "m", ?_⟩
        have b0 := Int.emod_nonneg (fi + (i : Int)) (show (26 : Int) ≠ 0 by decide)
        have b1 := Int.emod_lt_of_pos (fi + (i : Int)) (show (0 : Int) < 26 by decide)
        refine ⟨_,_,_,rfl,rfl,by decide,let_at b0 b1, ?_⟩
        dsimp only [gName]
        have l1 : (repS ⟨#[c]⟩ (sp : Int).toNat).length = sp := rep_len c sp
        have l2 : (repS ⟨#[c]⟩ (sz : Int).toNat).length = sz := rep_len c sz
        have l3 : ∀ x y : Str,(x ++ y).length = x.length + y.length := fun x y => by
          have := congrArg List.length (app_list x y)
          simpa [Str.length] using this
        have z30 : ∀ n,n ≤ 30 → n ≤ sizeLine := fun n h => Nat.le_trans h (by decide)
        have k1 : (⟨#[97 + ((fi + (i : Int)) % 26).toNat]⟩ : Str).length = 1 := rfl
        refine ⟨_,rfl,.inl ⟨rfl,_,SqL.of e7⟩,_,rfl,_,rfl,_,_,rfl,rfl,(by show 1 ≤ 1; decide),by omega,(by show ((1 : Nat) : Int) * _ ≤ 100000; omega),_,rfl,_,_,rfl,rfl,z30 _ ?_,_,rfl,_,rfl,_,_,rfl,rfl,(by show 1 ≤ 1; decide),by omega,(by show ((1 : Nat) : Int) * _ ≤ 100000; omega),_,_,rfl,rfl,z30 _ ?_,_,rfl,_,rfl,z30 _ ?_,l,_,_,rfl,rfl,e7, ?_, ?_⟩
        · rw [l1,k1]; omega
        · rw [l3,l1,k1,l2]; omega
        · rw [l3,l3,l1,k1,l2]; omega
        · rw [List.length_map,List.length_map,List.length_range]; exact Nat.lt_of_lt_of_le (Nat.lt_of_lt_of_le hi hn) (by decide)
        · refine ⟨Same.upd s7 hl0, ?_,_,_,rfl⟩
          rw [upd_same,List.range_succ,List.map_append,List.map_append]
          rfl
      · rintro σ H7 ⟨s7,e7,v8,v9,rfl⟩
        refine ⟨_,rfl,q _ l _ s7 e7 (by simp) (nmB_nodup c fi p1 sz hn) fun k hk => ?_⟩
        obtain ⟨i,_,rfl⟩ := List.mem_map.mp hk
        exact nmB_name hc fi sp sz i
end
end K03
namespace K03
open PySem L2 PyProof.Rows WM
abbrev loN : List Int := [0,1,1,0,1]
abbrev hiN : List Int := [99,1000,20,1000,4]
theorem pw3 {i : Nat} (h : i < 5) : ∃ w lo hi,pw[i]? = some (w,lo,hi) ∧ loN[i]? = some lo ∧ hiN[i]? = some hi ∧ 0 ≤ lo ∧ lo ≤ hi ∧ hi ≤ 1000 := by
  match i,h with
  | 0,_ => exact ⟨_,_,_,rfl,rfl,rfl,by decide,by decide,by decide⟩
  | 1,_ => exact ⟨_,_,_,rfl,rfl,rfl,by decide,by decide,by decide⟩
  | 2,_ => exact ⟨_,_,_,rfl,rfl,rfl,by decide,by decide,by decide⟩
  | 3,_ => exact ⟨_,_,_,rfl,rfl,rfl,by decide,by decide,by decide⟩
  | 4,_ => exact ⟨_,_,_,rfl,rfl,rfl,by decide,by decide,by decide⟩
theorem ints_at {xs : List Int} {i : Nat} {n : Int} (h : xs[i]? = some n) : atI (xs.map V.int) (i : Int) = some (.int n) := atI_nat (by rw [List.getElem?_map,h]; rfl)
theorem strs_at {xs : List Str} {i : Nat} {n : Str} (h : xs[i]? = some n) : atI (xs.map V.str) (i : Int) = some (.str n) := atI_nat (by rw [List.getElem?_map,h]; rfl)
def okTo (ms : List Int) : Prop := ∀ (j : Nat) (p : Str × Int × Int) (n : Int),pw[j]? = some p → ms[j]? = some n → p.2.1 ≤ n ∧ n ≤ p.2.2
theorem okTo.snoc {ms : List Int} {x lo hi : Int} {w : Str} (h : okTo ms) (hp : pw[ms.length]? = some (w,lo,hi)) (h0 : lo ≤ x) (h1 : x ≤ hi) : okTo (ms ++ [x]) := fun j p n hj hn => by
  rcases Nat.lt_trichotomy j ms.length with hlt | heq | hgt
  · rw [List.getElem?_append_left hlt] at hn
    exact h j p n hj hn
  · subst heq
    rw [List.getElem?_concat_length] at hn
    cases hn
    rw [hp] at hj
    cases hj
    exact ⟨h0,h1⟩
  · rw [List.getElem?_eq_none (by simp; omega)] at hn
    cases hn
theorem okTo.okn {ms : List Int} (h : okTo ms) (hl : ms.length = 5) : okN pw ms := by
  match ms,hl with
  | [a,b,c,d,e],_ =>
    have h0 := h 0 _ _ rfl rfl
    have h1 := h 1 _ _ rfl rfl
    have h2 := h 2 _ _ rfl rfl
    have h3 := h 3 _ _ rfl rfl
    have h4 := h 4 _ _ rfl rfl
    simp only [okN,pw,and_true]
    exact ⟨h0.1,h0.2,h1.1,h1.2,h2.1,h2.2,h3.1,h3.2,h4.1,h4.2⟩
theorem ixN_nat {n j : Nat} (h : j < n) : ixN n (j : Int) = some j := by
  unfold ixN
  rw [if_pos (by omega),if_pos (by omega)]
  rfl
section
variable {P : Program} {w : World} {K : PySem.W.Frag} {mg : Str → Option Value} {base : Heap}
def spNumbers (K : PySem.W.Frag) : Sp := fun vs H Q _ => ∃ (a : Addr) (ns : List Int),vs = [.ref a] ∧ SqL K H a (ns.map V.int) ∧ ∀ (ms : List Int) l H',Same H H' → H' l = some (.lst (ms.map V.int)) → okN pw ms → Q (.ref l) H'
theorem ok_numbers (Df : Def K mg "_law_numbers" s__law_numbers ["_law_script"]) (B : Bltn mg) (k__law_mixed : Knows P w K mg base 1 "_law_mixed" ["_law_script","_law_k"] (spMixed K)) : Knows P w K mg base 2 "_law_numbers" ["_law_script"] (spNumbers K) := by
  refine Df.ok sc__law_numbers (fun vs H Q E h => ?_) (fun f cdv A outer s H vs Q E hr h => ?_)
  · obtain ⟨a,ns,rfl,_⟩ := h
    rfl
  · obtain ⟨a,ns,rfl,hS,q⟩ := h
    refine ⟨_,by exact (pss_cons (ps_set (i := 1) sc__law_numbers.nd rfl (Or.inl rfl) (pe_lst pa_nil))
      (pss_cons (ps_for PassesOwn.never rfl (pi_range1 rfl B.range (pa_c pe_int pa_nil)) (pg_name (i := 2) sc__law_numbers.nd rfl (Or.inl rfl)) (pss_cons (ps_set (i := 3) sc__law_numbers.nd rfl (Or.inl rfl) (pe_ix ix_list (pe_lst (pa_c pe_int (pa_c pe_int (pa_c pe_int (pa_c pe_int (pa_c pe_int pa_nil)))))) (pv 2) (fun _ _ => rfl)))
      (pss_cons (ps_set (i := 4) sc__law_numbers.nd rfl (Or.inl rfl) (pe_ix ix_list (pe_lst (pa_c pe_int (pa_c pe_int (pa_c pe_int (pa_c pe_int (pa_c pe_int pa_nil)))))) (pv 2) (fun _ _ => rfl)))
      (pss_cons (ps_set (i := 5) sc__law_numbers.nd rfl (Or.inl rfl) (pe_op op_mod (pe_callM k__law_mixed hr (pa_c (pv 0) (pa_c (pe_op op_add pe_int (pv 2)) pa_nil))) pe_int))
      (pss_cons (ps_expr (pe_mcall PySem.F.plainAttrs_list PySem.F.slot_list_append PySem.F.type_list_append mt_append (pv 1) (pa_c (pe_op op_add (pv 3) (pe_op op_mod (pe_callM k__law_mixed hr (pa_c (pv 0) (pa_c (pe_op op_add pe_int (pv 2)) pa_nil))) (pe_op op_add (pe_op op_sub (pv 4) (pv 3)) pe_int))) pa_nil)))
      (pss_cons (ps_if (pt_cmpR op_lt (pv 5) pe_int (nomark _)) (pss_one (ps_asg (pv 3) (pg_sub (pv 1) (pv 2) set_list))) pss_nil)
      (pss_one (ps_if (pt_cmpR op_eq (pv 5) pe_int (nomark _)) (pss_one (ps_asg (pv 4) (pg_sub (pv 1) (pv 2) set_list))) pss_nil))))))))
      (pss_one (ps_ret (pv 1))))), ?_⟩
    refine seq_use (fun v H' => ∃ l,v = .ref l ∧ H l = none ∧ H' l = some (.lst []) ∧ Same H H') (fun Q' kk => ⟨by decide,fun l hl => kk _ _ ⟨l,rfl,hl,upd_same,same_of hl⟩⟩) ?_
    rintro _ H1 ⟨l,rfl,hl0,e1,s1⟩
    dsimp only
    refine ⟨5,rfl,by decide,by decide, ?_⟩
    refine for_range (n := 5) (fun i σ H' => Same H H' ∧ ∃ (ms : List Int) (v2 v3 v4 v5 : Option V),H' l = some (.lst (ms.map V.int)) ∧ ms.length = i ∧ okTo ms ∧ σ = [some (.ref a),some (.ref l),v2,v3,v4,v5]) ⟨s1,[],_,_,_,_,e1,rfl,(fun j p n _ h => by cases h),rfl⟩ ?_ ?_
    · rintro i σ H2 hi ⟨s2,ms,v2,v3,v4,v5,e2,rfl,ok,rfl⟩
      rw [Int.zero_add]
      obtain ⟨wd,lo,hi',hp,h1,h2,b0,b1,b2⟩ := pw3 hi
      dsimp only [gName]
      refine seq_use (fun v H' => v = .int lo ∧ Same H2 H') (fun Q' kk => ⟨by show 5 ≤ sizeLine; decide,fun b hb => ⟨_,rfl,b,_,_,_,rfl,rfl,SqL.of upd_same,ints_at h1,kk _ _ ⟨rfl,same_of hb⟩⟩⟩) ?_
      rintro _ H3 ⟨rfl,s3⟩
      refine seq_use (fun v H' => v = .int hi' ∧ Same H2 H') (fun Q' kk => ⟨by show 5 ≤ sizeLine; decide,fun b hb => ⟨_,rfl,b,_,_,_,rfl,rfl,SqL.of upd_same,ints_at h2,kk _ _ ⟨rfl,s3.trans (same_of hb)⟩⟩⟩) ?_
      rintro _ H4 ⟨rfl,s4⟩
      refine seq_use (fun v H' => ∃ x : Int,v = .int x ∧ Same H2 H') (fun Q' kk => ?_) ?_
      · exact ⟨_,rfl,_,rfl,_,_,rfl,rfl,a,ns,_,rfl,(s2.trans s4).seq hS,by omega,by omega,fun m H5 hm s5 => ⟨_,_,rfl,rfl,by walk_at "m",kk _ _ ⟨_,rfl,s4.trans s5⟩⟩⟩
      rintro _ H5 ⟨wy,rfl,s5⟩
      refine stm_use (fun σ' H' => ∃ x : Int,lo ≤ x ∧ x ≤ hi' ∧ σ' = [some (.ref a),some (.ref l),some (.int (ms.length : Int)),some (.int lo),some (.int hi'),some (.int wy)] ∧ H' l = some (.lst ((ms ++ [x]).map V.int)) ∧ Same H H') (fun Q' kk => ?_) ?_
      · refine ⟨_,rfl,.inl ⟨rfl,_,SqL.of (s5 _ _ e2)⟩,_,rfl,_,rfl,_,rfl,_,_,rfl,rfl,a,ns,_,rfl,(s2.trans s5).seq hS,by omega,by omega,fun m H6 hm s6 => ⟨_,rfl,_,rfl,_,_,rfl,rfl,_,_,rfl,rfl,_,_,rfl,rfl,(by omega),_,_,rfl,rfl,l,_,_,rfl,rfl,s6 _ _ (s5 _ _ e2),by rw [List.length_map]; exact Nat.lt_of_lt_of_le hi (by decide), ?_⟩⟩
        have c0 := Int.emod_nonneg m (show hi' - lo + 1 ≠ 0 by omega)
        have c1 := Int.emod_lt_of_pos m (show 0 < hi' - lo + 1 by omega)
        refine kk _ _ ⟨lo + m % (hi' - lo + 1),by omega,by omega,rfl,by rw [upd_same,List.map_append]; rfl,Same.upd ((s2.trans s5).trans s6) hl0⟩
      rintro _ H6 ⟨x,x0,x1,rfl,e6,s6⟩
      have setx : ∀ (y z : Int) (H7 : Hp),H7 l = some (.lst ((ms ++ [y]).map V.int)) → ixN ((ms ++ [y]).map V.int).length (ms.length : Int) = some ms.length ∧ ((ms ++ [y]).map V.int).set ms.length (.int z) = (ms ++ [z]).map V.int := fun y z H7 e => by
        refine ⟨ixN_nat (by simp), ?_⟩
        rw [← List.map_set,List.set_append_right _ _ (Nat.le_refl _),Nat.sub_self]
        rfl
      refine stm_use (fun σ' H' => ∃ x : Int,lo ≤ x ∧ x ≤ hi' ∧ σ' = [some (.ref a),some (.ref l),some (.int (ms.length : Int)),some (.int lo),some (.int hi'),some (.int wy)] ∧ H' l = some (.lst ((ms ++ [x]).map V.int)) ∧ Same H H') (fun Q' kk => ?_) ?_
      · refine ⟨_,rfl,_,_,rfl,rfl,_,rfl,ite2 (fun _ => ?_) (fun _ => kk _ _ ⟨x,x0,x1,rfl,e6,s6⟩)⟩
        refine ⟨_,rfl,_,rfl,_,rfl,l,_,_,_,rfl,rfl,e6,(setx x lo H6 e6).1,kk _ _ ⟨lo,Int.le_refl _,b1,rfl, ?_,Same.upd s6 hl0⟩⟩
        rw [upd_same,(setx x lo H6 e6).2]
      rintro _ H7 ⟨x,x0,x1,rfl,e7,s7⟩
      refine ⟨_,rfl,rfl,_,rfl,ite2 (fun _ => ?_) (fun _ => ⟨s7,ms ++ [x],_,_,_,_,e7,by simp,ok.snoc hp x0 x1,rfl⟩)⟩
      refine ⟨_,rfl,_,rfl,_,rfl,l,_,_,_,rfl,rfl,e7,(setx x hi' H7 e7).1,Same.upd s7 hl0,ms ++ [hi'],_,_,_,_, ?_,by simp,ok.snoc hp b1 (Int.le_refl _),rfl⟩
      rw [upd_same,(setx x hi' H7 e7).2]
    · rintro σ H2 ⟨s2,ms,v2,v3,v4,v5,e2,hl5,ok,rfl⟩
      exact ⟨_,rfl,q ms l _ s2 e2 (ok.okn hl5)⟩
end
end K03
namespace K03
open PySem L2 PyProof.Rows WM
theorem ifs_use {c : TT} {t u : TS} {D : Ends} {σ : L2.St} {H : Hp} (Post : Bool → Hp → Prop) (hc : ∀ Q',(∀ b H',Post b H' → Q' b H') → c σ H Q') (kt : ∀ H',Post true H' → t D σ H') (kf : ∀ H',Post false H' → u D σ H') : tIfS c t u D σ H := hc _ fun b H' p => by
  cases b
  · exact iteF (kf H' p)
  · exact iteT (kt H' p)
theorem asg_one {te : TE} {g : TG} {D : Ends} {σ : L2.St} {H : Hp} (Post : V → Hp → Prop) (h : ∀ Q',(∀ v H',Post v H' → Q' v H') → te σ H Q') (k : ∀ v H',Post v H' → g v σ H' D.nx) : tAsg te g D σ H := h _ k
abbrev dN : List Int := [1,2,4,8,16]
abbrev wdN : List Str := ["rank","span","tries","wait","grow"]
def bits (m : Int) : List Bool := dN.map fun d => decide (V.int (m / d % 2) = V.int 1)
theorem bits0 : bits 0 = ff5 := by decide
theorem bits_len (m : Int) : (bits m).length = 5 := rfl
theorem pwd {i : Nat} (h : i < 5) : ∃ d,dN[i]? = some d ∧ 0 < d ∧ d < 1000 := by
  match i,h with
  | 0,_ => exact ⟨_,rfl,by decide,by decide⟩
  | 1,_ => exact ⟨_,rfl,by decide,by decide⟩
  | 2,_ => exact ⟨_,rfl,by decide,by decide⟩
  | 3,_ => exact ⟨_,rfl,by decide,by decide⟩
  | 4,_ => exact ⟨_,rfl,by decide,by decide⟩
theorem wdN_at {i : Nat} {w : Str} {lh : Int × Int} (h : pw[i]? = some (w,lh)) : wdN[i]? = some w := by
  match i,h with
  | 0,h => cases h; rfl
  | 1,h => cases h; rfl
  | 2,h => cases h; rfl
  | 3,h => cases h; rfl
  | 4,h => cases h; rfl
def LT (te : TE) (σ : L2.St) (H : Hp) (n : Nat) : Prop := ∀ H1,Same H H1 → ∀ Q : VK,(∀ l (zs : List Str) H2,Same H1 H2 → H2 l = some (.lst (zs.map V.str)) → zs.length ≤ n → (∀ y ∈ zs,y.length ≤ 12) → Q (.ref l) H2) → te σ H1 Q
theorem LT.cat {t u : TE} {σ : L2.St} {H : Hp} {n m : Nat} (ht : LT t σ H n) (hu : LT u σ H m) (hs : n + m ≤ 1000) : LT (tOp rCat t u) σ H (n + m) := fun H1 s1 Q q => by
  refine ht H1 s1 _ fun l zs H2 s2 e2 l2 b2 => hu H2 (s1.trans s2) _ fun l' zs' H3 s3 e3 l3 b3 => ?_
  refine ⟨l,l',_,_,rfl,rfl,s3 _ _ e2,e3, ?_,fun p hp => ?_⟩
  · rw [List.length_map,List.length_map]
    exact Nat.le_trans (by omega : _ ≤ 1000) (by decide)
  · refine q p (zs ++ zs') _ ((s2.trans s3).trans (same_of hp)) (by rw [upd_same,List.map_append]) (by rw [List.length_append]; omega) fun y hy => ?_
    rcases List.mem_append.mp hy with h | h
    · exact b2 y h
    · exact b3 y h
theorem cut_strs (ys : List Str) (lo hi : Option Int) : ∃ zs : List Str,cutV (ys.map V.str) lo hi = zs.map V.str ∧ zs.length ≤ ys.length ∧ ∀ z ∈ zs,z ∈ ys := by
  refine ⟨((ys.drop (HT.sIx (ys.map V.str).length 0 lo)).take (HT.sIx (ys.map V.str).length (ys.map V.str).length hi - HT.sIx (ys.map V.str).length 0 lo)), ?_, ?_, ?_⟩
  · unfold cutV
    rw [List.map_take,List.map_drop]
  · rw [List.length_take,List.length_drop]; omega
  · intro z hz
    exact List.mem_of_mem_drop (List.mem_of_mem_take hz)
def PT0 (t : TO) (σ : L2.St) : Prop := ∀ H Q,(∀ o,Q o H) → t σ H Q
theorem LT.sl {K : PySem.W.Frag} {i : Nat} {wl : Addr} {ws : List Str} {tl th : TO} {σ : L2.St} {H : Hp} {n : Nat} (hi : σ[i]? = some (some (.ref wl))) (hw : H wl = some (.lst (ws.map V.str))) (hn : ws.length ≤ n) (hb : ∀ y ∈ ws,y.length ≤ 12) (hl : PT0 tl σ) (hh : PT0 th σ) : LT (tSl (rSlL K) (tVar i) tl th) σ H n := fun H1 s1 Q q => by
  refine ⟨_,hi,hl _ _ fun o => hh _ _ fun o' => ⟨wl,_,rfl,SqL.of (s1 _ _ hw),fun p hp => ?_⟩⟩
  obtain ⟨zs,e,l,m⟩ := cut_strs ws o o'
  refine q p zs _ (same_of hp) (by rw [upd_same,e]) (by omega) fun y hy => hb y (m y hy)
theorem PT0.no {σ : L2.St} : PT0 tNoPart σ := fun H Q q => q none
theorem PT0.var {σ : L2.St} {i : Nat} {k : Int} (h : σ[i]? = some (some (.int k))) : PT0 (tPart (tVar i)) σ := fun H Q q => ⟨_,h,k,rfl,q _⟩
theorem PT0.add {σ : L2.St} {i : Nat} {k c : Int} (h : σ[i]? = some (some (.int k))) : PT0 (tPart (tOp (rI0 fun i j => .int (i + j)) (tVar i) (tC (.int c)))) σ := fun H Q q => ⟨_,h,_,_,rfl,rfl,_,rfl,q _⟩
theorem LT.join {K : PySem.W.Frag} {te : TE} {σ : L2.St} {H : Hp} {D : Ends} (h : LT te σ H 63) (q : ∀ z H',z.length ≤ 900 → Same H H' → D.rt (.str z) H') : tRet (tBM K "str" (rJoin K) (tC (.str " ")) (tCons te tNil)) D σ H := by
  refine ⟨rfl,h H (Same.refl _) _ fun l zs H2 s2 e2 l2 b2 => ⟨" ",l,zs,rfl,rfl,SqL.of e2, ?_,q _ _ (txt_join_len _ _ ?_) s2⟩⟩
  · refine Nat.le_trans (join_le " " _ l2 b2) ?_
    rw [sp1]
    decide
  · refine Nat.le_trans (join_le " " _ l2 b2) ?_
    rw [sp1]
    decide
section
variable {P : Program} {w : World} {K : PySem.W.Frag} {mg : Str → Option Value} {base : Heap}
def spTold : Sp := fun vs H Q _ => ∃ (nm : Str) (kl nl : Addr) (ks : List Str) (ns : List Int) (m : Int),vs = [.str nm,.ref kl,.ref nl,.int m] ∧ H kl = some (.lst (ks.map V.str)) ∧ H nl = some (.lst (ns.map V.int)) ∧ GdJ nm ks ns ∧ ∀ l H',Same H H' → H' l = some (.lst ((allW nm ks ns (bits m)).map V.str)) → Q (.ref l) H'
theorem ok_told (Df : Def K mg "_law_told" s__law_told ["_law_name","_law_needs","_law_numbers_here","_law_mask"]) (B : Bltn mg) : Knows P w K mg base 1 "_law_told" ["_law_name","_law_needs","_law_numbers_here","_law_mask"] spTold := by
  refine Df.ok sc__law_told (fun vs H Q E h => ?_) (fun f cdv A outer s H vs Q E hr h => ?_)
  · obtain ⟨nm,kl,nl,ks,ns,m,rfl,_⟩ := h
    rfl
  · obtain ⟨nm,kl,nl,ks,ns,m,rfl,hk,hn,g,q⟩ := h
    have hu := hu0 hr
    refine ⟨_,by exact (pss_cons (ps_set (i := 4) sc__law_told.nd rfl (Or.inl rfl) (pe_lst (pa_c pe_str (pa_c (pv 0) pa_nil))))
      (pss_cons (ps_for PassesOwn.never rfl (pi_range1 rfl B.range (pa_c pe_int pa_nil)) (pg_name (i := 5) sc__law_told.nd rfl (Or.inl rfl)) (pss_one (ps_if (PW.pt (pw_or (pt_cmpR op_ne (pe_ix ix_list (pv 2) (pv 5) (fun _ _ => rfl)) (pe_ix ix_list (pe_lst (pa_c pe_int (pa_c pe_int (pa_c pe_int (pa_c pe_int (pa_c pe_int pa_nil)))))) (pv 5) (fun _ _ => rfl)) (nomark _)) (pw_or1 (pt_cmpR op_eq (pe_op op_mod (pe_op op_fdiv (pv 3) (pe_ix ix_list (pe_lst (pa_c pe_int (pa_c pe_int (pa_c pe_int (pa_c pe_int (pa_c pe_int pa_nil)))))) (pv 5) (fun _ _ => rfl))) pe_int) pe_int (nomark _))))) (pss_one (ps_set (i := 4) sc__law_told.nd rfl (Or.inl rfl) (pe_op op_cat (pv 4) (pe_lst (pa_c (pe_ix ix_list (pe_lst (pa_c pe_str (pa_c pe_str (pa_c pe_str (pa_c pe_str (pa_c pe_str pa_nil)))))) (pv 5) (fun _ _ => rfl)) (pa_c (pe_tcall call_str_int rfl B.str boot_str (pa_c (pe_ix ix_list (pv 2) (pv 5) (fun _ _ => rfl)) pa_nil)) pa_nil)))))) pss_nil)))
      (pss_cons (ps_if (pt_cmpR (op_neL hu) (pv 1) (pe_lst pa_nil) (nomark _)) (pss_one (ps_set (i := 4) sc__law_told.nd rfl (Or.inl rfl) (pe_op op_cat (pe_op op_cat (pv 4) (pe_lst (pa_c pe_str pa_nil))) (pv 1)))) pss_nil)
      (pss_one (ps_ret (pv 4)))))), ?_⟩
    have hcz : ∀ k,k ≤ 40 → k ≤ sizeLine := fun k h => Nat.le_trans h (by decide)
    refine seq_use (fun v H' => ∃ wl,v = .ref wl ∧ H' wl = some (.lst ((["job",nm] : List Str).map V.str)) ∧ Same H H') (fun Q' kk => ?_) ?_
    · exact ⟨_,rfl,(by show 2 ≤ sizeLine; decide),fun b hb => kk _ _ ⟨b,rfl,upd_same,same_of hb⟩⟩
    rintro _ H1 ⟨wl,rfl,ew1,s1⟩
    dsimp only
    refine ⟨5,rfl,by decide,by decide, ?_⟩
    refine for_range (n := 5) (fun i σ H3 => Same H H3 ∧ ∃ (wl : Addr) (cur : List Str) (v5 : Option V),H3 wl = some (.lst (cur.map V.str)) ∧ cur.length ≤ 2 + 2 * i ∧ cur ++ tel (pw.drop i) (ns.drop i) ((bits m).drop i) = (("job" : Str) :: nm :: tel pw ns (bits m)) ∧ σ = [some (.str nm),some (.ref kl),some (.ref nl),some (.int m),some (.ref wl),v5])
      ⟨s1,wl,(["job",nm] : List Str),_,ew1,Nat.le_refl _,rfl,rfl⟩ ?_ ?_
    · rintro i σ H3 hi ⟨s3,wl,cur,v5,ec,lc,ct,rfl⟩
      rw [Int.zero_add]
      obtain ⟨wd,lo,hg,hbd,hlo,_,_,_,_⟩ := pw3 hi
      obtain ⟨d,hd,d0,d1⟩ := pwd hi
      obtain ⟨n,hni⟩ : ∃ n,ns[i]? = some n := by
        obtain ⟨a,b,c,d,e,rfl,_⟩ := okN5 g.okn
        exact ⟨_,List.getElem?_eq_getElem (by exact hi)⟩
      obtain ⟨o0,o1,_,_⟩ := okN_at g.okn hbd hni
      have hbi : (bits m)[i]? = some (decide (V.int (m / d % 2) = V.int 1)) := by
        unfold bits
        rw [List.getElem?_map,hd]
        rfl
      rw [tel_step hbd hni hbi] at ct
      dsimp only [gName]
      refine ifs_use (fun b H' => Same H3 H' ∧ b = decide (n ≠ lo ∨ decide (V.int (m / d % 2) = V.int 1) = true)) (fun Q' kk => ?_) ?_ ?_
      · refine ⟨_,rfl,_,rfl,nl,_,_,_,rfl,rfl,SqL.of (s3 _ _ hn),ints_at hni,(by show 5 ≤ sizeLine; decide),fun b hb => ⟨_,rfl,b,_,_,_,rfl,rfl,SqL.of upd_same,ints_at hlo,rfl,_,rfl, ?_⟩⟩
        have s4 : Same H3 (upd H3 b (.lst [.int 0,.int 1,.int 1,.int 0,.int 1])) := same_of hb
        by_cases hnl : n = lo
        · subst hnl
          refine ite_of (d := false) (by rw [decide_eq_true rfl]; rfl) (fun h => by cases h) (fun _ => ?_)
          refine ⟨_,rfl,(by show 5 ≤ sizeLine; decide),fun b2 hb2 => ⟨_,rfl,b2,_,_,_,rfl,rfl,SqL.of upd_same,ints_at hd,_,_,rfl,rfl,⟨d0,by omega⟩,_,_,rfl,rfl,by walk_at "m",rfl,_,rfl,kk _ _ ⟨s4.trans (same_of hb2), ?_⟩⟩⟩
          simp
        · refine ite_of (d := true) (by rw [decide_eq_false (fun h => hnl (by injection h))]; rfl) (fun _ => kk _ _ ⟨s4, ?_⟩) (fun h => by cases h)
          rw [decide_eq_true (.inl hnl)]
      · rintro H4 ⟨s4,hb⟩
        have hb' := of_decide_eq_true hb.symm
        rw [if_pos hb'] at ct
        refine asg_one (fun v H' => ∃ c,v = .ref c ∧ H' c = some (.lst ((cur ++ [wd,tx n]).map V.str)) ∧ Same H4 H') (fun Q' kk => ?_) ?_
        · refine ⟨_,rfl,(by show 5 ≤ sizeLine; decide),fun b2 hb2 => ?_⟩
          have s5 : Same H4 (upd H4 b2 (.lst (wdN.map V.str))) := same_of hb2
          refine ⟨_,rfl,b2,_,_,_,rfl,rfl,SqL.of upd_same,strs_at (wdN_at hbd),_,rfl,_,rfl,nl,_,_,_,rfl,rfl,SqL.of (s5 _ _ (s4 _ _ (s3 _ _ hn))),ints_at hni,n,rfl,num_log o0 (by omega),(by show 2 ≤ sizeLine; decide),fun b hb => ?_⟩
          have s6 : Same H4 (upd (upd H4 b2 (.lst (wdN.map V.str))) b (.lst [.str wd,.str (tx n)])) := s5.trans (same_of hb)
          refine ⟨wl,b,_,_,rfl,rfl,s6 _ _ (s4 _ _ ec),upd_same,hcz _ (by rw [List.length_map]; show cur.length + 2 ≤ 40; omega),fun c hc => kk _ _ ⟨c,rfl,by rw [upd_same,List.map_append]; rfl,s6.trans (same_of hc)⟩⟩
        · rintro _ H5 ⟨c,rfl,e5,s5⟩
          refine ⟨(s3.trans s4).trans s5,c,cur ++ [wd,tx n],_,e5,by rw [List.length_append]; show cur.length + 2 ≤ _; omega, ?_,rfl⟩
          rw [List.append_assoc]
          exact ct
      · rintro H4 ⟨s4,hb⟩
        have hb' := of_decide_eq_false hb.symm
        rw [if_neg hb',List.nil_append] at ct
        exact ⟨s3.trans s4,wl,cur,_,s4 _ _ ec,by omega,ct,rfl⟩
    · rintro σ H3 ⟨s3,wl,cur,v5,ec,lc,ct,rfl⟩
      rw [tel_end,List.append_nil] at ct
      have k8 := g.ks8
      refine ⟨_,rfl,by decide,fun u hu0 => ?_⟩
      have s4 : Same H3 (upd H3 u (.lst [])) := same_of hu0
      have e4 : (upd H3 u (.lst [])) u = some (.lst []) := upd_same
      generalize upd H3 u (.lst []) = H4 at s4 e4
      refine ⟨kl,u,_,[],rfl,rfl,SqL.of (s4 _ _ (s3 _ _ hk)),SqL.of e4,flat_strs _,rfl,_,rfl, ?_⟩
      cases ks with
      | nil =>
        refine iteF (next_to ?_)
        dsimp only
        refine ⟨_,rfl,q wl _ (s3.trans s4) ?_⟩
        rw [s4 _ _ ec,ct]
        unfold allW tail
        rw [List.append_nil]
      | cons k ks =>
        refine iteT ?_
        refine asg_one (fun v H' => ∃ c,v = .ref c ∧ H' c = some (.lst ((allW nm (k :: ks) ns (bits m)).map V.str)) ∧ Same H4 H') (fun Q' kk => ?_) ?_
        · refine ⟨_,rfl,(by show 1 ≤ sizeLine; decide),fun b hb => ?_⟩
          have s5 : Same H4 (upd H4 b (.lst [.str "needs"])) := same_of hb
          refine ⟨wl,b,_,_,rfl,rfl,s5 _ _ (s4 _ _ ec),upd_same,hcz _ (by rw [List.length_map]; show cur.length + 1 ≤ 40; omega),fun c hc => ?_⟩
          have s6 := s5.trans (same_of (o := .lst (cur.map V.str ++ [.str "needs"])) hc)
          refine ⟨_,rfl,c,kl,_,_,rfl,rfl,upd_same,s6 _ _ (s4 _ _ (s3 _ _ hk)),hcz _ ?_,fun c2 hc2 => kk _ _ ⟨c2,rfl, ?_,s6.trans (same_of hc2)⟩⟩
          · rw [List.length_append,List.length_map,List.length_map]
            show cur.length + 1 + _ ≤ 40
            omega
          · rw [upd_same,show allW nm (k :: ks) ns (bits m) = cur ++ (["needs"] : List Str) ++ (k :: ks) from by rw [ct]; unfold allW; simp [tail],List.map_append,List.map_append]
            rfl
        · rintro _ H5 ⟨c,rfl,e5,s5⟩
          exact ⟨_,rfl,q c _ ((s3.trans s4).trans s5) e5⟩
def word15 : List Str := ["rank","span","tries","wait","grow","needs","job","0","1","01","4","21","a","zz","1001"]
theorem word15_le : word15.all (fun y => decide (y.length ≤ 12)) = true := by decide +kernel
def spWord (K : PySem.W.Frag) : Sp := fun vs H Q _ => ∃ (a : Addr) (ns : List Int),vs = [.ref a] ∧ SqL K H a (ns.map V.int) ∧ ∀ (y : Str) H',y.length ≤ 12 → Same H H' → Q (.str y) H'
theorem ok_word (Df : Def K mg "_law_word" s__law_word ["_law_script"]) (k__law_mixed : Knows P w K mg base 1 "_law_mixed" ["_law_script","_law_k"] (spMixed K)) : Knows P w K mg base 2 "_law_word" ["_law_script"] (spWord K) := by
  refine Df.ok sc__law_word (fun vs H Q E h => ?_) (fun f cdv A outer s H vs Q E hr h => ?_)
  · obtain ⟨a,ns,rfl,_⟩ := h
    rfl
  · obtain ⟨a,ns,rfl,hS,q⟩ := h
    refine ⟨_,by exact (pss_cons (ps_set (i := 1) sc__law_word.nd rfl (Or.inl rfl) (pe_lst (pa_c pe_str (pa_c pe_str (pa_c pe_str (pa_c pe_str (pa_c pe_str (pa_c pe_str (pa_c pe_str (pa_c pe_str (pa_c pe_str (pa_c pe_str (pa_c pe_str (pa_c pe_str (pa_c pe_str (pa_c pe_str (pa_c pe_str pa_nil)))))))))))))))))
      (pss_one (ps_ret (pe_ix ix_list (pv 1) (pe_op op_mod (pe_callM k__law_mixed hr (pa_c (pv 0) (pa_c pe_int pa_nil))) pe_int) (fun _ _ => rfl))))), ?_⟩
    refine seq_use (fun v H' => ∃ b,v = .ref b ∧ H' b = some (.lst (word15.map V.str)) ∧ Same H H') (fun Q' kk => ⟨by decide,fun b hb => kk _ _ ⟨b,rfl,upd_same,same_of hb⟩⟩) ?_
    rintro _ H1 ⟨b,rfl,e1,s1⟩
    dsimp only
    refine ⟨_,rfl,_,rfl,a,ns,_,rfl,s1.seq hS,by decide,by decide,fun m H2 hm s2 => ⟨_,_,rfl,rfl,by walk_at "m", ?_⟩⟩
    obtain ⟨v,hv,hm5,_⟩ := atI_mem (xs := word15.map V.str) (i := m % 15) (Int.emod_nonneg _ (by decide)) (Int.emod_lt_of_pos _ (by decide))
    obtain ⟨y,hy,rfl⟩ := List.mem_map.mp hm5
    exact ⟨b,_,_,_,rfl,rfl,SqL.of (s2 _ _ e1),hv,q y _ (of_decide_eq_true (List.all_eq_true.mp word15_le y hy)) (s1.trans s2)⟩
end
end K03
namespace K03
open PySem L2 PyProof.Rows WM
theorem LT.one {te : TE} {σ : L2.St} {H : Hp} (h : ∀ H1,Same H H1 → ∀ Q : VK,(∀ (y : Str) H2,y.length ≤ 12 → Same H1 H2 → Q (.str y) H2) → te σ H1 Q) : LT (tLst (tCons te tNil)) σ H 1 := fun H1 s1 Q q => by
  refine h H1 s1 _ fun y H2 hy s2 => ⟨by show 1 ≤ sizeLine; decide,fun p hp => ?_⟩
  refine q p [y] _ (s2.trans (same_of hp)) upd_same (Nat.le_refl _) fun z hz => ?_
  rw [List.mem_singleton.mp hz]
  exact hy
theorem LT.var {i : Nat} {l : Addr} {ws : List Str} {σ : L2.St} {H : Hp} {n : Nat} (hi : σ[i]? = some (some (.ref l))) (hw : H l = some (.lst (ws.map V.str))) (hn : ws.length ≤ n) (hb : ∀ y ∈ ws,y.length ≤ 12) : LT (tVar i) σ H n := fun H1 s1 Q q => ⟨_,hi,q l ws _ (Same.refl _) (s1 _ _ hw) hn hb⟩
theorem LT.mono {te : TE} {σ : L2.St} {H : Hp} {n m : Nat} (h : LT te σ H n) (hm : n ≤ m) : LT te σ H m := fun H1 s1 Q q => h H1 s1 Q fun l zs H2 s2 e l1 b => q l zs H2 s2 e (by omega) b
theorem ifs_seq {c : TT} {t u r : TS} {D : Ends} {σ : L2.St} {H : Hp} (Post : Bool → Hp → Prop) (hc : ∀ Q',(∀ b H',Post b H' → Q' b H') → c σ H Q') (kt : ∀ H',Post true H' → t { D with nx := r D } σ H') (kf : ∀ H',Post false H' → u { D with nx := r D } σ H') : tSeq (tIfS c t u) r D σ H := ifs_use (D := { D with nx := r D }) Post hc kt kf
abbrev SIG : Str := " abdejknrstz0123456789\t\n-+."
section
variable {P : Program} {w : World} {K : PySem.W.Frag} {mg : Str → Option Value} {base : Heap}
def spBent (K : PySem.W.Frag) : Sp := fun vs H Q _ => ∃ (a wl : Addr) (ns : List Int) (ws : List Str),vs = [.ref a,.ref wl] ∧ SqL K H a (ns.map V.int) ∧ H wl = some (.lst (ws.map V.str)) ∧ ws.length ≤ 21 ∧ (∀ y ∈ ws,y.length ≤ 12) ∧ ∀ (z : Str) H',z.length ≤ 900 → Same H H' → Q (.str z) H'
theorem ok_bent (Df : Def K mg "_law_bent" s__law_bent ["_law_script","_law_words"]) (B : Bltn mg) (hmax : mg "max" = none) (k__law_mixed : Knows P w K mg base 1 "_law_mixed" ["_law_script","_law_k"] (spMixed K)) (k__law_word : Knows P w K mg base 2 "_law_word" ["_law_script"] (spWord K)) : Knows P w K mg base 3 "_law_bent" ["_law_script","_law_words"] (spBent K) := by
  refine Df.ok sc__law_bent (fun vs H Q E h => ?_) (fun f cdv A outer s H vs Q E hr h => ?_)
  · obtain ⟨a,wl,ns,ws,rfl,_⟩ := h
    rfl
  · obtain ⟨a,wl,ns,ws,rfl,hS,hw,l21,b12,q⟩ := h
    refine ⟨_,by exact (pss_cons (ps_set (i := 2) sc__law_bent.nd rfl (Or.inl rfl) (pe_op op_mod (pe_callM k__law_mixed hr (pa_c (pv 0) (pa_c pe_int pa_nil))) (pe_op op_add (pe_bcall call_len_seq rfl B.len PySem.boot_len (pa_c (pv 1) pa_nil)) pe_int)))
      (pss_cons (ps_set (i := 3) sc__law_bent.nd rfl (Or.inl rfl) (pe_op op_mod (pe_callM k__law_mixed hr (pa_c (pv 0) (pa_c pe_int pa_nil))) pe_int))
      (pss_cons (ps_set (i := 4) sc__law_bent.nd rfl (Or.inl rfl) (pe_mcall PySem.F.plainAttrs_str PySem.F.slot_str_join PySem.F.type_str_join mt_join pe_str (pa_c (pv 1) pa_nil)))
      (pss_cons (ps_set (i := 5) sc__law_bent.nd rfl (Or.inl rfl) (pe_op op_mod (pe_callM k__law_mixed hr (pa_c (pv 0) (pa_c pe_int pa_nil))) (pe_op op_add (pe_bcall call_len_str rfl B.len PySem.boot_len (pa_c (pv 4) pa_nil)) pe_int)))
      (pss_cons (ps_set (i := 6) sc__law_bent.nd rfl (Or.inl rfl) (pe_ix ix_str pe_str (pe_op op_mod (pe_callM k__law_mixed hr (pa_c (pv 0) (pa_c pe_int pa_nil))) pe_int) (fun _ _ => rfl)))
      (pss_cons (ps_if (pt_cmpR op_eq (pv 3) pe_int (nomark _)) (pss_one (ps_ret (pe_mcall PySem.F.plainAttrs_str PySem.F.slot_str_join PySem.F.type_str_join mt_join pe_str (pa_c (pe_op op_cat (pe_slice sl_list (pv 1) po_none (po_some (pv 2))) (pe_slice sl_list (pv 1) (po_some (pe_op op_add (pv 2) pe_int)) po_none)) pa_nil)))) pss_nil)
      (pss_cons (ps_if (pt_cmpR op_eq (pv 3) pe_int (nomark _)) (pss_one (ps_ret (pe_mcall PySem.F.plainAttrs_str PySem.F.slot_str_join PySem.F.type_str_join mt_join pe_str (pa_c (pe_op op_cat (pe_op op_cat (pe_slice sl_list (pv 1) po_none (po_some (pv 2))) (pe_lst (pa_c (pe_callM k__law_word hr (pa_c (pv 0) pa_nil)) pa_nil))) (pe_slice sl_list (pv 1) (po_some (pv 2)) po_none)) pa_nil)))) pss_nil)
      (pss_cons (ps_if (pt_cmpR op_eq (pv 3) pe_int (nomark _)) (pss_one (ps_ret (pe_mcall PySem.F.plainAttrs_str PySem.F.slot_str_join PySem.F.type_str_join mt_join pe_str (pa_c (pe_op op_cat (pe_op op_cat (pe_slice sl_list (pv 1) po_none (po_some (pv 2))) (pe_lst (pa_c (pe_callM k__law_word hr (pa_c (pv 0) pa_nil)) pa_nil))) (pe_slice sl_list (pv 1) (po_some (pe_op op_add (pv 2) pe_int)) po_none)) pa_nil)))) pss_nil)
      (pss_cons (ps_if (PW.pt (pw_and (pt_cmpR op_eq (pv 3) pe_int (nomark _)) (pw_and1 (pt_cmpR op_lt (pe_op op_add (pv 2) pe_int) (pe_bcall call_len_seq rfl B.len PySem.boot_len (pa_c (pv 1) pa_nil)) (nomark _))))) (pss_cons (ps_set (i := 7) sc__law_bent.nd rfl (Or.inl rfl) (pe_lst (pa_c (pe_ix ix_list (pv 1) (pe_op op_add (pv 2) pe_int) (fun _ _ => rfl)) (pa_c (pe_ix ix_list (pv 1) (pv 2) (fun _ _ => rfl)) pa_nil))))
      (pss_one (ps_ret (pe_mcall PySem.F.plainAttrs_str PySem.F.slot_str_join PySem.F.type_str_join mt_join pe_str (pa_c (pe_op op_cat (pe_op op_cat (pe_slice sl_list (pv 1) po_none (po_some (pv 2))) (pv 7)) (pe_slice sl_list (pv 1) (po_some (pe_op op_add (pv 2) pe_int)) po_none)) pa_nil))))) pss_nil)
      (pss_cons (ps_if (pt_cmpR op_eq (pv 3) pe_int (nomark _)) (pss_one (ps_ret (pe_mcall PySem.F.plainAttrs_str PySem.F.slot_str_join PySem.F.type_str_join mt_join pe_str (pa_c (pe_op op_cat (pe_op op_cat (pe_slice sl_list (pv 1) po_none (po_some (pv 2))) (pe_slice sl_list (pv 1) (po_some (pe_bcall (call_max2 rfl) rfl hmax boot_max (pa_c pe_int (pa_c (pe_op op_sub (pv 2) pe_int) pa_nil)))) (po_some (pv 2)))) (pe_slice sl_list (pv 1) (po_some (pv 2)) po_none)) pa_nil)))) pss_nil)
      (pss_cons (ps_if (pt_cmpR op_eq (pv 3) pe_int (nomark _)) (pss_one (ps_ret (pe_op op_add_str (pe_op op_add_str (pe_slice sl_str (pv 4) po_none (po_some (pv 5))) (pv 6)) (pe_slice sl_str (pv 4) (po_some (pv 5)) po_none)))) pss_nil)
      (pss_cons (ps_if (pt_cmpR op_eq (pv 3) pe_int (nomark _)) (pss_one (ps_ret (pe_op op_add_str (pe_op op_add_str (pe_slice sl_str (pv 4) po_none (po_some (pv 5))) (pv 6)) (pe_slice sl_str (pv 4) (po_some (pe_op op_add (pv 5) pe_int)) po_none)))) pss_nil)
      (pss_cons (ps_if (pt_cmpR op_eq (pv 3) pe_int (nomark _)) (pss_one (ps_ret (pe_op op_add_str (pe_slice sl_str (pv 4) po_none (po_some (pv 5))) (pe_slice sl_str (pv 4) (po_some (pe_op op_add (pv 5) pe_int)) po_none)))) pss_nil)
      (pss_one (ps_ret (pv 4)))))))))))))))), ?_⟩
    refine seq_use (fun v H' => ∃ k : Nat,v = .int (k : Int) ∧ Same H H') (fun Q' kk => ?_) ?_
    · refine ⟨_,rfl,a,ns,_,rfl,hS,by decide,by decide,fun m H2 hm s2 => ⟨_,rfl,wl,_,rfl,.inl (SqL.of (s2 _ _ hw)),_,_,rfl,rfl,_,_,rfl,rfl,by omega,kk _ _ ⟨(m % (((ws.map V.str).length : Int) + 1)).toNat, ?_,s2⟩⟩⟩
      rw [Int.toNat_of_nonneg (Int.emod_nonneg _ (by omega))]
    rintro _ H1 ⟨sp,rfl,s1⟩
    refine seq_use (fun v H' => ∃ x : Int,v = .int x ∧ Same H H') (fun Q' kk => ?_) ?_
    · exact ⟨_,rfl,a,ns,_,rfl,s1.seq hS,by decide,by decide,fun m H2 hm s2 => ⟨_,_,rfl,rfl,by walk_at "m",kk _ _ ⟨_,rfl,s1.trans s2⟩⟩⟩
    rintro _ H2 ⟨wy,rfl,s2⟩
    have ln_le : (Txt.join " " ws).length ≤ 273 := txt_join_len _ _ (Nat.le_trans (join_le " " ws l21 b12) (by rw [sp1]; decide))
    refine seq_use (fun v H' => v = .str (Txt.join " " ws) ∧ H2 = H') (fun Q' kk => ⟨rfl,_,rfl," ",wl,ws,rfl,rfl,SqL.of (s2 _ _ hw),Nat.le_trans (join_le " " ws l21 b12) (by rw [sp1]; decide),kk _ _ ⟨rfl,rfl⟩⟩) ?_
    rintro _ _ ⟨rfl,rfl⟩
    generalize Txt.join " " ws = ln at ln_le
    have lz : ln.length ≤ sizeLine := Nat.le_trans ln_le (by decide)
    refine seq_use (fun v H' => ∃ x : Int,v = .int x ∧ Same H H') (fun Q' kk => ?_) ?_
    · exact ⟨_,rfl,a,ns,_,rfl,s2.seq hS,by decide,by decide,fun m H3 hm s3 => ⟨_,rfl,ln,rfl,lz,_,_,rfl,rfl,_,_,rfl,rfl,(by omega),kk _ _ ⟨_,rfl,s2.trans s3⟩⟩⟩
    rintro _ H3 ⟨at',rfl,s3⟩
    refine seq_use (fun v H' => ∃ c : Nat,v = .str ⟨#[c]⟩ ∧ Same H H') (fun Q' kk => ?_) ?_
    · refine ⟨_,rfl,a,ns,_,rfl,s3.seq hS,by decide,by decide,fun m H4 hm s4 => ⟨_,_,rfl,rfl,by walk_at "m", ?_⟩⟩
      obtain ⟨v,hv,_,_⟩ := atI_mem (xs := SIG.cps.toList) (i := m % 27) (Int.emod_nonneg _ (by decide)) (Int.lt_of_lt_of_le (Int.emod_lt_of_pos _ (by decide)) (by decide +kernel))
      exact ⟨SIG,_,_,rfl,rfl,by decide +kernel,hv,kk _ _ ⟨v,rfl,s3.trans s4⟩⟩
    rintro _ H4 ⟨c,rfl,s4⟩
    have hw4 := s4 _ _ hw
    have qj : ∀ (z : Str) H',z.length ≤ 900 → Same H4 H' → Q (.str z) H' := fun z H' hz s' => q z H' hz (s4.trans s')
    have sl : ∀ {tl th : TO} {σ : L2.St},σ[1]? = some (some (.ref wl)) → PT0 tl σ → PT0 th σ → LT (tSl (rSlL K) (tVar 1) tl th) σ H4 21 := fun hi hl hh => LT.sl hi hw4 l21 b12 hl hh
    have wd : ∀ {σ : L2.St},σ[0]? = some (some (.ref a)) → LT (tLst (tCons (tCall (spWord K) [] E0 (tCons (tVar 0) tNil)) tNil)) σ H4 1 := fun hi => LT.one fun H5 s5 Q' q' => ⟨_,hi,a,ns,rfl,(s4.trans s5).seq hS,fun y H6 hy s6 => q' y H6 hy s6⟩
    have ls : ∀ lo hi,(Txt.slice ln lo hi).length ≤ ln.length := fun lo hi => Txt.slice_le ln lo hi
    have l3 : ∀ a b c' d,(Txt.slice ln a b).length + (⟨#[c]⟩ : Str).length ≤ sizeLine ∧ ((Txt.slice ln a b) ++ (⟨#[c]⟩ : Str)).length + (Txt.slice ln c' d).length ≤ sizeLine ∧ (((Txt.slice ln a b) ++ (⟨#[c]⟩ : Str)) ++ (Txt.slice ln c' d)).length ≤ 900 := fun a b c' d => by
      have h1 := ls a b
      have h2 := ls c' d
      have h3 : (⟨#[c]⟩ : Str).length = 1 := rfl
      have h4 : 900 ≤ sizeLine := by decide
      simp only [app_len]
      omega
    dsimp only
    refine ⟨_,rfl,rfl,_,rfl,ite2 (fun _ => ?_) (fun _ => next_to ?_)⟩
    · exact LT.join (((sl rfl PT0.no (PT0.var rfl)).cat (sl rfl (PT0.add rfl) PT0.no) (by decide)).mono (by decide)) qj
    refine ⟨_,rfl,rfl,_,rfl,ite2 (fun _ => ?_) (fun _ => next_to ?_)⟩
    · exact LT.join ((((sl rfl PT0.no (PT0.var rfl)).cat (wd rfl) (by decide)).cat (sl rfl (PT0.var rfl) PT0.no) (by decide)).mono (by decide)) qj
    refine ⟨_,rfl,rfl,_,rfl,ite2 (fun _ => ?_) (fun _ => next_to ?_)⟩
    · exact LT.join ((((sl rfl PT0.no (PT0.var rfl)).cat (wd rfl) (by decide)).cat (sl rfl (PT0.add rfl) PT0.no) (by decide)).mono (by decide)) qj
    dsimp only
    refine ifs_seq (fun b H' => H4 = H' ∧ (b = true → sp + 1 < ws.length)) (fun Q' kk => ?_) ?_ ?_
    · refine ⟨_,rfl,rfl,_,rfl,ite2 (fun _ => ?_) (fun _ => kk _ _ ⟨rfl,fun h => by cases h⟩)⟩
      refine ⟨_,rfl,_,_,rfl,rfl,_,rfl,wl,_,rfl,.inl (SqL.of hw4),_,_,rfl,rfl,_,rfl,kk _ _ ⟨rfl,fun h => ?_⟩⟩
      have := of_decide_eq_true h
      rw [List.length_map] at this
      omega
    · rintro _ ⟨rfl,hlt⟩
      have hlt' := hlt rfl
      refine seq_use (fun v H' => ∃ (l : Addr) (zs : List Str),v = .ref l ∧ H' l = some (.lst (zs.map V.str)) ∧ zs.length ≤ 2 ∧ (∀ y ∈ zs,y.length ≤ 12) ∧ Same H4 H') (fun Q' kk => ?_) ?_
      · have g1 : ws[sp + 1]? = some ws[sp + 1] := List.getElem?_eq_getElem hlt'
        have g0 : ws[sp]? = some ws[sp] := List.getElem?_eq_getElem (by omega)
        refine ⟨_,rfl,_,rfl,_,_,rfl,rfl,wl,_,_,_,rfl,rfl,SqL.of hw4,strs_at (i := sp + 1) g1,_,rfl,_,rfl,wl,_,_,_,rfl,rfl,SqL.of hw4,strs_at g0,(by show 2 ≤ sizeLine; decide),fun b hb => kk _ _ ⟨b,[ws[sp + 1],ws[sp]],rfl,upd_same,Nat.le_refl _,fun y hy => ?_,same_of hb⟩⟩
        simp only [List.mem_cons,List.not_mem_nil,or_false] at hy
        rcases hy with rfl | rfl
        · exact b12 _ (List.getElem_mem ..)
        · exact b12 _ (List.getElem_mem ..)
      rintro _ H5 ⟨l,zs,rfl,e5,z2,zb,s5⟩
      have sl5 : ∀ {tl th : TO} {σ : L2.St},σ[1]? = some (some (.ref wl)) → PT0 tl σ → PT0 th σ → LT (tSl (rSlL K) (tVar 1) tl th) σ H5 21 := fun hi hl hh => LT.sl hi (s5 _ _ hw4) l21 b12 hl hh
      exact LT.join ((((sl5 rfl PT0.no (PT0.var rfl)).cat (LT.var rfl e5 z2 zb) (by decide)).cat (sl5 rfl (PT0.add rfl) PT0.no) (by decide)).mono (by decide)) fun z H' hz s' => qj z H' hz (s5.trans s')
    rintro _ ⟨rfl,_⟩
    refine next_to ?_
    dsimp only
    refine ⟨_,rfl,rfl,_,rfl,ite2 (fun _ => ?_) (fun _ => next_to ?_)⟩
    · exact LT.join ((((sl rfl PT0.no (PT0.var rfl)).cat (sl rfl (fun H' Q' q' => ⟨_,rfl,_,_,rfl,rfl,_,_,rfl,_,rfl,q' _⟩) (PT0.var rfl)) (by decide)).cat (sl rfl (PT0.var rfl) PT0.no) (by decide)).mono (by decide)) qj
    refine ⟨_,rfl,rfl,_,rfl,ite2 (fun _ => ?_) (fun _ => next_to ?_)⟩
    · refine ⟨_,rfl,_,rfl,_,rfl,ln,rfl,lz,_,rfl,_,_,rfl,rfl,(l3 _ _ none none).1,_,rfl,_,rfl,_,rfl,ln,rfl,lz,_,_,rfl,rfl,(l3 _ _ _ _).2.1, ?_⟩
      exact qj _ _ (l3 _ _ _ _).2.2 (Same.refl _)
    refine ⟨_,rfl,rfl,_,rfl,ite2 (fun _ => ?_) (fun _ => next_to ?_)⟩
    · refine ⟨_,rfl,_,rfl,_,rfl,ln,rfl,lz,_,rfl,_,_,rfl,rfl,(l3 _ _ none none).1,_,rfl,_,rfl,_,_,rfl,rfl,_,rfl,ln,rfl,lz,_,_,rfl,rfl,(l3 _ _ _ _).2.1, ?_⟩
      exact qj _ _ (l3 _ _ _ _).2.2 (Same.refl _)
    refine ⟨_,rfl,rfl,_,rfl,ite2 (fun _ => ?_) (fun _ => next_to ?_)⟩
    · have l2 : ∀ a b c d,(Txt.slice ln a b).length + (Txt.slice ln c d).length ≤ sizeLine ∧ ((Txt.slice ln a b) ++ (Txt.slice ln c d)).length ≤ 900 := fun a b c d => by
        have h1 := ls a b
        have h2 := ls c d
        have h4 : 900 ≤ sizeLine := by decide
        rw [app_len]
        omega
      refine ⟨_,rfl,_,rfl,_,rfl,ln,rfl,lz,_,rfl,_,rfl,_,_,rfl,rfl,_,rfl,ln,rfl,lz,_,_,rfl,rfl,(l2 _ _ _ _).1, ?_⟩
      exact qj _ _ (l2 _ _ _ _).2 (Same.refl _)
    · exact ⟨_,rfl,qj _ _ (by omega) (Same.refl _)⟩
end
end K03
namespace K03
open PySem L2 PyProof.Rows WM PySem.NumText
section
variable {P : Program} {w : World} {K : PySem.W.Frag} {mg : Str → Option Value} {base : Heap}
theorem signs_get {z : Str} {i : Nat} {x : V} (hx : (signsV z)[i]? = some x) : ∃ c,z.cps.toList[i]? = some c ∧ x = V.str ⟨#[c]⟩ := by
  unfold signsV at hx
  rw [List.getElem?_map] at hx
  cases e : z.cps.toList[i]? with
  | none => rw [e] at hx; cases hx
  | some c => rw [e] at hx; cases hx; exact ⟨c,rfl,rfl⟩
theorem fig_index {c : Nat} (h0 : 48 ≤ c) (h1 : c ≤ 57) : ∃ rest,Builtin.Str.occurrences FIG ⟨#[c]⟩ 0 FIG.length 1 = (c - 48) :: rest := by
  have : c = 48 ∨ c = 49 ∨ c = 50 ∨ c = 51 ∨ c = 52 ∨ c = 53 ∨ c = 54 ∨ c = 55 ∨ c = 56 ∨ c = 57 := by omega
  rcases this with rfl | rfl | rfl | rfl | rfl | rfl | rfl | rfl | rfl | rfl
  all_goals exact ⟨[],by decide +kernel⟩
theorem one48 (c : Nat) : ((⟨#[c]⟩ : Str) = "0") ↔ c = 48 := by
  have e : ("0" : Str) = ⟨#[48]⟩ := str_ext (by decide +kernel)
  rw [e]
  constructor
  · intro h
    have : (#[c] : Array Nat) = #[48] := congrArg Str.cps h
    simpa using this
  · intro h
    rw [h]
theorem numOf_bad {z : Str} (h : ¬ (1 ≤ z.length ∧ z.length ≤ 10)) : numOf (.str z) = .non := by
  show (if madeOf FIG 10 (.str z) = true then _ else V.non) = .non
  refine if_neg fun hm => h ?_
  obtain ⟨a,b,_⟩ := madeFig hm
  exact ⟨a,b⟩
theorem numOf_nofig {z : Str} {c : Nat} (hc : c ∈ z.cps.toList) (h : ¬ c ∈ FIG.cps.toList) : numOf (.str z) = .non := by
  show (if madeOf FIG 10 (.str z) = true then _ else V.non) = .non
  refine if_neg fun hm => h ?_
  obtain ⟨_,_,d⟩ := madeFig hm
  exact (fig_mem c).mpr (d c hc)
theorem numOf_zero {z : Str} (h : z.cps.toList.head? = some 48) (h1 : 1 < z.length) : numOf (.str z) = .non := by
  show (if madeOf FIG 10 (.str z) = true then (if z.cps.toList.head? = some 48 ∧ 1 < z.length then V.non else _) else V.non) = .non
  by_cases hm : madeOf FIG 10 (.str z) = true
  · rw [if_pos hm,if_pos ⟨h,h1⟩]
  · rw [if_neg hm]
theorem numOf_good {z : Str} (h1 : 1 ≤ z.length) (h2 : z.length ≤ 10) (hd : ∀ c ∈ z.cps.toList,c ∈ FIG.cps.toList) (h0 : ¬ (z.cps.toList.head? = some 48 ∧ 1 < z.length)) : numOf (.str z) = .int (digitsVal z.cps.toList : Nat) := by
  show (if madeOf FIG 10 (.str z) = true then (if z.cps.toList.head? = some 48 ∧ 1 < z.length then V.non else V.int (digitsVal z.cps.toList : Nat)) else V.non) = _
  have hm : madeOf FIG 10 (.str z) = true := by
    show (decide (1 ≤ (z.length : Int)) && decide ((z.length : Int) ≤ 10) && z.cps.toList.all fun c => decide (c ∈ FIG.cps.toList)) = true
    rw [Bool.and_eq_true,Bool.and_eq_true]
    exact ⟨⟨decide_eq_true (by omega),decide_eq_true (by omega)⟩,List.all_eq_true.mpr fun c hc => decide_eq_true (hd c hc)⟩
  rw [if_pos hm,if_neg h0]
def sp_number : Sp := fun vs H Q _ => ∃ z : Str,vs = [.str z] ∧ z.length ≤ 100000 ∧ Q (.int (numI z)) H
theorem ok_number (D : Def K mg "_law_number" s__law_number ["_law_text"]) (B : Bltn mg) : Knows P w K mg base 1 "_law_number" ["_law_text"] sp_number := by
  refine D.ok sc__law_number (fun vs H Q E h => ?_) (fun f cdv A outer s H vs Q E hr h => ?_)
  · obtain ⟨z,rfl,_⟩ := h
    rfl
  · obtain ⟨z,rfl,hz,q⟩ := h
    have hz1 : z.length ≤ sizeLine := Nat.le_trans hz (by walk_at "m")
    have hlen : z.cps.toList.length = z.length := Array.length_toList
    refine ⟨_,by exact (pss_cons (ps_if (PW.pt (pw_or (pt_not (pt_chain op_le op_le pe_int (pe_bcall call_len_str rfl B.len PySem.boot_len (pa_c (pv 0) pa_nil)) pe_int)) (pw_or1 (PW.pt (pw_and (pt_cmpR op_gt (pe_bcall call_len_str rfl B.len PySem.boot_len (pa_c (pv 0) pa_nil)) pe_int (nomark _)) (pw_and1 (pt_cmpR op_eq (pe_ix ix_str (pv 0) pe_int (fun _ _ => rfl)) pe_str (nomark _)))))))) (pss_one (ps_ret (pe_un un_neg pe_int))) pss_nil)
      (pss_cons (ps_set (i := 1) sc__law_number.nd rfl (Or.inl rfl) pe_int)
      (pss_cons (ps_for PassesOwn.never rfl (pi_str (pv 0)) (pg_name (i := 2) sc__law_number.nd rfl (Or.inl rfl)) (pss_cons (ps_if (pt_cmpR op_notin_str (pv 2) pe_str (by with_unfolding_all rfl)) (pss_one (ps_ret (pe_un un_neg pe_int))) pss_nil)
      (pss_one (ps_set (i := 1) sc__law_number.nd rfl (Or.inl rfl) (pe_op op_add (pe_op op_mul pe_int (pv 1)) (pe_mcall PySem.F.plainAttrs_str PySem.F.slot_str_index PySem.F.type_str_index mt_index pe_str (pa_c (pv 2) pa_nil)))))))
      (pss_one (ps_ret (pv 1)))))), ?_⟩
    have bad : numOf (.str z) = .non → ∃ i,V.int 1 = .int i ∧ Q (.int (-i)) H := fun e => ⟨1,rfl,by have e2 : numI z = -1 := by { unfold numI; rw [e] }; rw [e2] at q; exact q⟩
    refine if_use (fun b H' => H' = H ∧ (b = true → numOf (.str z) = .non) ∧ (b = false → 1 ≤ z.length ∧ z.length ≤ 10 ∧ ¬ (z.cps.toList.head? = some 48 ∧ 1 < z.length))) (fun Q' k => ?_) (fun H' p => ?_) (fun H' p => ?_)
    · refine ⟨_,rfl,z,rfl,hz1,_,_,rfl,rfl,_,rfl, ?_⟩
      refine ite2 (fun h1 => ?_) (fun h1 => ?_)
      · have h1' : 1 ≤ z.length := by have := of_decide_eq_true h1; omega
        refine ⟨_,_,rfl,rfl,_,rfl, ?_⟩
        refine ite2 (fun h2 => ?_) (fun h2 => ?_)
        · refine k _ _ ⟨rfl,fun _ => numOf_bad fun hh => ?_,fun e => by cases e⟩
          have : ¬ ((z.length : Int) ≤ 10) := by simpa using h2
          omega
        · have h2' : (z.length : Int) ≤ 10 := by simpa using h2
          refine ⟨_,rfl,z,rfl,hz1,_,_,rfl,rfl,_,rfl, ?_⟩
          obtain ⟨c,r,hcr⟩ : ∃ c r,z.cps.toList = c :: r := by
            cases h : z.cps.toList with
            | nil => rw [h] at hlen; simp at hlen; omega
            | cons c r => exact ⟨c,r,rfl⟩
          refine ite2 (fun h3 => ?_) (fun h3 => ?_)
          · have h3' : (1 : Int) < (z.length : Int) := of_decide_eq_true h3
            refine ⟨_,rfl,z,_,c,rfl,rfl,hz1,atI_nat (j := 0) (by rw [hcr]; rfl),rfl,_,rfl, ?_⟩
            cases h4 : decide (V.str ⟨#[c]⟩ = V.str "0")
            · refine k _ _ ⟨rfl,(fun e => by cases e),fun _ => ⟨h1',by omega,fun hh => ?_⟩⟩
              rw [hcr] at hh
              exact of_decide_eq_false h4 (congrArg V.str ((one48 c).mpr (Option.some.inj hh.1)))
            · have h4' : c = 48 := (one48 c).mp (V.str.inj (of_decide_eq_true h4))
              exact k _ _ ⟨rfl,fun _ => numOf_zero (by rw [hcr,h4']; rfl) (by omega),fun e => by cases e⟩
          · exact k _ _ ⟨rfl,(fun e => by cases e),fun _ => ⟨h1',by omega,fun hh => (by simpa using h3 : ¬ (1 : Int) < (z.length : Int)) (by omega)⟩⟩
      · refine ⟨_,rfl,iteT (k _ _ ⟨rfl,fun _ => numOf_bad fun hh => ?_,fun e => by cases e⟩)⟩
        have : ¬ (1 ≤ (z.length : Int)) := by simpa using h1
        omega
    · obtain ⟨rfl,e,_⟩ := p
      exact bad (e rfl)
    · obtain ⟨rfl,_,hg⟩ := p
      obtain ⟨h1,h2,h0⟩ := hg rfl
      refine ⟨_,rfl,z,rfl, ?_⟩
      refine for_wk (wk_str z) (fun i σ H1 => H1 = H' ∧ (∀ c ∈ z.cps.toList.take i,c ∈ FIG.cps.toList) ∧ ∃ v,σ = [some (.str z),some (.int (digitsVal (z.cps.toList.take i) : Nat)),v]) ⟨rfl,by simp,none,rfl⟩ (fun _ _ _ _ _ => trivial) ?_ ?_
      · rintro i x σ H1 hx ⟨rfl,hd,v,rfl⟩
        obtain ⟨c,hc,rfl⟩ := signs_get hx
        have et : z.cps.toList.take (i + 1) = z.cps.toList.take i ++ [c] := by rw [List.take_add_one,hc]; rfl
        refine ⟨_,rfl,_,_,rfl,rfl,_,rfl, ?_⟩
        rw [StrLaws.found_one]
        refine ite2 (fun h => ?_) (fun h => ?_)
        · exact bad (numOf_nofig (List.mem_of_getElem? hc) (of_decide_eq_false (by simpa using h)))
        · have hm : c ∈ FIG.cps.toList := by simpa using h
          obtain ⟨c0,c1⟩ := (fig_mem c).mp hm
          obtain ⟨rest,hr2⟩ := fig_index c0 c1
          refine ⟨_,rfl,_,_,rfl,rfl,.inl ⟨by decide,by decide⟩,rfl,_,rfl,_,_,_,rest,rfl,rfl,hr2,_,_,rfl,rfl, ?_⟩
          refine ⟨rfl,fun d hd2 => ?_,some (V.str ⟨#[c]⟩), ?_⟩
          · rw [et] at hd2
            rcases List.mem_append.mp hd2 with z1 | z1
            · exact hd d z1
            · rw [List.mem_singleton.mp z1]; exact hm
          · show [some (V.str z),some (V.int (10 * ((digitsVal (z.cps.toList.take i) : Nat) : Int) + ((c - 48 : Nat) : Int))),some (V.str ⟨#[c]⟩)] = _
            have e : (10 * ((digitsVal (z.cps.toList.take i) : Nat) : Int) + ((c - 48 : Nat) : Int)) = (((digitsVal (z.cps.toList.take i)) * 10 + (c - 48) : Nat) : Int) := by omega
            rw [et,digitsVal_snoc,e]
      · rintro σ H1 ⟨rfl,hd,v,rfl⟩
        rw [signsV_length,List.take_of_length_le (by simp)] at hd ⊢
        refine ⟨_,rfl, ?_⟩
        have e2 : numI z = ((digitsVal z.cps.toList : Nat) : Int) := by
          unfold numI
          rw [numOf_good h1 h2 hd h0]
        rw [e2] at q
        exact q
def sp_is_nameL : Sp := fun vs H Q _ => ∃ z : Str,vs = [.str z] ∧ z.length ≤ 100000 ∧ ∀ H',Same H H' → Q (.bl (madeOf LET 12 (.str z))) H'
theorem ok_is_nameL (D : Def K mg "_law_is_name" s__law_is_name ["_law_text"]) (B : Bltn mg) : Knows P w K mg base 1 "_law_is_name" ["_law_text"] sp_is_nameL := by
  refine D.ok sc__law_is_name (fun vs H Q E h => ?_) (fun f cdv A outer s H vs Q E hr h => ?_)
  · obtain ⟨z,rfl,_⟩ := h
    rfl
  · obtain ⟨z,rfl,hz,q⟩ := h
    have hu := hu0 hr
    have hz1 : z.length ≤ sizeLine := Nat.le_trans hz (by walk_at "m")
    have hlen : z.cps.toList.length = z.length := Array.length_toList
    refine ⟨_,by exact (pss_one (ps_ret (pe_and (pe_chain op_le op_le pe_int (pe_bcall call_len_str rfl B.len PySem.boot_len (pa_c (pv 0) pa_nil)) pe_int) (pe_one (pe_cmpR (op_eqL hu) (pe_comp1 [] ["_law_sign"] rfl (pi_str (pv 0)) (fun _ _ _ _ => pts_one (pt_cmpR op_notin_str (pv 0) pe_str (by with_unfolding_all rfl))) (fun _ _ _ _ => (pv 0))) (pe_lst pa_nil) (nomark _)))))), ?_⟩
    have bad : madeOf LET 12 (.str z) = false → Q (.bl false) H := fun e => by have := q H (Same.refl H); rw [e] at this; exact this
    refine ⟨_,rfl,z,rfl,hz1,_,_,rfl,rfl,_,rfl, ?_⟩
    refine ite2 (fun h1 => ?_) (fun h1 => ?_)
    · refine ⟨_,_,rfl,rfl,_,rfl, ?_⟩
      refine ite2 (fun h2 => ?_) (fun h2 => ?_)
      · refine ⟨_,rfl,z,rfl, ?_⟩
        refine comp1_wk (wk_str z) (fun i ys H1 => H1 = H ∧ ys.length ≤ i ∧ ys = ((z.cps.toList.take i).filter fun c => !decide (c ∈ LET.cps.toList)).map fun c => V.str ⟨#[c]⟩) ⟨rfl,Nat.le_refl _,rfl⟩ (fun i ys H1 hi p => ⟨trivial,p.2.1⟩) (by rw [signsV_length]; exact hz1) ?_ ?_
        · rintro i x ys H1 Nx hx ⟨rfl,hl,rfl⟩ hN
          obtain ⟨c,hc,rfl⟩ := signs_get hx
          have et : z.cps.toList.take (i + 1) = z.cps.toList.take i ++ [c] := by rw [List.take_add_one,hc]; rfl
          refine ⟨_,rfl,_,_,rfl,rfl,_,rfl, ?_⟩
          rw [StrLaws.found_one]
          refine ite2 (fun h => ?_) (fun h => ?_)
          · refine ⟨_,rfl,hN _ _ ⟨rfl,by rw [List.length_append]; exact Nat.succ_le_succ hl, ?_⟩⟩
            rw [et,List.filter_append,List.map_append]
            congr 1
            rw [List.filter_cons_of_pos (by exact h)]
            rfl
          · refine hN _ _ ⟨rfl,Nat.le_succ_of_le hl, ?_⟩
            rw [et,List.filter_append,List.map_append,List.filter_cons_of_neg (by exact h)]
            simp
        · rintro ys H1 ⟨rfl,hl,hys⟩ p hp
          rw [signsV_length,List.take_of_length_le (by simp)] at hys
          subst hys
          refine ⟨by walk_at "m",fun p2 hp2 => ?_⟩
          have fl : (((z.cps.toList.filter fun c => !decide (c ∈ LET.cps.toList)).map fun c => V.str ⟨#[c]⟩)).all flatV = true := by
            rw [List.all_map,List.all_eq_true]
            intro _ _
            rfl
          refine ⟨p,p2,_,[],rfl,rfl,SqL.of ((same_upd hp2) _ _ upd_same),SqL.of upd_same,fl,rfl, ?_⟩
          have e : (if false = true then !eqL ((z.cps.toList.filter fun c => !decide (c ∈ LET.cps.toList)).map fun c => V.str ⟨#[c]⟩) [] else eqL ((z.cps.toList.filter fun c => !decide (c ∈ LET.cps.toList)).map fun c => V.str ⟨#[c]⟩) []) = madeOf LET 12 (.str z) := by
            rw [if_neg Bool.false_ne_true]
            show _ = (decide (1 ≤ (z.length : Int)) && decide ((z.length : Int) ≤ 12) && z.cps.toList.all fun c => decide (c ∈ LET.cps.toList))
            rw [h1,h2,Bool.true_and,Bool.true_and]
            cases ha : z.cps.toList.all fun c => decide (c ∈ LET.cps.toList)
            · cases hf : z.cps.toList.filter fun c => !decide (c ∈ LET.cps.toList) with
              | nil =>
                exfalso
                rw [List.filter_eq_nil_iff] at hf
                have : (z.cps.toList.all fun c => decide (c ∈ LET.cps.toList)) = true := List.all_eq_true.mpr fun c hc => by simpa using hf c hc
                rw [this] at ha
                cases ha
              | cons c r => rfl
            · have hf : (z.cps.toList.filter fun c => !decide (c ∈ LET.cps.toList)) = [] := by
                rw [List.filter_eq_nil_iff]
                intro c hc
                have := List.all_eq_true.mp ha c hc
                rw [this]
                decide
              rw [hf]
              rfl
          rw [e]
          exact q _ (((Same.refl _).new hp).new hp2)
      · refine bad ?_
        show (decide (1 ≤ (z.length : Int)) && decide ((z.length : Int) ≤ 12) && _) = false
        rw [(by simpa using h2 : decide ((z.length : Int) ≤ 12) = false),Bool.and_false,Bool.false_and]
    · refine ⟨_,rfl,iteF (bad ?_)⟩
      show (decide (1 ≤ (z.length : Int)) && decide ((z.length : Int) ≤ 12) && _) = false
      rw [(by simpa using h1 : decide (1 ≤ (z.length : Int)) = false),Bool.false_and,Bool.false_and]
end
end K03
namespace K03
open PySem L2 PyProof.Rows WM
def plc (k : Nat) (x : Str) : Nat → List Nat
  | 0 => []
  | m + 1 => plc k x m ++ (if wdN[k + m]? = some x then [k + m] else [])
theorem plc_nil {k : Nat} {x : Str} : ∀ {m : Nat},(∀ j,j < m → wdN[k + j]? ≠ some x) → plc k x m = []
  | 0,_ => rfl
  | m + 1,h => by
    unfold plc
    rw [plc_nil fun j hj => h j (by omega),if_neg (h m (by omega))]
    rfl
theorem plc_head {k j : Nat} {x : Str} (h0 : ∀ j',j' < j → wdN[k + j']? ≠ some x) (h1 : wdN[k + j]? = some x) : ∀ {m : Nat},j < m → ∃ rest,plc k x m = (k + j) :: rest
  | 0,h => by omega
  | m + 1,h => by
    unfold plc
    by_cases e : j < m
    · obtain ⟨rest,h2⟩ := plc_head h0 h1 e
      exact ⟨rest ++ _,by rw [h2]; rfl⟩
    · have e' : j = m := by omega
      subst e'
      rw [plc_nil h0,if_pos h1]
      exact ⟨[],rfl⟩
theorem findP_cases (x : Str) : ∀ ps : List (Str × Int × Int),(findP x ps = none ∧ ∀ j : Nat,(ps.map (·.1))[j]? ≠ some x) ∨ ∃ (j : Nat) (lo hi : Int),findP x ps = some (j,lo,hi) ∧ ps[j]? = some (x,lo,hi) ∧ ∀ j' : Nat,j' < j → (ps.map (·.1))[j']? ≠ some x
  | [] => .inl ⟨rfl,fun j h => by cases h⟩
  | p :: ps => by
    by_cases h : p.1 = x
    · refine .inr ⟨0,p.2.1,p.2.2, ?_, ?_,fun j' h' => by omega⟩
      · show (if p.1 = x then _ else _) = _
        rw [if_pos h]
      · show some p = some (x,p.2.1,p.2.2)
        rw [← h]
    · have e : findP x (p :: ps) = (findP x ps).map fun y => (y.1 + 1,y.2) := by
        show (if p.1 = x then _ else _) = _
        rw [if_neg h]
      rcases findP_cases x ps with ⟨h1,h2⟩ | ⟨j,lo,hi,h1,h2,h3⟩
      · refine .inl ⟨by rw [e,h1]; rfl,fun j hj => ?_⟩
        cases j with
        | zero => exact h (by injection hj)
        | succ j => exact h2 j hj
      · refine .inr ⟨j + 1,lo,hi,by rw [e,h1]; rfl,h2,fun j' hj' hh => ?_⟩
        cases j' with
        | zero => exact h (by injection hh)
        | succ j' => exact h3 j' (by omega) hh
theorem wdN_drop (k j : Nat) : ((pw.drop k).map (·.1))[j]? = wdN[k + j]? := by
  rw [List.map_drop,List.getElem?_drop]
  rfl
theorem pair_at {ws : List Str} {i : Nat} (h : 2 * i + 1 < ws.length) : ws.drop (2 * i) = ws[2 * i] :: ws[2 * i + 1] :: ws.drop (2 * (i + 1)) := by
  rw [List.drop_eq_getElem_cons (by omega),List.drop_eq_getElem_cons h]
  rfl
section
variable {P : Program} {w : World} {K : PySem.W.Frag} {mg : Str → Option Value} {base : Heap}
def spNR : Sp := fun vs H Q _ => ∃ (l : Addr) (ws : List Str),vs = [.ref l] ∧ H l = some (.lst (ws.map V.str)) ∧ Short ws ∧ ws.length ≤ 1000 ∧ (lawN 0 pw loN ws = none → ∀ H',Same H H' → Q .non H') ∧ (∀ ns,lawN 0 pw loN ws = some ns → ∀ p H',H p = none → Same H H' → H' p = some (.lst (ns.map V.int)) → Q (.ref p) H')
theorem ok_numbers_read (Df : Def K mg "_law_numbers_read" s__law_numbers_read ["_law_words"]) (B : Bltn mg) (k__law_number : Knows P w K mg base 1 "_law_number" ["_law_text"] sp_number) : Knows P w K mg base 2 "_law_numbers_read" ["_law_words"] spNR := by
  refine Df.ok sc__law_numbers_read (fun vs H Q E h => ?_) (fun f cdv A outer s H vs Q E hr h => ?_)
  · obtain ⟨l,ws,rfl,_⟩ := h
    rfl
  · obtain ⟨l,ws,rfl,hl,sh,l1000,qn,qs⟩ := h
    have hu := hu0 hr
    refine ⟨_,by exact (pss_cons (ps_set (i := 1) sc__law_numbers_read.nd rfl (Or.inl rfl) (pe_lst (pa_c pe_int (pa_c pe_int (pa_c pe_int (pa_c pe_int (pa_c pe_int pa_nil)))))))
      (pss_cons (ps_set (i := 2) sc__law_numbers_read.nd rfl (Or.inl rfl) pe_int)
      (pss_cons (ps_for PassesOwn.never rfl (pi_range3 rfl B.range (pa_c pe_int (pa_c (pe_op op_sub (pe_bcall call_len_seq rfl B.len PySem.boot_len (pa_c (pv 0) pa_nil)) pe_int) (pa_c pe_int pa_nil)))) (pg_name (i := 3) sc__law_numbers_read.nd rfl (Or.inr rfl)) (pss_cons (ps_setC (i := 4) [0,3] ["_law_k","_law_words","_law_at"] sc__law_numbers_read.nd rfl (Or.inl rfl) rfl (pi_range2 rfl B.range (pa_c (pv 2) (pa_c pe_int pa_nil))) (fun _ _ _ _ => pts_one (pt_cmpR op_eq (pe_ix (ix_listC (K0 := K) rfl) (pe_lst (pa_c pe_str (pa_c pe_str (pa_c pe_str (pa_c pe_str (pa_c pe_str pa_nil)))))) (pv 0) (fun _ _ => rfl)) (pe_ix (ix_listC (K0 := K) rfl) (pv 1) (pv 2) (fun _ _ => rfl)) (nomark _))) (fun _ _ _ _ => (pv 0)))
      (pss_cons (ps_if (pt_cmpR (op_eqL hu) (pv 4) (pe_lst pa_nil) (nomark _)) (pss_one (ps_ret pe_non)) pss_nil)
      (pss_cons (ps_set (i := 5) sc__law_numbers_read.nd rfl (Or.inl rfl) (pe_callM k__law_number hr (pa_c (pe_ix ix_list (pv 0) (pe_op op_add (pv 3) pe_int) (fun _ _ => rfl)) pa_nil)))
      (pss_cons (ps_if (pt_not (pt_chain op_le op_le (pe_ix ix_list (pe_lst (pa_c pe_int (pa_c pe_int (pa_c pe_int (pa_c pe_int (pa_c pe_int pa_nil)))))) (pe_ix ix_list (pv 4) pe_int (fun _ _ => rfl)) (fun _ _ => rfl)) (pv 5) (pe_ix ix_list (pe_lst (pa_c pe_int (pa_c pe_int (pa_c pe_int (pa_c pe_int (pa_c pe_int pa_nil)))))) (pe_ix ix_list (pv 4) pe_int (fun _ _ => rfl)) (fun _ _ => rfl)))) (pss_one (ps_ret pe_non)) pss_nil)
      (pss_cons (ps_asg (pv 5) (pg_sub (pv 1) (pe_ix ix_list (pv 4) pe_int (fun _ _ => rfl)) set_list))
      (pss_one (ps_set (i := 2) sc__law_numbers_read.nd rfl (Or.inl rfl) (pe_op op_add (pe_ix ix_list (pv 4) pe_int (fun _ _ => rfl)) pe_int)))))))))
      (pss_one (ps_ret (pe_ifExp (pt_cmpR op_eq (pe_op op_mod (pe_bcall call_len_seq rfl B.len PySem.boot_len (pa_c (pv 0) pa_nil)) pe_int) pe_int (nomark _)) (pv 1) pe_non)))))), ?_⟩
    refine seq_use (fun v H' => ∃ nl,v = .ref nl ∧ H nl = none ∧ H' nl = some (.lst (loN.map V.int)) ∧ Same H H') (fun Q' kk => ⟨by show 5 ≤ sizeLine; decide,fun b hb => kk _ _ ⟨b,rfl,hb,upd_same,same_of hb⟩⟩) ?_
    rintro _ H1 ⟨nl,rfl,hn0,e1,s1⟩
    refine seq_use (fun v H' => v = .int 0 ∧ H1 = H') (fun Q' kk => kk _ _ ⟨rfl,rfl⟩) ?_
    rintro _ _ ⟨rfl,rfl⟩
    dsimp only
    have nln : l ≠ nl := ne_of_none hl hn0
    refine ⟨_,rfl,l,_,rfl,.inl (SqL.of (s1 _ _ hl)),_,_,rfl,rfl,_,rfl,by omega,by rw [List.length_map]; omega, ?_⟩
    have hcnt : ((((ws.map V.str).length : Int) - 1 + 1) / 2).toNat = ws.length / 2 := by rw [List.length_map]; omega
    rw [hcnt]
    refine for_range2 (lo := 0) (c := 2) (n := ws.length / 2) (fun i σ H2 => Same H H2 ∧ ∃ (k : Nat) (acc : List Int) (v3 v4 v5 : Option V),k ≤ 5 ∧ acc.length = 5 ∧ H2 nl = some (.lst (acc.map V.int)) ∧ lawN 0 pw loN ws = lawN k (pw.drop k) acc (ws.drop (2 * i)) ∧ σ = [some (.ref l),some (.ref nl),some (.int (k : Int)),v3,v4,v5])
      ⟨s1,0,loN,_,_,_,by decide,rfl,e1,rfl,rfl⟩ ?_ ?_
    · rintro i σ H2 hi ⟨s2,k,acc,v3,v4,v5,k5,a5,e2,hlaw,rfl⟩
      have hi2 : 2 * i + 1 < ws.length := by omega
      rw [pair_at hi2] at hlaw
      have hat : (0 : Int) + (i : Int) * 2 = ((2 * i : Nat) : Int) := by omega
      rw [hat]
      have g0 : ws[2 * i]? = some ws[2 * i] := List.getElem?_eq_getElem (by omega)
      have g1 : ws[2 * i + 1]? = some ws[2 * i + 1] := List.getElem?_eq_getElem hi2
      have hn1 : (ws[2 * i + 1]).length ≤ 100000 := sh _ (List.getElem_mem ..)
      generalize ws[2 * i] = x at g0 hlaw
      generalize ws[2 * i + 1] = nt at g1 hlaw hn1
      have hl2 := s2 _ _ hl
      dsimp only [gName]
      refine seq_use (fun v H' => ∃ pl,v = .ref pl ∧ H' pl = some (.lst ((plc k x (5 - k)).map fun j : Nat => V.int (j : Int))) ∧ H2 pl = none ∧ Same H2 H') (fun Q' kk => ?_) ?_
      · refine ⟨_,rfl,_,_,rfl,⟨by omega,by omega,by decide,by decide⟩, ?_⟩
        have h5 : ((5 : Int) - (k : Int)).toNat = 5 - k := by omega
        rw [h5]
        refine comp1_wk (wk_range (k : Int) (5 - k)) (fun m ys H' => Same H2 H' ∧ ys = (plc k x m).map fun j : Nat => V.int (j : Int)) ⟨Same.refl _,rfl⟩ (fun m ys H' _ h => ⟨trivial, ?_⟩) (by rw [rangeV_length]; exact Nat.le_trans (by omega : _ ≤ 5) (by decide)) (fun m y ys H' Nx hx h kk2 => ?_) (fun ys H' h Dd hD => ?_)
        · rw [h.2,List.length_map]
          clear h
          induction m with
          | zero => exact Nat.le_refl _
          | succ m ih =>
            unfold plc
            rw [List.length_append]
            have := ih (by rename_i h2; omega)
            split
            · show _ + 1 ≤ _; omega
            · show _ + 0 ≤ _; omega
        · obtain ⟨sH,rfl⟩ := h
          have h1 : m < (rangeV (k : Int) (5 - k)).length := (List.getElem?_eq_some_iff.mp hx).1
          rw [rangeV_length] at h1
          have hy : y = .int ((k + m : Nat) : Int) := by
            simp only [rangeV,List.getElem?_map,List.getElem?_range h1,Option.map_some,Option.some.injEq] at hx
            rw [← hx,Int.natCast_add]
          subst hy
          obtain ⟨wd,lo,hg,hbd,_⟩ := pw3 (i := k + m) (by omega)
          have hwd := wdN_at hbd
          refine ⟨by show 5 ≤ sizeLine; decide,fun b hb => ⟨_,rfl,b,_,_,_,rfl,rfl,SqL.of upd_same,strs_at hwd,_,rfl,_,rfl,l,_,_,_,rfl,rfl,SqL.of (same_of hb _ _ (sH _ _ hl2)),strs_at g0,rfl,_,rfl, ?_⟩⟩
          have sb := sH.trans (same_of (o := .lst (wdN.map V.str)) hb)
          by_cases hxw : wd = x
          · subst hxw
            refine ite_of (d := true) (decide_eq_true rfl) (fun _ => ⟨_,rfl,kk2 _ _ ⟨sb, ?_⟩⟩) (fun h => by cases h)
            show _ = (plc k wd m ++ (if wdN[k + m]? = some wd then [k + m] else [])).map _
            rw [if_pos hwd,List.map_append]
            rfl
          · refine ite_of (d := false) (decide_eq_false fun h => hxw (by injection h)) (fun h => by cases h) (fun _ => kk2 _ _ ⟨sb, ?_⟩)
            show _ = (plc k x m ++ (if wdN[k + m]? = some x then [k + m] else [])).map _
            rw [if_neg (by rw [hwd]; exact fun h => hxw (by injection h)),List.append_nil]
        · obtain ⟨sH,rfl⟩ := h
          rw [rangeV_length]
          exact kk _ _ ⟨Dd,rfl,upd_same,same_none sH hD,sH.trans (same_of hD)⟩
      rintro _ H3 ⟨pl,rfl,e3,hp0,s3⟩
      refine ⟨_,rfl,by decide,fun u hu0 => ?_⟩
      have t4 : Same H3 (upd H3 u (.lst [])) := same_of hu0
      have e4 : (upd H3 u (.lst [])) u = some (.lst []) := upd_same
      generalize upd H3 u (.lst []) = H4 at t4 e4
      have s4 := (s2.trans s3).trans t4
      have t24 := s3.trans t4
      have p4 := t4 _ _ e3
      have flatI : ∀ js : List Nat,(js.map fun j : Nat => V.int (j : Int)).all flatV = true := fun js => by
        rw [List.all_eq_true]
        intro y hy
        obtain ⟨j,_,rfl⟩ := List.mem_map.mp hy
        rfl
      refine ⟨pl,u,_,[],rfl,rfl,SqL.of p4,SqL.of e4,flatI _,rfl,_,rfl, ?_⟩
      rcases findP_cases x (pw.drop k) with ⟨f1,f2⟩ | ⟨j,lo,hi',f1,f2,f3⟩
      · rw [plc_nil fun j hj => by rw [← wdN_drop]; exact f2 j]
        refine iteT (qn ?_ _ s4)
        rw [hlaw,lawN_eq,f1]
      · rw [List.getElem?_drop] at f2
        have hkj : k + j < 5 := (List.getElem?_eq_some_iff.mp f2).1
        have fw : wdN[k + j]? = some x := wdN_at f2
        obtain ⟨rest,hpl⟩ := plc_head (fun j' hj' => by rw [← wdN_drop]; exact f3 j' hj') fw (show j < 5 - k by omega)
        rw [hpl] at p4 ⊢
        refine iteF (next_to ?_)
        dsimp only
        obtain ⟨wd2,lo2,hi2',hbd2,hlo,hhi,_,_,_⟩ := pw3 (i := k + j) hkj
        rw [f2] at hbd2
        cases hbd2
        rw [lawN_eq,f1] at hlaw
        dsimp only at hlaw
        have at0 : atI (((k + j) :: rest).map fun j : Nat => V.int (j : Int)) 0 = some (.int ((k + j : Nat) : Int)) := atI_nat (j := 0) rfl
        refine seq_use (fun v H' => v = .int (numI nt) ∧ H4 = H') (fun Q' kk => ?_) ?_
        · exact ⟨_,rfl,_,rfl,_,_,rfl,rfl,l,_,_,_,rfl,rfl,SqL.of (s4 _ _ hl),strs_at (i := 2 * i + 1) g1,nt,rfl,hn1,kk _ _ ⟨rfl,rfl⟩⟩
        rintro _ _ ⟨rfl,rfl⟩
        refine ifs_seq (fun b H' => Same H4 H' ∧ b = !decide (lo ≤ numI nt ∧ numI nt ≤ hi')) (fun Q' kk => ?_) ?_ ?_
        · refine ⟨by show 5 ≤ sizeLine; decide,fun b hb => ?_⟩
          have t5 : Same H4 (upd H4 b (.lst (loN.map V.int))) := same_of hb
          refine ⟨_,rfl,pl,_,_,_,rfl,rfl,SqL.of (t5 _ _ p4),at0,b,_,_,_,rfl,rfl,SqL.of upd_same,ints_at hlo,_,rfl,_,_,rfl,rfl,_,rfl, ?_⟩
          by_cases h1 : lo ≤ numI nt
          · refine ite_of (d := true) (decide_eq_true h1) (fun _ => ?_) (fun h => by cases h)
            refine ⟨by show 5 ≤ sizeLine; decide,fun b2 hb2 => ?_⟩
            have t6 := t5.trans (same_of (o := .lst (hiN.map V.int)) hb2)
            refine ⟨_,rfl,pl,_,_,_,rfl,rfl,SqL.of (t6 _ _ p4),at0,b2,_,_,_,rfl,rfl,SqL.of upd_same,ints_at hhi,_,_,rfl,rfl,_,rfl,kk _ _ ⟨t6, ?_⟩⟩
            congr 1
            rw [decide_eq_decide]
            exact ⟨fun h => ⟨h1,h⟩,fun h => h.2⟩
          · refine ite_of (d := false) (decide_eq_false h1) (fun h => by cases h) (fun _ => ⟨_,rfl,kk _ _ ⟨t5, ?_⟩⟩)
            rw [decide_eq_false fun h => h1 h.1]
        · rintro H5 ⟨s5,hb⟩
          have hb' : ¬ (lo ≤ numI nt ∧ numI nt ≤ hi') := by
            intro h
            rw [decide_eq_true h] at hb
            cases hb
          rw [if_neg hb'] at hlaw
          exact qn hlaw _ (s4.trans s5)
        · rintro H5 ⟨s5,hb⟩
          have hb' : lo ≤ numI nt ∧ numI nt ≤ hi' := by
            by_cases h : lo ≤ numI nt ∧ numI nt ≤ hi'
            · exact h
            · rw [decide_eq_false h] at hb
              cases hb
          rw [if_pos hb'] at hlaw
          have p5 := s5 _ _ p4
          have n5 := s5 _ _ (t24 _ _ e2)
          have npl : pl ≠ nl := fun h => by rw [h,e2] at hp0; cases hp0
          refine next_to ?_
          dsimp only
          refine ⟨_,rfl,_,rfl,_,rfl,pl,_,_,_,rfl,rfl,SqL.of p5,at0,nl,_,_,k + j,rfl,rfl,n5,ixN_nat (by rw [List.length_map,a5]; exact hkj), ?_⟩
          refine ⟨_,rfl,pl,_,_,_,rfl,rfl,SqL.of (by rw [upd_ne npl]; exact p5),at0,_,_,rfl,rfl, ?_⟩
          refine ⟨Same.upd (s4.trans s5) hn0,k + j + 1,acc.set (k + j) (numI nt),_,_,_,by omega,by rw [List.length_set]; exact a5,by rw [upd_same,List.map_set], ?_,rfl⟩
          rw [hlaw,List.drop_drop]
          rfl
    · rintro σ H2 ⟨s2,k,acc,v3,v4,v5,k5,a5,e2,hlaw,rfl⟩
      refine ⟨_,rfl,l,_,rfl,.inl (SqL.of (s2 _ _ hl)),_,_,rfl,rfl,by walk_at "m",rfl,_,rfl, ?_⟩
      by_cases hev : ws.length % 2 = 0
      · refine ite_of (d := true) (decide_eq_true (congrArg V.int (by rw [List.length_map]; omega))) (fun _ => ⟨_,rfl,qs acc ?_ nl _ hn0 s2 e2⟩) (fun h => by cases h)
        have hd : ws.drop (2 * (ws.length / 2)) = [] := List.drop_eq_nil_of_le (by omega)
        rw [hlaw,hd,lawN_nil]
      · refine ite_of (d := false) (decide_eq_false fun h => ?_) (fun h => by cases h) (fun _ => qn ?_ _ s2)
        · injection h with h
          rw [List.length_map] at h
          omega
        · have hd : ws.drop (2 * (ws.length / 2)) = [ws[2 * (ws.length / 2)]] := by
            rw [List.drop_eq_getElem_cons (by omega),List.drop_eq_nil_of_le (by omega)]
          rw [hlaw,hd,lawN_one]
end
end K03
namespace K03
open PySem L2 PyProof.Rows WM
theorem uniq_conv {ks : List Key} (h : (uniqK ks).length = ks.length) : ks.Nodup := by
  have : ∀ i,i ≤ ks.length → (metK (fun i => ks.getD i (.inl 0)) i).length = i → metK (fun i => ks.getD i (.inl 0)) i = ks.take i ∧ (ks.take i).Nodup := by
    intro i
    induction i with
    | zero => intro _ _; exact ⟨rfl,List.nodup_nil⟩
    | succ i ih =>
      intro hi hl
      have e : ks.getD i (.inl 0) = ks[i] := by rw [List.getD_eq_getElem?_getD,List.getElem?_eq_getElem (by omega)]; rfl
      have hs : metK (fun i => ks.getD i (.inl 0)) (i + 1) = addK (metK (fun i => ks.getD i (.inl 0)) i) ks[i] := by rw [← e]; rfl
      have hle := metK_le (fun i => ks.getD i (.inl 0)) i
      rw [hs] at hl ⊢
      unfold addK at hl ⊢
      by_cases hm : ks[i] ∈ metK (fun i => ks.getD i (.inl 0)) i
      · rw [if_pos hm] at hl
        omega
      · rw [if_neg hm] at hl ⊢
        rw [List.length_append] at hl
        obtain ⟨h1,h2⟩ := ih (by omega) (by simpa using hl)
        have ht : ks.take (i + 1) = ks.take i ++ [ks[i]] := (List.take_append_getElem (l := ks) (i := i) (by omega)).symm
        rw [ht,h1]
        refine ⟨rfl, ?_⟩
        rw [h1] at hm
        rw [List.nodup_append]
        exact ⟨h2,List.pairwise_singleton _ _,fun a ha b hb => by rw [List.mem_singleton.mp hb]; exact fun e => hm (e ▸ ha)⟩
  have h' := (this ks.length (Nat.le_refl _) h).2
  rwa [List.take_length] at h'
theorem okNeeds_of {nm : Str} {ks : List Str} (l8 : ks.length ≤ 8) (kn : ∀ k ∈ ks,isName k = true) (ot : nm ∉ ks) (un : ks.Nodup) : okNeeds nm (ks.map V.str) = true := by
  have h1 : (ks.map V.str).all (madeOf LET 12) = true := by
    rw [List.all_eq_true]
    intro x hx
    obtain ⟨k,hk,rfl⟩ := List.mem_map.mp hx
    exact kn k hk
  have h2 : (uniqK ((ks.map V.str).map keyOf)).length = (ks.map V.str).length := by
    rw [keys_strs,uniq_nodup,List.length_map,List.length_map]
    rw [List.Nodup,List.pairwise_map]
    exact un.imp fun h e => h (by injection e)
  unfold okNeeds
  rw [h1,inV_str ot,decide_eq_true h2,decide_eq_true (by rw [List.length_map]; exact l8)]
  rfl
theorem okNeeds_to {nm : Str} {ks : List Str} (h : okNeeds nm (ks.map V.str) = true) : ks.length ≤ 8 ∧ (∀ k ∈ ks,isName k = true) ∧ nm ∉ ks ∧ ks.Nodup := by
  unfold okNeeds at h
  simp only [Bool.and_eq_true,decide_eq_true_eq,Bool.not_eq_true'] at h
  obtain ⟨h1,h2,h3,h4⟩ := h
  rw [List.length_map] at h1
  refine ⟨h1,fun k hk => List.all_eq_true.mp h2 _ (List.mem_map.mpr ⟨k,hk,rfl⟩),fun hm => ?_, ?_⟩
  · unfold inV at h3
    rw [List.any_eq_false] at h3
    exact h3 (.str nm) (List.mem_map.mpr ⟨nm,hm,rfl⟩) (by show eqV (.str nm) (.str nm) = true; simp [eqV])
  · rw [keys_strs,List.length_map] at h4
    have := uniq_conv (ks := ks.map Sum.inr) (by rw [h4,List.length_map])
    rw [List.Nodup,List.pairwise_map] at this
    exact this.imp fun h e => h (by rw [e])
def nrTo (nm : Str) (ks : List Str) (i : Nat) : Prop := ∀ j,j < i → ∀ k,ks[j]? = some k → isName k = true ∧ k ≠ nm ∧ k ∉ ks.take j
theorem nr_all {nm : Str} {ks : List Str} (h : nrTo nm ks ks.length) : (∀ k ∈ ks,isName k = true) ∧ nm ∉ ks ∧ ks.Nodup := by
  refine ⟨fun k hk => ?_,fun hm => ?_, ?_⟩
  · obtain ⟨j,hj,rfl⟩ := List.mem_iff_getElem.mp hk
    exact (h j hj _ (List.getElem?_eq_getElem hj)).1
  · obtain ⟨j,hj,e⟩ := List.mem_iff_getElem.mp hm
    exact (h j hj _ (List.getElem?_eq_getElem hj)).2.1 e
  · rw [List.Nodup,List.pairwise_iff_getElem]
    intro i j hi hj hij e
    refine (h j hj _ (List.getElem?_eq_getElem hj)).2.2 ?_
    rw [← e]
    refine List.mem_of_getElem? (i := i) ?_
    rw [List.getElem?_take_of_lt hij,List.getElem?_eq_getElem hi]
theorem nr_bad {nm : Str} {ks : List Str} {j : Nat} {k : Str} (hj : ks[j]? = some k) (h : ¬ (isName k = true ∧ k ≠ nm ∧ k ∉ ks.take j)) : okNeeds nm (ks.map V.str) = false := by
  cases e : okNeeds nm (ks.map V.str) with
  | false => rfl
  | true =>
    obtain ⟨_,h2,h3,h4⟩ := okNeeds_to e
    have hk := List.mem_of_getElem? hj
    refine absurd ⟨h2 k hk,fun z => h3 (z ▸ hk),fun hm => ?_⟩ h
    obtain ⟨i,hi,ei⟩ := List.mem_iff_getElem.mp hm
    rw [List.length_take] at hi
    rw [List.getElem_take] at ei
    obtain ⟨hjl,ej⟩ := List.getElem?_eq_some_iff.mp hj
    rw [List.Nodup,List.pairwise_iff_getElem] at h4
    exact h4 i j (by omega) hjl (by omega) (by rw [ei,ej])
theorem inV_dec (k : Str) (ks : List Str) : inV (.str k) (ks.map V.str) = decide (k ∈ ks) := by
  by_cases h : k ∈ ks
  · rw [decide_eq_true h]
    unfold inV
    rw [List.any_eq_true]
    exact ⟨.str k,List.mem_map.mpr ⟨k,h,rfl⟩,by show eqV (.str k) (.str k) = true; simp [eqV]⟩
  · rw [decide_eq_false h,inV_str h]
section
variable {P : Program} {w : World} {K : PySem.W.Frag} {mg : Str → Option Value} {base : Heap}
def spNdR : Sp := fun vs H Q _ => ∃ (nm : Str) (l : Addr) (ks : List Str),vs = [.str nm,.ref l] ∧ H l = some (.lst (ks.map V.str)) ∧ Short ks ∧ ks.length ≤ 1000 ∧ ∀ H',Same H H' → Q (.bl (okNeeds nm (ks.map V.str) && decide (1 ≤ ks.length))) H'
theorem ok_needs_read (Df : Def K mg "_law_needs_read" s__law_needs_read ["_law_name","_law_words"]) (B : Bltn mg) (k__law_is_name : Knows P w K mg base 1 "_law_is_name" ["_law_text"] sp_is_nameL) : Knows P w K mg base 2 "_law_needs_read" ["_law_name","_law_words"] spNdR := by
  refine Df.ok sc__law_needs_read (fun vs H Q E h => ?_) (fun f cdv A outer s H vs Q E hr h => ?_)
  · obtain ⟨nm,l,ks,rfl,_⟩ := h
    rfl
  · obtain ⟨nm,l,ks,rfl,hl,sh,l1000,q⟩ := h
    refine ⟨_,by exact (pss_cons (ps_for PassesOwn.never rfl (pi_range1 rfl B.range (pa_c (pe_bcall call_len_seq rfl B.len PySem.boot_len (pa_c (pv 1) pa_nil)) pa_nil)) (pg_name (i := 2) sc__law_needs_read.nd rfl (Or.inl rfl)) (pss_one (ps_if (PW.pt (pw_or (pt_not (pt_val (pe_callM k__law_is_name hr (pa_c (pe_ix ix_list (pv 1) (pv 2) (fun _ _ => rfl)) pa_nil)))) (pw_or (pt_cmpR op_eq (pe_ix ix_list (pv 1) (pv 2) (fun _ _ => rfl)) (pv 0) (nomark _)) (pw_or1 (pt_cmpR op_in_seq (pe_ix ix_list (pv 1) (pv 2) (fun _ _ => rfl)) (pe_slice sl_list (pv 1) po_none (po_some (pv 2))) (by with_unfolding_all rfl)))))) (pss_one (ps_ret pe_bl)) pss_nil)))
      (pss_one (ps_ret (pe_chain op_le op_le pe_int (pe_bcall call_len_seq rfl B.len PySem.boot_len (pa_c (pv 1) pa_nil)) pe_int)))), ?_⟩
    refine ⟨_,rfl,l,_,rfl,.inl (SqL.of hl),_,rfl,by omega,by rw [List.length_map]; omega, ?_⟩
    have hcnt : (((ks.map V.str).length : Int)).toNat = ks.length := by rw [List.length_map]; omega
    rw [hcnt]
    refine for_range (n := ks.length) (fun i σ H2 => Same H H2 ∧ nrTo nm ks i ∧ ∃ v2,σ = [some (.str nm),some (.ref l),v2]) ⟨Same.refl _,(fun j hj => by omega),_,rfl⟩ ?_ ?_
    · rintro i σ H2 hi ⟨s2,nr,v2,rfl⟩
      rw [Int.zero_add]
      have g0 : ks[i]? = some ks[i] := List.getElem?_eq_getElem hi
      have hk1 : (ks[i]).length ≤ 100000 := sh _ (List.getElem_mem ..)
      generalize ks[i] = k at g0 hk1
      have fin : ∀ H3,Same H2 H3 → ¬ (isName k = true ∧ k ≠ nm ∧ k ∉ ks.take i) → Q (.bl false) H3 := fun H3 s3 hb => by
        have := q H3 (s2.trans s3)
        rw [nr_bad g0 hb] at this
        exact this
      dsimp only [gName]
      refine ⟨_,rfl,_,rfl,l,_,_,_,rfl,rfl,SqL.of (s2 _ _ hl),strs_at g0,k,rfl,hk1,fun H3 s3 => ⟨_,rfl, ?_⟩⟩
      cases hm : madeOf LET 12 (.str k) with
      | false =>
        refine iteT (iteT (fin H3 s3 fun h => ?_))
        rw [show isName k = false from hm] at h
        cases h.1
      | true =>
        refine iteF ?_
        have l3 := s3 _ _ (s2 _ _ hl)
        refine ⟨_,rfl,_,rfl,l,_,_,_,rfl,rfl,SqL.of l3,strs_at g0,_,rfl,rfl,_,rfl, ?_⟩
        by_cases hkn : k = nm
        · refine ite_of (d := true) (decide_eq_true (by rw [hkn])) (fun _ => iteT (fin H3 s3 fun h => h.2.1 hkn)) (fun h => by cases h)
        · refine ite_of (d := false) (decide_eq_false fun h => hkn (by injection h)) (fun h => by cases h) (fun _ => ?_)
          refine ⟨_,rfl,_,rfl,l,_,_,_,rfl,rfl,SqL.of l3,strs_at g0,_,rfl,_,rfl,_,rfl,l,_,rfl,SqL.of l3,fun p hp => ?_⟩
          have s4 : Same H3 (upd H3 p (.lst (cutV (ks.map V.str) none (some (i : Int))))) := same_of hp
          have e4 : (upd H3 p (.lst (cutV (ks.map V.str) none (some (i : Int))))) p = some (.lst ((ks.take i).map V.str)) := by rw [upd_same,cut_to,List.map_take]
          generalize upd H3 p (.lst (cutV (ks.map V.str) none (some (i : Int)))) = H4 at s4 e4
          refine ⟨p,_,rfl,.inl (SqL.of e4),rfl,flat_strs _,_,rfl, ?_⟩
          refine ite_of (d := decide (k ∈ ks.take i)) (by rw [if_neg Bool.false_ne_true,inV_dec]) (fun h => fin H4 (s3.trans s4) fun h2 => h2.2.2 (of_decide_eq_true h)) (fun h => ?_)
          refine ⟨(s2.trans s3).trans s4,fun j hj k' hk' => ?_,_,rfl⟩
          by_cases hji : j = i
          · rw [hji] at hk' ⊢
            rw [g0] at hk'
            cases hk'
            exact ⟨hm,hkn,of_decide_eq_false h⟩
          · exact nr j (by omega) k' hk'
    · rintro σ H2 ⟨s2,nr,v2,rfl⟩
      obtain ⟨h1,h2,h3⟩ := nr_all nr
      have fin : ∀ b : Bool,(b = decide (1 ≤ ks.length ∧ ks.length ≤ 8)) → Q (.bl b) H2 := fun b hb => by
        have := q H2 s2
        have e : (okNeeds nm (ks.map V.str) && decide (1 ≤ ks.length)) = b := by
          rw [hb]
          by_cases l8 : ks.length ≤ 8
          · rw [okNeeds_of l8 h1 h2 h3,Bool.true_and,decide_eq_decide]
            exact ⟨fun h => ⟨h,l8⟩,fun h => h.1⟩
          · have : okNeeds nm (ks.map V.str) = false := by
              cases e : okNeeds nm (ks.map V.str) with
              | false => rfl
              | true => exact absurd (okNeeds_to e).1 l8
            rw [this,Bool.false_and,decide_eq_false (p := 1 ≤ ks.length ∧ ks.length ≤ 8) fun h => l8 h.2]
        rw [e] at this
        exact this
      refine ⟨_,rfl,l,_,rfl,.inl (SqL.of (s2 _ _ hl)),_,_,rfl,rfl,_,rfl, ?_⟩
      by_cases h1 : 1 ≤ ks.length
      · refine ite_of (d := true) (decide_eq_true (by rw [List.length_map]; omega)) (fun _ => ⟨_,_,rfl,rfl,fin _ ?_⟩) (fun h => by cases h)
        rw [decide_eq_decide,List.length_map]
        omega
      · refine ite_of (d := false) (decide_eq_false (by rw [List.length_map]; omega)) (fun h => by cases h) (fun _ => fin _ ?_)
        rw [decide_eq_false fun h => h1 h.1]
end
end K03
namespace K03
open PySem L2 PyProof.Rows WM
abbrev nds : Str := "needs"
theorem split2_none : ∀ (r : List Str),(∀ j : Nat,r[2 * j]? ≠ some nds) → split2 r = (r,none)
  | [],_ => rfl
  | [x],h => if_neg fun e => h 0 (by rw [e]; rfl)
  | x :: n :: r,h => by
    have ih := split2_none r fun j hj => h (j + 1) (by rw [show 2 * (j + 1) = 2 * j + 1 + 1 by omega]; exact hj)
    rw [show split2 (x :: n :: r) = (x :: n :: (split2 r).1,(split2 r).2) from if_neg fun e => h 0 (by rw [e]; rfl),ih]
theorem split2_at : ∀ (r : List Str) (j : Nat),r[2 * j]? = some nds → (∀ j' : Nat,j' < j → r[2 * j']? ≠ some nds) → split2 r = (r.take (2 * j),some (r.drop (2 * j + 1)))
  | [],j,h,_ => by cases h
  | [x],j,h,_ => by
    cases j with
    | zero => exact if_pos (by injection h)
    | succ j => rw [show 2 * (j + 1) = 2 * j + 1 + 1 by omega] at h; cases h
  | x :: n :: r,j,h,h0 => by
    cases j with
    | zero => exact if_pos (by injection h)
    | succ j =>
      rw [show 2 * (j + 1) = 2 * j + 1 + 1 by omega] at h
      have ih := split2_at r j h fun j' hj' hh => h0 (j' + 1) (by omega) (by rw [show 2 * (j' + 1) = 2 * j' + 1 + 1 by omega]; exact hh)
      rw [show split2 (x :: n :: r) = (x :: n :: (split2 r).1,(split2 r).2) from if_neg fun e => h0 0 (by omega) (by rw [e]; rfl),ih,show 2 * (j + 1) = 2 * j + 1 + 1 by omega]
      rfl
def SpA (r : List Str) (a : Nat) : Prop := a ≤ r.length ∧ split2 r = (r.take a,if a < r.length then some (r.drop (a + 1)) else none)
theorem progR_len : ∀ (ps : List (Str × Int × Int)) (r : List Str) (ns : List Int) (ks : List Str),progR ps r = some (ns,ks) → ns.length = ps.length
  | [],r,ns,ks,h => by
    have e2 : progR [] r = (needsIn r).map fun ks => ([],ks) := by cases r <;> rfl
    rw [e2] at h
    cases e : needsIn r with
    | none => rw [e] at h; cases h
    | some y => rw [e] at h; cases h; rfl
  | p :: ps,[],ns,ks,h => by
    have h' : (progR ps []).map (fun y => (p.2.1 :: y.1,y.2)) = some (ns,ks) := h
    cases e : progR ps [] with
    | none => rw [e] at h'; cases h'
    | some y => rw [e] at h'; cases h'; rw [List.length_cons,progR_len ps [] y.1 y.2 e]; rfl
  | p :: ps,x :: r,ns,ks,h => by
    rw [pR_eq] at h
    split at h
    · cases r with
      | nil => cases h
      | cons n r =>
        dsimp only at h
        split at h
        · cases e : progR ps r with
          | none => rw [e] at h; cases h
          | some y => rw [e] at h; cases h; rw [List.length_cons,progR_len ps r y.1 y.2 e]; rfl
        · cases h
    · cases e : progR ps (x :: r) with
      | none => rw [e] at h; cases h
      | some y => rw [e] at h; cases h; rw [List.length_cons,progR_len ps (x :: r) y.1 y.2 e]; rfl
theorem jobOf_len {z nm : Str} {ks : List Str} {ns : List Int} (h : jobOf z = some (nm,ks,ns)) : ns.length = 5 := by
  unfold jobOf at h
  split at h
  · split at h
    · split at h
      · rename_i hp
        split at h
        · cases h
          exact progR_len _ _ _ _ hp
        · cases h
      · cases h
    · cases h
  · cases h
theorem jobOf_eq {z j nm : Str} {rest : List Str} (hw : wordsOf (.str z) = some (j :: nm :: rest)) : jobOf z = if j = "job" ∧ isName nm = true then (match progR pw rest with
      | some (ns,ks) => if okNeeds nm (ks.map V.str) = true then some (nm,ks,ns) else none
      | none => none) else none := by
  unfold jobOf
  rw [hw] <;> rfl
theorem prog_at {rest : List Str} {a : Nat} (h : SpA rest a) : progR pw rest = (lawN 0 pw loN (rest.take a)).bind fun ns => if a < rest.length then (match rest.drop (a + 1) with
    | [] => none
    | x :: r => some (ns,x :: r)) else some (ns,[]) := by
  rw [prog_law pw 0 loN rest pw_nn pw_nd rfl rfl]
  unfold lawR
  rw [h.2]
  dsimp only
  congr 1
  funext ns
  by_cases e : a < rest.length
  · rw [if_pos e,if_pos e]
    cases rest.drop (a + 1) <;> rfl
  · rw [if_neg e,if_neg e]
    rfl
section
variable {P : Program} {w : World} {K : PySem.W.Frag} {mg : Str → Option Value} {base : Heap}
def spRead : Sp := fun vs H Q _ => ∃ z : Str,vs = [.str z] ∧ z.length ≤ 900 ∧ (jobOf z = none → ∀ H',Same H H' → Q .non H') ∧ (∀ nm ks ns,jobOf z = some (nm,ks,ns) → ∀ t kl nl H',Same H H' → H' t = some (.tup [.str nm,.ref kl,.ref nl]) → H' kl = some (.lst (ks.map V.str)) → H' nl = some (.lst (ns.map V.int)) → Q (.ref t) H')
theorem ok_read (Df : Def K mg "_law_read" s__law_read ["_law_line"]) (B : Bltn mg) (k__law_is_name : Knows P w K mg base 1 "_law_is_name" ["_law_text"] sp_is_nameL) (k__law_numbers_read : Knows P w K mg base 2 "_law_numbers_read" ["_law_words"] spNR) (k__law_needs_read : Knows P w K mg base 2 "_law_needs_read" ["_law_name","_law_words"] spNdR) : Knows P w K mg base 3 "_law_read" ["_law_line"] spRead := by
  refine Df.ok sc__law_read (fun vs H Q E h => ?_) (fun f cdv A outer s H vs Q E hr h => ?_)
  · obtain ⟨z,rfl,_⟩ := h
    rfl
  · obtain ⟨z,rfl,z9,qn,qs⟩ := h
    refine ⟨_,by exact (pss_cons (ps_set (i := 1) sc__law_read.nd rfl (Or.inl rfl) (pe_mcall PySem.F.plainAttrs_str PySem.F.slot_str_split PySem.F.type_str_split mt_split (pv 0) (pa_c pe_str pa_nil)))
      (pss_cons (ps_if (PW.pt (pw_or (pt_cmpR op_in_seq pe_str (pv 1) (by with_unfolding_all rfl)) (pw_or (pt_cmpR op_lt (pe_bcall call_len_seq rfl B.len PySem.boot_len (pa_c (pv 1) pa_nil)) pe_int (nomark _)) (pw_or (pt_cmpR op_ne (pe_ix ix_list (pv 1) pe_int (fun _ _ => rfl)) pe_str (nomark _)) (pw_or1 (pt_not (pt_val (pe_callM k__law_is_name hr (pa_c (pe_ix ix_list (pv 1) pe_int (fun _ _ => rfl)) pa_nil))))))))) (pss_one (ps_ret pe_non)) pss_nil)
      (pss_cons (ps_set (i := 2) sc__law_read.nd rfl (Or.inl rfl) (pe_slice sl_list (pv 1) (po_some pe_int) po_none))
      (pss_cons (ps_set (i := 3) sc__law_read.nd rfl (Or.inl rfl) (pe_bcall call_len_seq rfl B.len PySem.boot_len (pa_c (pv 2) pa_nil)))
      (pss_cons (ps_for PassesOwn.never rfl (pi_range3 rfl B.range (pa_c pe_int (pa_c (pe_bcall call_len_seq rfl B.len PySem.boot_len (pa_c (pv 2) pa_nil)) (pa_c pe_int pa_nil)))) (pg_name (i := 4) sc__law_read.nd rfl (Or.inl rfl)) (pss_one (ps_if (PW.pt (pw_and (pt_cmpR op_eq (pe_ix ix_list (pv 2) (pv 4) (fun _ _ => rfl)) pe_str (nomark _)) (pw_and1 (pt_cmpR op_eq (pv 3) (pe_bcall call_len_seq rfl B.len PySem.boot_len (pa_c (pv 2) pa_nil)) (nomark _))))) (pss_one (ps_set (i := 3) sc__law_read.nd rfl (Or.inl rfl) (pv 4))) pss_nil)))
      (pss_cons (ps_set (i := 5) sc__law_read.nd rfl (Or.inl rfl) (pe_callM k__law_numbers_read hr (pa_c (pe_slice sl_list (pv 2) po_none (po_some (pv 3))) pa_nil)))
      (pss_cons (ps_if (pt_cmpR op_isN (pv 5) pe_non (nomark _)) (pss_one (ps_ret pe_non)) pss_nil)
      (pss_cons (ps_if (PW.pt (pw_and (pt_cmpR op_lt (pv 3) (pe_bcall call_len_seq rfl B.len PySem.boot_len (pa_c (pv 2) pa_nil)) (nomark _)) (pw_and1 (pt_not (pt_val (pe_callM k__law_needs_read hr (pa_c (pe_ix ix_list (pv 1) pe_int (fun _ _ => rfl)) (pa_c (pe_slice sl_list (pv 2) (po_some (pe_op op_add (pv 3) pe_int)) po_none) pa_nil)))))))) (pss_one (ps_ret pe_non)) pss_nil)
      (pss_one (ps_ret (pe_tup (pa_c (pe_ix ix_list (pv 1) pe_int (fun _ _ => rfl)) (pa_c (pe_slice sl_list (pv 2) (po_some (pe_op op_add (pv 3) pe_int)) po_none) (pa_c (pv 5) pa_nil)))))))))))))), ?_⟩
    have es : Txt.split z " " = partsOf z := by rw [sp1,txt_split_eq]; rfl
    refine seq_use (fun v H' => ∃ p,v = .ref p ∧ H' p = some (.lst ((partsOf z).map V.str)) ∧ Same H H') (fun Q' kk => ?_) ?_
    · refine ⟨_,rfl,rfl,z," ",rfl,rfl,by rw [sp1]; rfl,Nat.le_trans (Nat.add_le_add_right z9 2) (by decide),fun p hp => ?_⟩
      rw [es]
      exact kk _ _ ⟨p,rfl,upd_same,same_of hp⟩
    rintro _ H1 ⟨p,rfl,e1,s1⟩
    have wsh : Short (partsOf z) := fun y hy => Nat.le_trans (parts_short z y hy) (Nat.le_trans z9 (by decide))
    have wfew : (partsOf z).length ≤ 901 := Nat.le_trans (parts_few z) (by omega)
    have hw : emptyIn (partsOf z) = false → wordsOf (.str z) = some (partsOf z) := fun h => by
      unfold wordsOf
      dsimp only
      rw [h]
      rfl
    have hw0 : emptyIn (partsOf z) = true → wordsOf (.str z) = none := fun h => by
      unfold wordsOf
      dsimp only
      rw [h]
      rfl
    have ei : inV (.str "") ((partsOf z).map V.str) = emptyIn (partsOf z) := by
      unfold inV emptyIn
      rw [List.any_map]
      rfl
    dsimp only
    refine ⟨_,rfl,p,_,rfl,.inl (SqL.of e1),rfl,flat_strs _,_,rfl, ?_⟩
    generalize partsOf z = ws at *
    refine ite_of (d := emptyIn ws) (by rw [if_neg Bool.false_ne_true,ei]) (fun h => iteT (qn ?_ _ s1)) (fun h => ?_)
    · unfold jobOf
      rw [hw0 h]
    have hww := hw h
    match ws,e1,hww,wsh,wfew with
    | [],e1,hww,wsh,wfew => exact ⟨_,rfl,p,_,rfl,.inl (SqL.of e1),_,_,rfl,rfl,_,rfl,iteT (iteT (qn (by unfold jobOf; rw [hww]) _ s1))⟩
    | [x],e1,hww,wsh,wfew => exact ⟨_,rfl,p,_,rfl,.inl (SqL.of e1),_,_,rfl,rfl,_,rfl,iteT (iteT (qn (by unfold jobOf; rw [hww]) _ s1))⟩
    | j :: nm :: rest,e1,hww,wsh,wfew =>
      have jq := jobOf_eq hww
      refine ⟨_,rfl,p,_,rfl,.inl (SqL.of e1),_,_,rfl,rfl,_,rfl, ?_⟩
      refine ite_of (d := false) (decide_eq_false (by rw [List.length_map]; show ¬ ((rest.length + 1 + 1 : Nat) : Int) < 2; omega)) (fun h => by cases h) (fun _ => ?_)
      refine ⟨_,rfl,p,_,_,_,rfl,rfl,SqL.of e1,atI_nat (j := 0) rfl,rfl,_,rfl, ?_⟩
      by_cases hj : j = "job"
      · subst hj
        refine ite_of (d := false) (by rw [decide_eq_true rfl]; rfl) (fun h => by cases h) (fun _ => ?_)
        refine ⟨_,rfl,p,_,_,_,rfl,rfl,SqL.of e1,atI_nat (j := 1) rfl,nm,rfl,wsh nm (by simp),fun H2 s2 => ⟨_,rfl, ?_⟩⟩
        cases hm : madeOf LET 12 (.str nm) with
        | false =>
          refine iteT (qn ?_ _ (s1.trans s2))
          rw [jq,if_neg fun h => by rw [show isName nm = false from hm] at h; cases h.2]
        | true =>
          rw [if_pos ⟨rfl,hm⟩] at jq
          refine iteF (next_to ?_)
          dsimp only
          have s12 := s1.trans s2
          have p2 := s2 _ _ e1
          refine seq_use (fun v H' => ∃ rl,v = .ref rl ∧ H' rl = some (.lst (rest.map V.str)) ∧ Same H2 H') (fun Q' kk => ?_) ?_
          · refine ⟨_,rfl,_,rfl,p,_,rfl,SqL.of p2,fun rl hrl => kk _ _ ⟨rl,rfl, ?_,same_of hrl⟩⟩
            rw [upd_same,show (some (2 : Int)) = some ((2 : Nat) : Int) from rfl,cut_from]
            rfl
          rintro _ H3 ⟨rl,rfl,r3,s3⟩
          have p3 := s3 _ _ p2
          have s13 := s12.trans s3
          refine seq_use (fun v H' => v = .int (rest.length : Int) ∧ H3 = H') (fun Q' kk => ⟨_,rfl,rl,_,rfl,.inl (SqL.of r3),kk _ _ ⟨by rw [List.length_map],rfl⟩⟩) ?_
          rintro _ _ ⟨rfl,rfl⟩
          have lr : rest.length ≤ 901 := by simp only [List.length_cons] at wfew; omega
          refine ⟨_,rfl,rl,_,rfl,.inl (SqL.of r3),_,rfl,by omega,by rw [List.length_map]; omega, ?_⟩
          have hcnt : ((((rest.map V.str).length : Int) + 1) / 2).toNat = (rest.length + 1) / 2 := by rw [List.length_map]; omega
          rw [hcnt]
          refine for_range2 (lo := 0) (c := 2) (n := (rest.length + 1) / 2) (fun i σ H4 => H4 = H3 ∧ ∃ (a : Nat) (v4 : Option V),((a = rest.length ∧ ∀ j : Nat,j < i → rest[2 * j]? ≠ some nds) ∨ ∃ j0 : Nat,j0 < i ∧ a = 2 * j0 ∧ rest[2 * j0]? = some nds ∧ ∀ j : Nat,j < j0 → rest[2 * j]? ≠ some nds) ∧ σ = [some (.str z),some (.ref p),some (.ref rl),some (.int (a : Int)),v4,none])
            ⟨rfl,rest.length,_,.inl ⟨rfl,fun j hj => by omega⟩,rfl⟩ ?_ ?_
          · rintro i σ H4 hi ⟨rfl,a,v4,ha,rfl⟩
            have hat : (0 : Int) + (i : Int) * 2 = ((2 * i : Nat) : Int) := by omega
            rw [hat]
            have hi2 : 2 * i < rest.length := by omega
            have g0 : rest[2 * i]? = some rest[2 * i] := List.getElem?_eq_getElem hi2
            generalize rest[2 * i] = x at g0
            dsimp only [gName]
            refine ⟨_,rfl,_,rfl,rl,_,_,_,rfl,rfl,SqL.of r3,strs_at g0,rfl,_,rfl, ?_⟩
            by_cases hx : x = nds
            · subst hx
              refine ite_of (d := true) (decide_eq_true rfl) (fun _ => ?_) (fun h => by cases h)
              refine ⟨_,rfl,_,rfl,rl,_,rfl,.inl (SqL.of r3),rfl,_,rfl, ?_⟩
              rw [List.length_map]
              rcases ha with ⟨ha1,ha2⟩ | ⟨j0,hj0,ha1,ha2,ha3⟩
              · refine ite_of (d := true) (decide_eq_true (by rw [ha1])) (fun _ => ⟨_,rfl,rfl,2 * i,_,.inr ⟨i,by omega,rfl,g0,ha2⟩,rfl⟩) (fun h => by cases h)
              · refine ite_of (d := false) (decide_eq_false fun h => ?_) (fun h => by cases h) (fun _ => ⟨rfl,a,_,.inr ⟨j0,by omega,ha1,ha2,ha3⟩,rfl⟩)
                injection h with h
                have := (List.getElem?_eq_some_iff.mp ha2).1
                omega
            · refine ite_of (d := false) (decide_eq_false fun h => hx (by injection h)) (fun h => by cases h) (fun _ => iteF ⟨rfl,a,_, ?_,rfl⟩)
              rcases ha with ⟨ha1,ha2⟩ | ⟨j0,hj0,ha1,ha2,ha3⟩
              · refine .inl ⟨ha1,fun j hj => ?_⟩
                by_cases hji : j = i
                · rw [hji,g0]
                  exact fun h => hx (by injection h)
                · exact ha2 j (by omega)
              · exact .inr ⟨j0,by omega,ha1,ha2,ha3⟩
          · rintro σ H4 ⟨rfl,a,v4,ha,rfl⟩
            have spa : SpA rest a := by
              rcases ha with ⟨ha1,ha2⟩ | ⟨j0,hj0,ha1,ha2,ha3⟩
              · refine ⟨by omega, ?_⟩
                rw [if_neg (by omega),ha1,List.take_of_length_le (Nat.le_refl _)]
                refine split2_none rest fun j => ?_
                by_cases hj : j < (rest.length + 1) / 2
                · exact ha2 j hj
                · rw [List.getElem?_eq_none (by omega)]
                  exact fun h => by cases h
              · have := (List.getElem?_eq_some_iff.mp ha2).1
                refine ⟨by omega, ?_⟩
                rw [if_pos (by omega),ha1]
                exact split2_at rest j0 ha2 ha3
            have al := spa.1
            rw [prog_at spa] at jq
            dsimp only
            refine seq_use (fun v H' => (v = .non ∧ lawN 0 pw loN (rest.take a) = none ∧ Same H4 H') ∨ ∃ nl ns,v = .ref nl ∧ lawN 0 pw loN (rest.take a) = some ns ∧ H' nl = some (.lst (ns.map V.int)) ∧ Same H4 H') (fun Q' kk => ?_) ?_
            · refine ⟨_,rfl,_,rfl,_,rfl,rl,_,rfl,SqL.of r3,fun c hc => ?_⟩
              have t5 : Same H4 (upd H4 c (.lst (cutV (rest.map V.str) none (some (a : Int))))) := same_of hc
              have e5 : (upd H4 c (.lst (cutV (rest.map V.str) none (some (a : Int))))) c = some (.lst ((rest.take a).map V.str)) := by rw [upd_same,cut_to,List.map_take]
              generalize upd H4 c (.lst (cutV (rest.map V.str) none (some (a : Int)))) = H5 at t5 e5
              exact ⟨c,_,rfl,e5,fun y hy => wsh y (by simp [List.mem_of_mem_take hy]),by rw [List.length_take]; omega,fun hn H' s' => kk _ _ (.inl ⟨rfl,hn,t5.trans s'⟩),fun ns hn p' H' _ s' e' => kk _ _ (.inr ⟨p',ns,rfl,hn,e',t5.trans s'⟩)⟩
            rintro v H5 (⟨rfl,hn,s5⟩ | ⟨nl,ns,rfl,hn,n5,s5⟩)
            · refine ⟨_,rfl,rfl,_,rfl,iteT (qn ?_ _ (s13.trans s5))⟩
              rw [jq,hn]
              rfl
            · refine ⟨_,rfl,rfl,_,rfl, ?_⟩
              refine ite_of (d := false) (decide_eq_false fun h => by cases h) (fun h => by cases h) (fun _ => next_to ?_)
              dsimp only
              have r5 := s5 _ _ r3
              have p5 := s5 _ _ p3
              rw [hn] at jq
              dsimp only [Option.bind] at jq
              have shd : Short (rest.drop (a + 1)) := fun y hy => wsh y (by simp [List.mem_of_mem_drop hy])
              have ld : (rest.drop (a + 1)).length ≤ 1000 := by rw [List.length_drop]; omega
              have fin : ∀ (σ : L2.St) (H6 : Hp),Same H5 H6 → σ[1]? = some (some (.ref p)) → σ[2]? = some (some (.ref rl)) → σ[3]? = some (some (.int (a : Int))) → σ[5]? = some (some (.ref nl)) → jobOf z = some (nm,rest.drop (a + 1),ns) → (tRet (tTup (tCons (tOp (rIxL K) (tVar 1) (tC (.int 1))) (tCons (tSl (rSlL K) (tVar 2) (tPart (tOp (rI0 fun i j => .int (i + j)) (tVar 3) (tC (.int 1)))) tNoPart) (tCons (tVar 5) tNil))))) { nx := fun _ H' => Q .non H',rt := Q } σ H6 := fun σ H6 s6 h1 h2 h3 h5 hq => by
                refine ⟨_,h1,p,_,_,_,rfl,rfl,SqL.of (s6 _ _ p5),atI_nat (j := 1) rfl,_,h2,_,h3,_,_,rfl,rfl,_,rfl,rl,_,rfl,SqL.of (s6 _ _ r5),fun c hc => ?_⟩
                have t7 : Same H6 (upd H6 c (.lst (cutV (rest.map V.str) (some ((a : Int) + 1)) none))) := same_of hc
                have e7 : (upd H6 c (.lst (cutV (rest.map V.str) (some ((a : Int) + 1)) none))) c = some (.lst ((rest.drop (a + 1)).map V.str)) := by
                  rw [upd_same,show (some ((a : Int) + 1)) = some ((a + 1 : Nat) : Int) from rfl,cut_from,List.map_drop]
                generalize upd H6 c (.lst (cutV (rest.map V.str) (some ((a : Int) + 1)) none)) = H7 at t7 e7
                refine ⟨_,h5,by show 3 ≤ sizeLine; decide,fun t ht => ?_⟩
                have t8 := same_of (o := .tup [.str nm,.ref c,.ref nl]) ht
                exact qs nm _ ns hq t c nl _ ((((s13.trans s5).trans s6).trans t7).trans t8) upd_same (t8 _ _ e7) (t8 _ _ (t7 _ _ (s6 _ _ n5)))
              refine ⟨_,rfl,_,rfl,rl,_,rfl,.inl (SqL.of r5),_,_,rfl,rfl,_,rfl, ?_⟩
              rw [List.length_map]
              by_cases hlt : a < rest.length
              · rw [if_pos hlt] at jq
                refine ite_of (d := true) (decide_eq_true (by omega)) (fun _ => ?_) (fun h => by cases h)
                refine ⟨_,rfl,p,_,_,_,rfl,rfl,SqL.of p5,atI_nat (j := 1) rfl,_,rfl,_,rfl,_,_,rfl,rfl,_,rfl,rl,_,rfl,SqL.of r5,fun c hc => ?_⟩
                have t7 : Same H5 (upd H5 c (.lst (cutV (rest.map V.str) (some ((a : Int) + 1)) none))) := same_of hc
                have e7 : (upd H5 c (.lst (cutV (rest.map V.str) (some ((a : Int) + 1)) none))) c = some (.lst ((rest.drop (a + 1)).map V.str)) := by
                  rw [upd_same,show (some ((a : Int) + 1)) = some ((a + 1 : Nat) : Int) from rfl,cut_from,List.map_drop]
                generalize upd H5 c (.lst (cutV (rest.map V.str) (some ((a : Int) + 1)) none)) = H6 at t7 e7
                refine ⟨nm,c,rest.drop (a + 1),rfl,e7,shd,ld,fun H7 s7 => ⟨_,rfl, ?_⟩⟩
                have s57 := t7.trans s7
                revert jq fin
                generalize rest.drop (a + 1) = ks
                intro jq fin
                cases ks with
                | nil =>
                  refine ite_of (d := true) (by simp) (fun _ => qn jq _ ((s13.trans s5).trans s57)) (fun h => by cases h)
                | cons k ks =>
                  dsimp only at jq
                  cases ho : okNeeds nm ((k :: ks).map V.str) with
                  | false =>
                    rw [ho] at jq
                    exact iteT (qn jq _ ((s13.trans s5).trans s57))
                  | true =>
                    rw [ho] at jq
                    refine ite_of (d := false) (by simp) (fun h => by cases h) (fun _ => next_to ?_)
                    dsimp only
                    exact fin _ _ s57 rfl rfl rfl rfl jq
              · rw [if_neg hlt] at jq
                refine ite_of (d := false) (decide_eq_false (by omega)) (fun h => by cases h) (fun _ => iteF (next_to ?_))
                dsimp only
                have hd : rest.drop (a + 1) = [] := List.drop_eq_nil_of_le (by omega)
                refine fin _ _ (Same.refl _) rfl rfl rfl rfl ?_
                dsimp only at jq
                rw [hd,jq,if_pos (okNeeds_of (by decide) (fun k hk => by cases hk) (fun hk => by cases hk) List.nodup_nil)]
      · refine ite_of (d := true) (by rw [decide_eq_false (fun h => hj (by injection h))]; rfl) (fun _ => iteT (qn ?_ _ s1)) (fun h => by cases h)
        rw [jq,if_neg fun h => hj h.1]
end
end K03
namespace K03
open PySem L2 PyProof.Rows WM
def Tidy (y : Str) : Prop := ∀ c ∈ y.cps.toList,c ≠ 9 ∧ c ≠ 10
theorem let_tidy : ∀ c ∈ LET.cps.toList,c ≠ 9 ∧ c ≠ 10 := by decide +kernel
theorem fig_tidy : ∀ c ∈ FIG.cps.toList,c ≠ 9 ∧ c ≠ 10 := by decide +kernel
theorem made_tidy {g : Str} {n : Int} {y : Str} (hg : ∀ c ∈ g.cps.toList,c ≠ 9 ∧ c ≠ 10) (h : madeOf g n (.str y) = true) : Tidy y := fun c hc => by
  unfold madeOf at h
  rw [Bool.and_eq_true] at h
  exact hg c (of_decide_eq_true (List.all_eq_true.mp h.2 c hc))
theorem num_tidy {y : Str} (h : 0 ≤ numI y) : Tidy y := by
  by_cases hm : madeOf FIG 10 (.str y) = true
  · exact made_tidy fig_tidy hm
  · have e : numOf (.str y) = .non := by
      show (if madeOf FIG 10 (.str y) = true then _ else V.non) = .non
      rw [if_neg hm]
    have : numI y = -1 := by
      unfold numI
      rw [e]
    omega
theorem tidy_of {y : Str} (h : decide (∀ c ∈ y.cps.toList,c ≠ 9 ∧ c ≠ 10) = true) : Tidy y := of_decide_eq_true (p := ∀ c ∈ y.cps.toList,c ≠ 9 ∧ c ≠ 10) h
theorem prog_tidy : ∀ (ps : List (Str × Int × Int)) (r : List Str) (ns : List Int) (ks : List Str),(∀ p ∈ ps,0 ≤ p.2.1 ∧ Tidy p.1) → progR ps r = some (ns,ks) → (∀ k ∈ ks,Tidy k) → ∀ y ∈ r,Tidy y
  | [],r,ns,ks,_,h,hk => by
    have e2 : progR [] r = (needsIn r).map fun ks => ([],ks) := by cases r <;> rfl
    rw [e2] at h
    cases r with
    | nil => intro y hy; cases hy
    | cons x r =>
      unfold needsIn at h
      dsimp only at h
      split at h
      · rename_i hx
        cases h
        intro y hy
        rcases List.mem_cons.mp hy with rfl | hy
        · rw [hx.1]; exact tidy_of (by decide +kernel)
        · exact hk y hy
      · cases h
  | p :: ps,[],ns,ks,_,_,_ => fun y hy => by cases hy
  | p :: ps,x :: r,ns,ks,hp,h,hk => by
    obtain ⟨p1,p2⟩ := hp p (by simp)
    have hp' : ∀ q ∈ ps,0 ≤ q.2.1 ∧ Tidy q.1 := fun q hq => hp q (by simp [hq])
    rw [pR_eq] at h
    split at h
    · rename_i hx
      cases r with
      | nil => cases h
      | cons n r =>
        dsimp only at h
        split at h
        · rename_i hn
          cases e : progR ps r with
          | none => rw [e] at h; cases h
          | some y =>
            rw [e] at h
            cases h
            have ih := prog_tidy ps r y.1 y.2 hp' e hk
            intro z hz
            rcases List.mem_cons.mp hz with rfl | hz
            · rw [hx]; exact p2
            · rcases List.mem_cons.mp hz with rfl | hz
              · exact num_tidy (by omega)
              · exact ih z hz
        · cases h
    · cases e : progR ps (x :: r) with
      | none => rw [e] at h; cases h
      | some y => rw [e] at h; cases h; exact prog_tidy ps (x :: r) y.1 y.2 hp' e hk
theorem splitC_mem (b : Nat) : ∀ (l : List Nat) (c : Nat),c ∈ l → c = b ∨ ∃ p ∈ splitC b l,c ∈ p
  | [],c,h => by cases h
  | d :: r,c,h => by
    have ih := splitC_mem b r
    have hne := splitC_ne b r
    have e : splitC b (d :: r) = if d = b then [] :: splitC b r else match splitC b r with | [] => [[d]] | q :: qs => (d :: q) :: qs := rfl
    rw [e]
    by_cases hd : d = b
    · rw [if_pos hd]
      rcases List.mem_cons.mp h with rfl | h
      · exact .inl hd
      · rcases ih c h with h | ⟨p,hp,hc⟩
        · exact .inl h
        · exact .inr ⟨p,by simp [hp],hc⟩
    · rw [if_neg hd]
      cases hS : splitC b r with
      | nil => exact absurd hS hne
      | cons q qs =>
        rw [hS] at ih
        rcases List.mem_cons.mp h with rfl | h
        · exact .inr ⟨c :: q,by simp,by simp⟩
        · rcases ih c h with h | ⟨p,hp,hc⟩
          · exact .inl h
          · rcases List.mem_cons.mp hp with rfl | hp
            · exact .inr ⟨d :: p,by simp,by simp [hc]⟩
            · exact .inr ⟨p,by simp [hp],hc⟩
theorem pw_tidy : ∀ p ∈ pw,0 ≤ p.2.1 ∧ Tidy p.1 := fun p hp => by
  refine ⟨(pw_ok p hp).1, ?_⟩
  simp only [pw,List.mem_cons,List.not_mem_nil,or_false] at hp
  rcases hp with rfl | rfl | rfl | rfl | rfl <;> exact tidy_of (by decide +kernel)
theorem jobOf_tidy {z : Str} {r : Str × List Str × List Int} (h : jobOf z = some r) : Tidy z := by
  cases hw : wordsOf (.str z) with
  | none => unfold jobOf at h; rw [hw] at h; cases h
  | some ws =>
    have hwz : ws = partsOf z := by
      unfold wordsOf at hw
      dsimp only at hw
      split at hw
      · cases hw
      · cases hw; rfl
    match ws,hw,hwz with
    | [],hw,_ => unfold jobOf at h; rw [hw] at h; cases h
    | [a],hw,_ => unfold jobOf at h; rw [hw] at h; cases h
    | j :: nm :: rest,hw,hwz =>
      rw [jobOf_eq hw] at h
      split at h
      · rename_i hj
        cases hp : progR pw rest with
        | none => rw [hp] at h; cases h
        | some y =>
          rw [hp] at h
          dsimp only at h
          split at h
          · rename_i ho
            have kn := (okNeeds_to ho).2.1
            have hr := prog_tidy pw rest y.1 y.2 pw_tidy hp fun k hk => made_tidy let_tidy (kn k hk)
            have all : ∀ q ∈ partsOf z,Tidy q := fun q hq => by
              rw [← hwz] at hq
              rcases List.mem_cons.mp hq with rfl | hq
              · rw [hj.1]; exact tidy_of (by decide +kernel)
              · rcases List.mem_cons.mp hq with rfl | hq
                · exact made_tidy let_tidy hj.2
                · exact hr q hq
            intro c hc
            rcases splitC_mem 32 _ c hc with rfl | ⟨p,hp2,hcp⟩
            · decide
            · exact all ⟨p.toArray⟩ (List.mem_map.mpr ⟨p,hp2,rfl⟩) c (by simpa using hcp)
          · cases h
      · cases h
theorem not_tidy {z : Str} (h : ¬ Tidy z) : jobOf z = none := by
  cases e : jobOf z with
  | none => rfl
  | some r => exact absurd (jobOf_tidy e) h
theorem splitC_two (b : Nat) (r : List Nat) : ∀ l : List Nat,[] ∈ (splitC b (l ++ b :: b :: r)).tail
  | [] => by
    have e : splitC b (b :: b :: r) = [] :: splitC b (b :: r) := if_pos rfl
    have e2 : splitC b (b :: r) = [] :: splitC b r := if_pos rfl
    rw [List.nil_append,e,e2]
    simp
  | d :: l => by
    have ih := splitC_two b r l
    have hne := splitC_ne b (l ++ b :: b :: r)
    have e : splitC b (d :: (l ++ b :: b :: r)) = if d = b then [] :: splitC b (l ++ b :: b :: r) else match splitC b (l ++ b :: b :: r) with | [] => [[d]] | q :: qs => (d :: q) :: qs := rfl
    rw [List.cons_append,e]
    by_cases hd : d = b
    · rw [if_pos hd]
      exact List.mem_of_mem_tail ih
    · rw [if_neg hd]
      cases hS : splitC b (l ++ b :: b :: r) with
      | nil => exact absurd hS hne
      | cons q qs => rw [hS] at ih; exact ih
theorem two_blanks (A B : Str) : jobOf (A ++ "  " ++ B) = none := by
  have e : emptyIn (partsOf (A ++ "  " ++ B)) = true := by
    unfold emptyIn partsOf
    rw [List.any_eq_true]
    refine ⟨"",List.mem_map.mpr ⟨[], ?_,str_ext (by decide +kernel)⟩,by simp⟩
    rw [app_list,app_list,show ("  " : Str).cps.toList = [32,32] from by decide +kernel,List.append_assoc]
    exact List.mem_of_mem_tail (splitC_two 32 B.cps.toList A.cps.toList)
  have hw : wordsOf (.str (A ++ "  " ++ B)) = none := by
    unfold wordsOf
    dsimp only
    rw [e]
    rfl
  unfold jobOf
  rw [hw]
abbrev gaps : List Str := ["  ","\t"," \n","\n"," \t "]
theorem gap_none {g A B : Str} (h : g ∈ gaps) : jobOf (A ++ g ++ B) = none := by
  have bad : (∃ c ∈ g.cps.toList,c = 9 ∨ c = 10) → jobOf (A ++ g ++ B) = none := fun ⟨c,hc,h9⟩ => not_tidy fun t => by
    have := t c (by rw [app_list,app_list]; simp [hc])
    omega
  simp only [gaps,List.mem_cons,List.not_mem_nil,or_false] at h
  rcases h with rfl | rfl | rfl | rfl | rfl
  · exact two_blanks A B
  · exact bad (by decide +kernel)
  · exact bad (by decide +kernel)
  · exact bad (by decide +kernel)
  · exact bad (by decide +kernel)
theorem gap_le : gaps.all (fun g => decide (g.length ≤ 3)) = true := by decide +kernel
theorem DueAt.of {H : Hp} {t kl nl : Addr} {nm : Str} {ks : List Str} {a b c d e : Int} (h1 : H t = some (.tup [.str nm,.ref kl,.ref nl])) (h2 : H kl = some (.lst (ks.map V.str))) (h3 : H nl = some (.lst (([a,b,c,d,e] : List Int).map V.int))) : DueAt H t kl nl ⟨nm,ks,a,b,c,d,e⟩ := ⟨h1,h2,h3⟩
section
variable {P : Program} {w : World} {K : PySem.W.Frag} {mg : Str → Option Value} {base : Heap} {C CB : Addr}
def spReads : Sp := fun vs H Q _ => ∃ z : Str,vs = [.str z] ∧ z.length ≤ 900 ∧ ∀ H',Same H H' → Q (.bl true) H'
theorem ok_reads (Df : Def K mg "_law_reads" s__law_reads ["_law_line"]) (J : JCls K mg C) (k__law_read : Knows P w K mg base 3 "_law_read" ["_law_line"] spRead) (k__law_refused : Knows P w K mg base 9 "_law_refused" ["_law_line"] (spRefused K))
    (k_job_of : KnowsX P w K mg base 8 "job_of" ["line"] (spJobOf K C CB)) (k__law_is : Knows P w K mg base 1 "_law_is" ["_law_job","_law_due"] (spIs C)) : Knows P w K mg base 10 "_law_reads" ["_law_line"] spReads := by
  refine Df.ok sc__law_reads (fun vs H Q E h => ?_) (fun f cdv A outer s H vs Q E hr h => ?_)
  · obtain ⟨z,rfl,_⟩ := h
    rfl
  · obtain ⟨z,rfl,z9,q⟩ := h
    refine ⟨_,by exact (pss_cons (ps_set (i := 1) sc__law_reads.nd rfl (Or.inl rfl) (pe_callM k__law_read hr (pa_c (pv 0) pa_nil)))
      (pss_cons (ps_if (pt_cmpR op_isN (pv 1) pe_non (nomark _)) (pss_one (ps_ret (pe_and (pe_callM k__law_refused hr (pa_c (pv 0) pa_nil)) (pe_one (pe_callM k__law_refused hr (pa_c (pv 0) pa_nil)))))) pss_nil)
      (pss_cons (ps_set (i := 2) sc__law_reads.nd rfl (Or.inl rfl) (pe_callX k_job_of hr pass1N (pa_c (pv 0) pa_nil)))
      (pss_cons (ps_if (pt_not (pt_val (pe_callM k__law_is hr (pa_c (pv 2) (pa_c (pv 1) pa_nil))))) (pss_one (ps_ret pe_bl)) pss_nil)
      (pss_cons (ps_expr (pe_mcall PySem.F.plainAttrs_list PySem.F.slot_list_append PySem.F.type_list_append mt_append (pe_fld (pv 2) rfl) (pa_c pe_str pa_nil)))
      (pss_one (ps_ret (pe_callM k__law_is hr (pa_c (pe_callX k_job_of hr pass1N (pa_c (pv 0) pa_nil)) (pa_c (pv 1) pa_nil)))))))))), ?_⟩
    have az : ∀ H',Any K H' (.str z) := fun _ => Any.str (Nat.le_trans z9 (by decide))
    have sz : ∀ y,V.str z = .str y → y.length ≤ 900 := fun y h => by cases h; exact z9
    cases hj : jobOf z with
    | none =>
      refine seq_use (fun v H' => v = .non ∧ Same H H') (fun Q' kk => ⟨_,rfl,z,rfl,z9,fun _ H' s' => kk _ _ ⟨rfl,s'⟩,fun nm ks ns h => by rw [hj] at h; cases h⟩) ?_
      rintro _ H1 ⟨rfl,s1⟩
      refine ⟨_,rfl,rfl,_,rfl,iteT ?_⟩
      have hn : ∀ y,V.str z = .str y → jobOf y = none := fun y h => by cases h; exact hj
      exact ⟨_,rfl,.str z,rfl,az _,sz,hn,fun H2 s2 => ⟨_,rfl,iteT ⟨_,rfl,.str z,rfl,az _,sz,hn,fun H3 s3 => q H3 ((s1.trans s2).trans s3)⟩⟩⟩
    | some r =>
      obtain ⟨nm,ks,ns⟩ := r
      have h5 := jobOf_len hj
      match ns,h5,hj with
      | [a,b,c,d,e],_,hj =>
        have some_only : ∀ {E' : XK} {H' : Hp},(∀ y,V.str z = .str y → jobOf y = none) → EB E' CB H' := fun h => by
          have := h z rfl
          rw [hj] at this
          cases this
        refine seq_use (fun v H' => ∃ t kl nl,v = .ref t ∧ DueAt H' t kl nl ⟨nm,ks,a,b,c,d,e⟩ ∧ Same H H') (fun Q' kk => ⟨_,rfl,z,rfl,z9,fun h => (by rw [hj] at h; cases h),fun nm' ks' ns' h t kl nl H' s' h1 h2 h3 => ?_⟩) ?_
        · rw [hj] at h
          cases h
          exact kk _ _ ⟨t,kl,nl,rfl,.of h1 h2 h3,s'⟩
        rintro _ H1 ⟨t,kl,nl,rfl,du,s1⟩
        refine ⟨_,rfl,rfl,_,rfl, ?_⟩
        refine ite_of (d := false) (decide_eq_false fun h => by cases h) (fun h => by cases h) (fun _ => next_to ?_)
        dsimp only
        refine seq_use (fun v H' => ∃ p l,v = .ref p ∧ H1 p = none ∧ H1 l = none ∧ JobL C H' p l ⟨nm,ks,a,b,c,d,e⟩ ∧ Same H1 H') (fun Q' kk => ⟨_,rfl,.str z,rfl,az _,sz,fun z' nm' ks' a' b' c' d' e' h1 h2 p l H' hp hl s' j => ?_,some_only⟩) ?_
        · cases h1
          rw [hj] at h2
          cases h2
          exact kk _ _ ⟨p,l,rfl,hp,hl,j,s'⟩
        rintro _ H2 ⟨p,l,rfl,hp0,hl0,jl,s2⟩
        refine ⟨_,rfl,_,rfl,p,l,t,kl,nl,_,rfl,jl,du.same s2,fun H3 s3 => ⟨_,rfl,iteF (next_to ?_)⟩⟩
        dsimp only
        obtain ⟨⟨dx,hp3⟩,hl3⟩ := jl.same s3
        have kl8 : ks.length ≤ 8 := by
          have := (okNeeds_to (nm := nm) (ks := ks) ?_).1
          · exact this
          · unfold jobOf at hj
            split at hj
            · split at hj
              · split at hj
                · split at hj
                  · cases hj; assumption
                  · cases hj
                · cases hj
              · cases hj
            · cases hj
        refine ⟨_,rfl,p,C,dx,_,_,rfl,hp3,J.cl,J.n2,rfl,.inl ⟨rfl,_,SqL.of hl3⟩,l,_,_,rfl,rfl,hl3,by rw [List.length_map]; exact Nat.lt_of_le_of_lt kl8 (by decide), ?_⟩
        have s13 := s2.trans s3
        have s4 : Same H1 (upd H3 l (.lst ((ks.map V.str) ++ [.str "more"]))) := Same.upd s13 hl0
        generalize upd H3 l (.lst ((ks.map V.str) ++ [.str "more"])) = H4 at s4
        refine ⟨_,rfl,.str z,rfl,az _,sz,fun z' nm' ks' a' b' c' d' e' h1 h2 p2 l2 H5 hp2 hl2 s5 j2 => ?_,some_only⟩
        cases h1
        rw [hj] at h2
        cases h2
        have s15 := s4.trans s5
        exact ⟨_,rfl,p2,l2,t,kl,nl,_,rfl,j2,du.same s15,fun H6 s6 => q H6 ((s1.trans s15).trans s6)⟩
end
end K03
namespace K03
open PySem L2 PyProof.Rows WM
theorem not_made {z : Str} (h : isName z = true) {p : Prop} (e : madeOf LET 12 (.str z) = false) : p := by
  rw [show madeOf LET 12 (.str z) = true from h] at e
  cases e
structure LS (K : PySem.W.Frag) (C : Addr) (H : Hp) (a nml rl t tl p l : Addr) (ns : List Int) (j : Jb) : Prop where
  sc : SqL K H a (ns.map V.int)
  nm : H nml = some (.lst ((j.name :: j.needs).map V.str))
  rr : H rl = some (.lst ((jn5 j).map V.int))
  du : DueAt H t tl rl j
  jb : JobL C H p l j
theorem LS.same {K : PySem.W.Frag} {C : Addr} {H H' : Hp} {a nml rl t tl p l : Addr} {ns : List Int} {j : Jb} (h : LS K C H a nml rl t tl p l ns j) (s : Same H H') : LS K C H' a nml rl t tl p l ns j := ⟨s.seq h.sc,s _ _ h.nm,s _ _ h.rr,h.du.same s,h.jb.same s⟩
theorem okNums_of {a b c d e : Int} (h : okN pw [a,b,c,d,e]) : okNums [.int a,.int b,.int c,.int d,.int e] := by
  simp only [okN,pw,and_true] at h
  obtain ⟨h1,h2,h3,h4,h5,h6,h7,h8,h9,h10⟩ := h
  have am : ∀ {n lo hi : Int},lo ≤ n → n ≤ hi → amongV (.int n) lo hi = true := fun h1 h2 => by
    show (decide _ && decide _) = true
    rw [decide_eq_true h1,decide_eq_true h2]
    rfl
  intro i w lo hi y hp hy
  match i,hp,hy with
  | 0,hp,hy => cases hp; cases hy; exact am h1 h2
  | 1,hp,hy => cases hp; cases hy; exact am h3 h4
  | 2,hp,hy => cases hp; cases hy; exact am h5 h6
  | 3,hp,hy => cases hp; cases hy; exact am h7 h8
  | 4,hp,hy => cases hp; cases hy; exact am h9 h10
  | i + 5,hp,hy => cases hy
theorem bare_read {nm : Str} {ks : List Str} {ns : List Int} (g : GdJ nm ks ns) : GdJ nm [] ns := ⟨g.nam,by decide,fun k hk => (by cases hk),fun hk => (by cases hk),List.nodup_nil,g.okn⟩
section
variable {P : Program} {w : World} {K : PySem.W.Frag} {mg : Str → Option Value} {base : Heap} {C CB : Addr} {D : Nat → Addr}
theorem mk_good {H : Hp} {x dx : Addr} {z : Str} {nd : V} {ks : List Str} {a b c d e : Int} {R : Hp → Prop} {E : XK} (hx : H x = none) (hdx : H dx = none) (hne : dx ≠ x) (zn : isName z = true) (hn : Nd K H z nd (some ks)) (ok : okNums [.int a,.int b,.int c,.int d,.int e])
    (k : ∀ l H',H l = none → Same H H' → JobL C H' x l ⟨z,ks,a,b,c,d,e⟩ → R H') : spJob K C D [.ref x,.str z,nd,.int a,.int b,.int c,.int d,.int e] (upd (upd H dx (.own x)) x (.ins C dx [])) (fun v H3 => v = .non ∧ R H3) E := by
  have sy : Same H (upd (upd H dx (.own x)) x (.ins C dx [])) := fun b o e => by
    rw [upd_ne (ne_of_none e hx),upd_ne (ne_of_none e hdx)]
    exact e
  refine ⟨x,dx,.str z,nd,.int a,.int b,.int c,.int d,.int e,rfl,upd_same,Any.str (Nat.le_trans (name_len zn).2 (by decide)),fun y hy => ?_,fun h => not_made zn h,fun _ => ⟨z,some ks,rfl,hn.same sy,fun h => (by cases h),fun ks' e => ?_⟩⟩
  · simp only [List.mem_cons,List.not_mem_nil,or_false] at hy
    rcases hy with rfl | rfl | rfl | rfl | rfl <;> exact Any.int
  · cases e
    refine ⟨fun n => absurd ok n,fun a' b' c' d' e' e1 e2 e3 e4 e5 _ l H' hl j ch => ⟨rfl, ?_⟩⟩
    cases e1; cases e2; cases e3; cases e4; cases e5
    exact k l H' (same_none sy hl) (made_same hx hdx ch) j
theorem JJ {H : Hp} {p l : Addr} {ln z nm : Str} {ks : List Str} {a b c d e : Int} {j : Jb} (hj : jobOf ln = some (j.name,j.needs,jn5 j)) (h1 : V.str ln = .str z) (h2 : jobOf z = some (nm,ks,[a,b,c,d,e])) (h : JobL C H p l ⟨nm,ks,a,b,c,d,e⟩) : JobL C H p l j := by
  cases h1
  rw [hj] at h2
  cases h2
  exact h
theorem JN {ln : Str} {r : Str × List Str × List Int} {X : Prop} (hj : jobOf ln = some r) (h : ∀ z,V.str ln = .str z → jobOf z = none) : X := by
  have := h ln rfl
  rw [hj] at this
  cases this
theorem JL {ln : Str} (hl : ln.length ≤ 900) : ∀ z,V.str ln = .str z → z.length ≤ 900 := fun z h => by cases h; exact hl
theorem JA {H : Hp} {ln : Str} (hl : ln.length ≤ 900) : Any K H (.str ln) := Any.str (Nat.le_trans hl (by decide))
def spLaw (K : PySem.W.Frag) : Sp := fun vs H Q _ => ∃ (a : Addr) (ns : List Int),vs = [.ref a] ∧ SqL K H a (ns.map V.int) ∧ ∀ H',Q (.bl true) H'
theorem ok_law {f : Addr} {fd : FuncData} (F : Fun K "law" "law" s_law f fd) (B : Bj mg) (J : JCls K mg C) (kj : KnowsIB (CX1 P w base) P w K mg base 5 C jps (spJob K C D) JForms)
    (k__law_mixed : Knows P w K mg base 1 "_law_mixed" ["_law_script","_law_k"] (spMixed K)) (k__law_names : Knows P w K mg base 2 "_law_names" ["_law_script","_law_many"] (spNames K)) (k__law_numbers : Knows P w K mg base 2 "_law_numbers" ["_law_script"] (spNumbers K))
    (k__law_told : Knows P w K mg base 1 "_law_told" ["_law_name","_law_needs","_law_numbers_here","_law_mask"] spTold) (k__law_bent : Knows P w K mg base 3 "_law_bent" ["_law_script","_law_words"] (spBent K)) (k_job_line : Knows P w K mg base 2 "job_line" ["job"] (spJobLine C))
    (k_job_of : KnowsX P w K mg base 8 "job_of" ["line"] (spJobOf K C CB)) (k__law_is : Knows P w K mg base 1 "_law_is" ["_law_job","_law_due"] (spIs C)) (k__law_refused : Knows P w K mg base 9 "_law_refused" ["_law_line"] (spRefused K))
    (k__law_reads : Knows P w K mg base 10 "_law_reads" ["_law_line"] spReads) : FnOk P w K mg base CX0 11 f fd ["_law_script"] (spLaw K) := by
  refine F.ok sc_law (fun vs H Q E h => ?_) (fun cdv A outer s H vs Q E hr h => ?_)
  · obtain ⟨a,ns,rfl,_⟩ := h
    rfl
  · obtain ⟨a,ns,rfl,hS,q⟩ := h
    refine ⟨_,by exact (pss_cons (ps_set (i := 1) sc_law.nd rfl (Or.inl rfl) (pe_callM k__law_names hr (pa_c (pv 0) (pa_c (pe_op op_add pe_int (pe_op op_mod (pe_callM k__law_mixed hr (pa_c (pv 0) (pa_c pe_int pa_nil))) pe_int)) pa_nil))))
      (pss_cons (ps_set (i := 2) sc_law.nd rfl (Or.inl rfl) (pe_callM k__law_numbers hr (pa_c (pv 0) pa_nil)))
      (pss_cons (ps_set (i := 3) sc_law.nd rfl (Or.inl rfl) (pe_tup (pa_c (pe_ix ix_list (pv 1) pe_int (fun _ _ => rfl)) (pa_c (pe_slice sl_list (pv 1) (po_some pe_int) po_none) (pa_c (pv 2) pa_nil)))))
      (pss_cons (ps_asg (pe_slice sl_list (pv 2) po_none (po_some pe_int)) (pg_lst rfl (pgs_cons (pg_name (i := 4) sc_law.nd rfl (Or.inl rfl)) (pgs_cons (pg_name (i := 5) sc_law.nd rfl (Or.inl rfl)) (pgs_cons (pg_name (i := 6) sc_law.nd rfl (Or.inl rfl)) pgs_nil)))))
      (pss_cons (ps_set (i := 7) sc_law.nd rfl (Or.inl rfl) (pe_makeB kj (fun _ h => h.f7) hr J.mgC pass1N (pa_c (pe_ix ix_list (pv 1) pe_int (fun _ _ => rfl)) (pa_c (pe_slice sl_list (pv 1) (po_some pe_int) po_none) (pa_c (pv 4) (pa_c (pv 5) (pa_c (pv 6) (pa_c (pe_ix ix_list (pv 2) pe_int (fun _ _ => rfl)) (pa_c (pe_ix ix_list (pv 2) pe_int (fun _ _ => rfl)) pa_nil))))))) pk_nil))
      (pss_cons (ps_set (i := 8) sc_law.nd rfl (Or.inl rfl) (pe_callM k_job_line hr (pa_c (pv 7) pa_nil)))
      (pss_cons (ps_set (i := 9) sc_law.nd rfl (Or.inl rfl) (pe_callM k__law_told hr (pa_c (pe_ix ix_list (pv 1) pe_int (fun _ _ => rfl)) (pa_c (pe_slice sl_list (pv 1) (po_some pe_int) po_none) (pa_c (pv 2) (pa_c pe_int pa_nil))))))
      (pss_cons (ps_if (PW.pt (pw_or (pt_not (pt_val (pe_isiM B.b.isi B.b.str boot_str (pv 8)))) (pw_or1 (pt_cmpR op_ne (pv 8) (pe_mcall PySem.F.plainAttrs_str PySem.F.slot_str_join PySem.F.type_str_join mt_join pe_str (pa_c (pv 9) pa_nil)) (nomark _))))) (pss_one (ps_ret pe_bl)) pss_nil)
      (pss_cons (ps_set (i := 10) sc_law.nd rfl (Or.inl rfl) (pe_callM k__law_told hr (pa_c (pe_ix ix_list (pv 1) pe_int (fun _ _ => rfl)) (pa_c (pe_slice sl_list (pv 1) (po_some pe_int) po_none) (pa_c (pv 2) (pa_c (pe_op op_mod (pe_callM k__law_mixed hr (pa_c (pv 0) (pa_c pe_int pa_nil))) pe_int) pa_nil))))))
      (pss_cons (ps_set (i := 11) sc_law.nd rfl (Or.inl rfl) (pe_mcall PySem.F.plainAttrs_str PySem.F.slot_str_join PySem.F.type_str_join mt_join pe_str (pa_c (pv 10) pa_nil)))
      (pss_cons (ps_if (PW.pt (pw_or (pt_not (pt_val (pe_callM k__law_is hr (pa_c (pe_callX k_job_of hr pass1N (pa_c (pv 8) pa_nil)) (pa_c (pv 3) pa_nil))))) (pw_or1 (pt_not (pt_val (pe_callM k__law_is hr (pa_c (pe_callX k_job_of hr pass1N (pa_c (pv 11) pa_nil)) (pa_c (pv 3) pa_nil)))))))) (pss_one (ps_ret pe_bl)) pss_nil)
      (pss_cons (ps_if (pt_cmpR op_ne (pe_callM k_job_line hr (pa_c (pe_callX k_job_of hr pass1N (pa_c (pv 11) pa_nil)) pa_nil)) (pv 8) (nomark _)) (pss_one (ps_ret pe_bl)) pss_nil)
      (pss_cons (ps_set (i := 12) sc_law.nd rfl (Or.inl rfl) (pe_ix ix_list (pe_lst (pa_c pe_non (pa_c pe_int (pa_c pe_bl (pa_c (pe_lst (pa_c pe_str pa_nil)) (pa_c (pe_tup (pa_c pe_str (pa_c pe_str pa_nil))) (pa_c pe_dnewK pa_nil))))))) (pe_op op_mod (pe_callM k__law_mixed hr (pa_c (pv 0) (pa_c pe_int pa_nil))) pe_int) (fun _ _ => rfl)))
      (pss_cons (ps_if (PW.pt (pw_or (pt_not (pt_val (pe_callM k__law_refused hr (pa_c (pv 12) pa_nil)))) (pw_or1 (pt_not (pt_val (pe_callM k__law_reads hr (pa_c (pe_callM k__law_bent hr (pa_c (pv 0) (pa_c (pv 10) pa_nil))) pa_nil))))))) (pss_one (ps_ret pe_bl)) pss_nil)
      (pss_cons (ps_set (i := 13) sc_law.nd rfl (Or.inl rfl) (pe_op op_mod (pe_callM k__law_mixed hr (pa_c (pv 0) (pa_c pe_int pa_nil))) (pe_op op_add (pe_bcall call_len_seq rfl B.b.len PySem.boot_len (pa_c (pv 10) pa_nil)) pe_int)))
      (pss_cons (ps_set (i := 14) sc_law.nd rfl (Or.inl rfl) (pe_ix ix_list (pe_lst (pa_c pe_str (pa_c pe_str (pa_c pe_str (pa_c pe_str (pa_c pe_str pa_nil)))))) (pe_op op_mod (pe_callM k__law_mixed hr (pa_c (pv 0) (pa_c pe_int pa_nil))) pe_int) (fun _ _ => rfl)))
      (pss_cons (ps_if (pt_not (pt_val (pe_callM k__law_refused hr (pa_c (pe_op op_add_str (pe_op op_add_str (pe_mcall PySem.F.plainAttrs_str PySem.F.slot_str_join PySem.F.type_str_join mt_join pe_str (pa_c (pe_slice sl_list (pv 10) po_none (po_some (pv 13))) pa_nil)) (pv 14)) (pe_mcall PySem.F.plainAttrs_str PySem.F.slot_str_join PySem.F.type_str_join mt_join pe_str (pa_c (pe_slice sl_list (pv 10) (po_some (pv 13)) po_none) pa_nil))) pa_nil)))) (pss_one (ps_ret pe_bl)) pss_nil)
      (pss_cons (ps_set (i := 15) sc_law.nd rfl (Or.inl rfl) (pe_callM k__law_told hr (pa_c (pe_ix ix_list (pv 1) pe_int (fun _ _ => rfl)) (pa_c (pe_lst pa_nil) (pa_c (pv 2) (pa_c (pe_op op_mod (pe_callM k__law_mixed hr (pa_c (pv 0) (pa_c pe_int pa_nil))) pe_int) pa_nil))))))
      (pss_cons (ps_if (PW.pt (pw_or (pt_not (pt_val (pe_callM k__law_reads hr (pa_c (pe_mcall PySem.F.plainAttrs_str PySem.F.slot_str_join PySem.F.type_str_join mt_join pe_str (pa_c (pe_op op_cat (pv 15) (pe_lst (pa_c pe_str pa_nil))) pa_nil)) pa_nil)))) (pw_or1 (pt_not (pt_val (pe_callM k__law_reads hr (pa_c (pe_mcall PySem.F.plainAttrs_str PySem.F.slot_str_join PySem.F.type_str_join mt_join pe_str (pa_c (pv 15) pa_nil)) pa_nil))))))) (pss_one (ps_ret pe_bl)) pss_nil)
      (pss_one (ps_ret (pe_and (pe_callM k__law_reads hr (pa_c (pv 11) pa_nil)) (pe_one (pe_callM k__law_is hr (pa_c (pv 7) (pa_c (pv 3) pa_nil)))))))))))))))))))))))))), ?_⟩
    refine seq_use (fun v H' => ∃ (l : Addr) (z : Str) (gs : List Str),v = .ref l ∧ H' l = some (.lst ((z :: gs).map V.str)) ∧ (z :: gs).length ≤ 9 ∧ (z :: gs).Nodup ∧ (∀ k ∈ z :: gs,isName k = true) ∧ Same H H') (fun Q' kk => ?_) ?_
    · refine ⟨_,rfl,_,rfl,a,ns,6,rfl,hS,by decide,by decide,fun m H1 hm s1 => ⟨_,_,rfl,rfl,by walk_at "m",_,_,rfl,rfl, ?_⟩⟩
      refine ⟨a,ns,(1 + m % 9).toNat, ?_,s1.seq hS,by omega,fun ks l H2 s2 e2 hl nd hn => ?_⟩
      · rw [Int.toNat_of_nonneg (by omega)]
        rfl
      · match ks,hl with
        | [],hl => exact absurd hl (by show ¬ 0 = _; omega)
        | z :: gs,hl =>
          have hl' : gs.length + 1 = (1 + m % 9).toNat := hl
          exact kk _ _ ⟨l,z,gs,rfl,e2,by show gs.length + 1 ≤ 9; omega,nd,hn,s1.trans s2⟩
    rintro _ H1 ⟨nml,z,gs,rfl,e1,l9,nd,hn,s1⟩
    refine seq_use (fun v H' => ∃ (l : Addr) (ms : List Int),v = .ref l ∧ H' l = some (.lst (ms.map V.int)) ∧ okN pw ms ∧ Same H1 H') (fun Q' kk => ⟨_,rfl,a,ns,rfl,s1.seq hS,fun ms l H' s' e' ok => kk _ _ ⟨l,ms,rfl,e',ok,s'⟩⟩) ?_
    rintro _ H2 ⟨rl,ms,rfl,e2,okm,s2⟩
    have e1' := s2 _ _ e1
    rw [List.nodup_cons] at nd
    have g : GdJ z gs ms := ⟨hn z (by simp),by have : gs.length + 1 ≤ 9 := l9; omega,fun k hk => hn k (by simp [hk]),nd.1,nd.2,okm⟩
    obtain ⟨na,nb,nc,nd',ne,rfl,_⟩ := okN5 okm
    have cut1 : cutV ((z :: gs).map V.str) (some 1) none = gs.map V.str := by
      rw [show (some (1 : Int)) = some ((1 : Nat) : Int) from rfl,cut_from]
      rfl
    refine seq_use (fun v H' => ∃ t tl,v = .ref t ∧ DueAt H' t tl rl ⟨z,gs,na,nb,nc,nd',ne⟩ ∧ Same H2 H') (fun Q' kk => ?_) ?_
    · refine ⟨_,rfl,nml,_,_,_,rfl,rfl,SqL.of e1',atI_nat (j := 0) rfl,_,rfl,_,rfl,nml,_,rfl,SqL.of e1',fun c hc => ?_⟩
      rw [cut1]
      have t3 : Same H2 (upd H2 c (.lst (gs.map V.str))) := same_of hc
      have e3 : (upd H2 c (.lst (gs.map V.str))) c = some (.lst (gs.map V.str)) := upd_same
      generalize upd H2 c (.lst (gs.map V.str)) = H3 at t3 e3
      refine ⟨_,rfl,by show 3 ≤ sizeLine; decide,fun t ht => ?_⟩
      have t4 := same_of (o := .tup [.str z,.ref c,.ref rl]) ht
      exact kk _ _ ⟨t,c,rfl,⟨upd_same,t4 _ _ e3,t4 _ _ (t3 _ _ e2)⟩,t3.trans t4⟩
    rintro _ H3 ⟨t,tl,rfl,du,s3⟩
    have r3 := s3 _ _ e2
    have n3 := s3 _ _ e1'
    dsimp only
    refine ⟨_,rfl,_,rfl,rl,_,rfl,SqL.of r3,fun b hb => ?_⟩
    have sb : Same H3 (upd H3 b (.lst (cutV (([na,nb,nc,nd',ne] : List Int).map V.int) none (some 3)))) := same_of hb
    have eb : (upd H3 b (.lst (cutV (([na,nb,nc,nd',ne] : List Int).map V.int) none (some 3)))) b = some (.lst [.int na,.int nb,.int nc]) := by rw [upd_same]; rfl
    generalize upd H3 b (.lst (cutV (([na,nb,nc,nd',ne] : List Int).map V.int) none (some 3))) = H4 at sb eb
    refine ⟨b,_,rfl,SqL.of eb,rfl,_,_,rfl,_,_,rfl,_,_,rfl,rfl, ?_⟩
    have r4 := sb _ _ r3
    have n4 := sb _ _ n3
    have du4 := du.same sb
    have s4 := ((s1.trans s2).trans s3).trans sb
    dsimp only
    refine seq_use (fun v H' => ∃ p l,v = .ref p ∧ JobL C H' p l ⟨z,gs,na,nb,nc,nd',ne⟩ ∧ Same H4 H') (fun Q' kk => ?_) ?_
    · refine ⟨_,rfl,nml,_,_,_,rfl,rfl,SqL.of n4,atI_nat (j := 0) rfl,_,rfl,_,rfl,nml,_,rfl,SqL.of n4,fun c hc => ?_⟩
      rw [cut1]
      have t5 : Same H4 (upd H4 c (.lst (gs.map V.str))) := same_of hc
      have e5 : (upd H4 c (.lst (gs.map V.str))) c = some (.lst (gs.map V.str)) := upd_same
      generalize upd H4 c (.lst (gs.map V.str)) = H5 at t5 e5
      have r5 := t5 _ _ r4
      refine ⟨_,rfl,_,rfl,_,rfl,_,rfl,rl,_,_,_,rfl,rfl,SqL.of r5,atI_nat (j := 3) rfl,_,rfl,rl,_,_,_,rfl,rfl,SqL.of r5,atI_nat (j := 4) rfl,rfl,rfl,fun x dx hx hdx hne => ?_⟩
      refine mk_good (R := fun H3 => Q' (.ref x) H3) hx hdx hne g.nam (.good (.inl e5) (by have := g.ks8; omega) g.needs fun k hk => Nat.le_trans (name_len (g.kn k hk)).2 (by decide)) (okNums_of okm) fun l H' hl s' jl => ?_
      exact kk _ _ ⟨x,l,rfl,jl,t5.trans s'⟩
    rintro _ H5 ⟨p,l,rfl,jl,s5⟩
    have L5 : LS K C H5 a nml rl t tl p l ns ⟨z,gs,na,nb,nc,nd',ne⟩ := ⟨(s4.trans s5).seq hS,s5 _ _ n4,s5 _ _ r4,du4.same s5,jl⟩
    clear jl n4 r4 du4 s5 eb sb du n3 r3 s3 e1' e2 s2 e1 s1 s4 hS
    have hnm : z = (⟨z,gs,na,nb,nc,nd',ne⟩ : Jb).name := rfl
    generalize hjb : (⟨z,gs,na,nb,nc,nd',ne⟩ : Jb) = j at L5
    obtain ⟨rfl,rfl,rfl,rfl,rfl,rfl,rfl⟩ : j.name = z ∧ j.needs = gs ∧ j.rank = na ∧ j.span = nb ∧ j.tries = nc ∧ j.wait = nd' ∧ j.grow = ne := by rw [← hjb]; exact ⟨rfl,rfl,rfl,rfl,rfl,rfl,rfl⟩
    have G : GdJ j.name j.needs (jn5 j) := g
    have q900 : ∀ k,k ≤ 390 → k ≤ 900 := fun k h => by omega
    have cut1' : cutV ((j.name :: j.needs).map V.str) (some 1) none = j.needs.map V.str := cut1
    have bnd : ∀ ws : List Str,ws.length ≤ 30 → (∀ y ∈ ws,y.length ≤ 12) → (ws.map (·.length)).sum + ws.length * (" " : Str).length ≤ 16777216 := fun ws h1 h2 => Nat.le_trans (join_le " " ws h1 h2) (by rw [sp1]; decide)
    have aw : ∀ (ks : List Str) (bs : List Bool),GdJ j.name ks (jn5 j) → (allW j.name ks (jn5 j) bs).length ≤ 21 ∧ ∀ y ∈ allW j.name ks (jn5 j) bs,y.length ≤ 12 := fun ks bs g' => ⟨(allW_wd g' bs).1,fun y hy => ((allW_wd g' bs).2 y hy).le⟩
    have lnle : ∀ (ks : List Str) (bs : List Bool),GdJ j.name ks (jn5 j) → (Txt.join " " (allW j.name ks (jn5 j) bs)).length ≤ 900 := fun ks bs g' => q900 _ (line_short (by have := (aw ks bs g').1; omega) (aw ks bs g').2)
    clear hjb hnm g
    generalize hln : Txt.join " " (allW j.name j.needs (jn5 j) ff5) = ln
    have jln : jobOf ln = some (j.name,j.needs,jn5 j) := by rw [← hln]; exact all_read G rfl
    have lln : ln.length ≤ 900 := by rw [← hln]; exact lnle _ _ G
    refine seq_use (fun v H' => v = .str ln ∧ Same H5 H') (fun Q' kk => ⟨_,rfl,p,l,j,rfl,L5.jb,G,fun H' s' => kk _ _ ⟨by rw [hln],s'⟩⟩) ?_
    rintro _ H6 ⟨rfl,s6⟩
    replace L6 := L5.same s6
    clear L5
    refine seq_use (fun v H' => ∃ pl,v = .ref pl ∧ H' pl = some (.lst ((allW j.name j.needs (jn5 j) ff5).map V.str)) ∧ Same H6 H') (fun Q' kk => ?_) ?_
    · refine ⟨_,rfl,nml,_,_,_,rfl,rfl,SqL.of L6.nm,atI_nat (j := 0) rfl,_,rfl,_,rfl,nml,_,rfl,SqL.of L6.nm,fun c hc => ?_⟩
      rw [cut1']
      have t7 := same_of (o := .lst (j.needs.map V.str)) hc
      exact ⟨_,rfl,j.name,c,rl,j.needs,jn5 j,0,rfl,upd_same,t7 _ _ L6.rr,G,fun l' H' s' e' => kk _ _ ⟨l',rfl,by rw [← bits0]; exact e',t7.trans s'⟩⟩
    rintro _ H7 ⟨pl,rfl,e7,s7⟩
    replace L7 := L6.same s7
    have a0 := aw j.needs ff5 G
    refine ⟨_,rfl,_,_,_,rfl,.str ln,isiS (H := H7) (.str ln),_,rfl,iteF ?_⟩
    refine ⟨_,rfl,rfl,_,rfl," ",pl,_,rfl,rfl,SqL.of e7,bnd _ (by omega) a0.2,rfl,_,rfl, ?_⟩
    refine ite_of (d := false) (by rw [hln,decide_eq_true rfl]; rfl) (fun h => by cases h) (fun _ => next_to ?_)
    dsimp only
    refine seq_use (fun v H' => ∃ wl m,v = .ref wl ∧ H' wl = some (.lst ((allW j.name j.needs (jn5 j) (bits m)).map V.str)) ∧ Same H7 H') (fun Q' kk => ?_) ?_
    · refine ⟨_,rfl,nml,_,_,_,rfl,rfl,SqL.of L7.nm,atI_nat (j := 0) rfl,_,rfl,_,rfl,nml,_,rfl,SqL.of L7.nm,fun c hc => ?_⟩
      rw [cut1']
      have t8 := same_of (o := .lst (j.needs.map V.str)) hc
      refine ⟨_,rfl,_,rfl,a,ns,_,rfl,(L7.same t8).sc,by decide,by decide,fun m H8 hm s8 => ⟨_,_,rfl,rfl,by walk_at "m", ?_⟩⟩
      exact ⟨j.name,c,rl,j.needs,jn5 j,_,rfl,s8 _ _ upd_same,((L7.same t8).same s8).rr,G,fun l' H' s' e' => kk _ _ ⟨l',_,rfl,e',(t8.trans s8).trans s'⟩⟩
    rintro _ H8 ⟨wl,m,rfl,e8,s8⟩
    replace L8 := L7.same s8
    have aW := aw j.needs (bits m) G
    have lW := lnle j.needs (bits m) G
    have jW : jobOf (Txt.join " " (allW j.name j.needs (jn5 j) (bits m))) = some (j.name,j.needs,jn5 j) := all_read G (bits_len m)
    generalize allW j.name j.needs (jn5 j) (bits m) = ws at e8 aW lW jW
    refine seq_use (fun v H' => v = .str (Txt.join " " ws) ∧ H8 = H') (fun Q' kk => ⟨rfl,_,rfl," ",wl,_,rfl,rfl,SqL.of e8,bnd _ (by omega) aW.2,kk _ _ ⟨rfl,rfl⟩⟩) ?_
    rintro _ _ ⟨rfl,rfl⟩
    generalize Txt.join " " ws = fl at lW jW
    refine ⟨_,rfl,.str ln,rfl,JA lln,JL lln,fun _ _ _ _ _ _ _ _ h1 h2 p1 l1 H9 _ _ s9 j1 => ⟨_,rfl,p1,l1,t,tl,rl,j,rfl,JJ jln h1 h2 j1,(L8.same s9).du,fun H10 s10 => ⟨_,rfl,iteF ?_⟩⟩,JN jln⟩
    have L10 := (L8.same s9).same s10
    refine ⟨_,rfl,.str fl,rfl,JA lW,JL lW,fun _ _ _ _ _ _ _ _ h1 h2 p2 l2 H11 _ _ s11 j2 => ⟨_,rfl,p2,l2,t,tl,rl,j,rfl,JJ jW h1 h2 j2,(L10.same s11).du,fun H12 s12 => ⟨_,rfl,iteF (next_to ?_)⟩⟩,JN jW⟩
    have L12 := (L10.same s11).same s12
    have e12 := s12 _ _ (s11 _ _ (s10 _ _ (s9 _ _ e8)))
    dsimp only
    refine ⟨_,rfl,.str fl,rfl,JA lW,JL lW,fun _ _ _ _ _ _ _ _ h1 h2 p3 l3 H13 _ _ s13 j3 => ⟨p3,l3,j,rfl,JJ jW h1 h2 j3,G,fun H14 s14 => ⟨_,rfl,rfl,_,rfl, ?_⟩⟩,JN jW⟩
    refine ite_of (d := false) (by rw [hln,decide_eq_true rfl]; rfl) (fun h => by cases h) (fun _ => next_to ?_)
    have L14 := (L12.same s13).same s14
    have e14 := s14 _ _ (s13 _ _ e12)
    clear L12 L10 e12 s13 s14 s12 s11 s10 s9 L8 e8 j1 j2 j3
    dsimp only
    refine seq_use (fun v H' => Any K H' v ∧ (∀ y : Str,v ≠ .str y) ∧ Same H14 H') (fun Q' kk => ?_) ?_
    · refine ⟨by decide,fun p1 hp1 => ⟨by decide,fun p2 hp2 p3 hp3 => ⟨(by show 6 ≤ sizeLine; decide),fun p5 hp5 => ?_⟩⟩⟩
      generalize hH6 : upd (upd (upd (upd H14 p1 (.lst [.str "job a"])) p2 (.tup [.str "job",.str "a"])) p3 (.dK [])) p5 (.lst [.non,.int 5,.bl true,.ref p1,.ref p2,.ref p3]) = H15
      have g1 : H15 p1 = some (.lst [.str "job a"]) := by rw [← hH6]; exact same_upd hp5 _ _ (same_upd hp3 _ _ (same_upd hp2 _ _ upd_same))
      have g2 : H15 p2 = some (.tup [.str "job",.str "a"]) := by rw [← hH6]; exact same_upd hp5 _ _ (same_upd hp3 _ _ upd_same)
      have g3 : H15 p3 = some (.dK []) := by rw [← hH6]; exact same_upd hp5 _ _ upd_same
      have g5 : H15 p5 = some (.lst [.non,.int 5,.bl true,.ref p1,.ref p2,.ref p3]) := by rw [← hH6]; exact upd_same
      have s15 : Same H14 H15 := by rw [← hH6]; exact (((same_of hp1).trans (same_of hp2)).trans (same_of hp3)).trans (same_of hp5)
      clear hH6
      refine ⟨_,rfl,a,ns,_,rfl,(L14.same s15).sc,by decide,by decide,fun m' H16 hm s16 => ⟨_,_,rfl,rfl,by walk_at "m", ?_⟩⟩
      obtain ⟨v,hv,hmem,_⟩ := atI_mem (xs := [V.non,.int 5,.bl true,.ref p1,.ref p2,.ref p3]) (i := m' % 6) (Int.emod_nonneg _ (by decide)) (Int.emod_lt_of_pos _ (by decide))
      refine ⟨p5,_,_,_,rfl,rfl,SqL.of (s16 _ _ g5),hv,kk _ _ ?_⟩
      simp only [List.mem_cons,List.not_mem_nil,or_false] at hmem
      rcases hmem with rfl | rfl | rfl | rfl | rfl | rfl
      · exact ⟨⟨⟨_,.non⟩,fun _ e => by cases e⟩,fun y h => (by cases h),s15.trans s16⟩
      · exact ⟨⟨⟨_,.int _⟩,fun _ e => by cases e⟩,fun y h => (by cases h),s15.trans s16⟩
      · exact ⟨⟨⟨_,.bl _⟩,fun _ e => by cases e⟩,fun y h => (by cases h),s15.trans s16⟩
      · exact ⟨⟨⟨_,.lst (s16 _ _ g1)⟩,fun _ e => by cases e⟩,fun y h => (by cases h),s15.trans s16⟩
      · exact ⟨⟨⟨_,.tup (s16 _ _ g2)⟩,fun _ e => by cases e⟩,fun y h => (by cases h),s15.trans s16⟩
      · exact ⟨⟨⟨_,.dK (s16 _ _ g3)⟩,fun _ e => by cases e⟩,fun y h => (by cases h),s15.trans s16⟩
    rintro ov H15 ⟨ao,no,s15⟩
    have L15 := L14.same s15
    have e15 := s15 _ _ e14
    clear L14 e14
    refine ⟨_,rfl,ov,rfl,ao,fun y h => absurd h (no y),fun y h => absurd h (no y),fun H16 s16 => ⟨_,rfl,iteF ?_⟩⟩
    have L16 := L15.same s16
    have e16 := s16 _ _ e15
    refine ⟨_,rfl,_,rfl,a,wl,ns,ws,rfl,L16.sc,e16,aW.1,aW.2,fun bz H17 hbz s17 => ⟨bz,rfl,hbz,fun H18 s18 => ⟨_,rfl,iteF (next_to ?_)⟩⟩⟩
    have L18 := (L16.same s17).same s18
    have e18 := s18 _ _ (s17 _ _ e16)
    clear L16 L15 e16 e15
    dsimp only
    refine seq_use (fun v H' => ∃ k : Nat,v = .int (k : Int) ∧ Same H18 H') (fun Q' kk => ?_) ?_
    · refine ⟨_,rfl,a,ns,_,rfl,L18.sc,by decide,by decide,fun m' H19 hm s19 => ⟨_,rfl,wl,_,rfl,.inl (SqL.of (s19 _ _ e18)),_,_,rfl,rfl,_,_,rfl,rfl,by omega,kk _ _ ⟨(m' % (((ws.map V.str).length : Int) + 1)).toNat, ?_,s19⟩⟩⟩
      rw [Int.toNat_of_nonneg (Int.emod_nonneg _ (by omega))]
    rintro _ H19 ⟨k,rfl,s19⟩
    have L19 := L18.same s19
    have e19 := s19 _ _ e18
    clear L18 e18
    refine seq_use (fun v H' => ∃ gp : Str,v = .str gp ∧ gp ∈ gaps ∧ Same H19 H') (fun Q' kk => ?_) ?_
    · refine ⟨by show 5 ≤ sizeLine; decide,fun b hb => ?_⟩
      have tb := same_of (o := .lst (gaps.map V.str)) hb
      refine ⟨_,rfl,a,ns,_,rfl,(L19.same tb).sc,by decide,by decide,fun m' H20 hm s20 => ⟨_,_,rfl,rfl,by walk_at "m", ?_⟩⟩
      obtain ⟨v,hv,hmem,_⟩ := atI_mem (xs := gaps.map V.str) (i := m' % 5) (Int.emod_nonneg _ (by decide)) (Int.emod_lt_of_pos _ (by decide))
      obtain ⟨gp,hg,rfl⟩ := List.mem_map.mp hmem
      exact ⟨b,_,_,_,rfl,rfl,SqL.of (s20 _ _ upd_same),hv,kk _ _ ⟨gp,rfl,hg,tb.trans s20⟩⟩
    rintro _ H20 ⟨gp,rfl,hgp,s20⟩
    have L20 := L19.same s20
    have e20 := s20 _ _ e19
    clear L19 e19
    have g3 : gp.length ≤ 3 := of_decide_eq_true (List.all_eq_true.mp gap_le gp hgp)
    have jl : ∀ zs : List Str,zs.length ≤ 21 → (∀ y ∈ zs,y.length ≤ 12) → (Txt.join " " zs).length ≤ 273 := fun zs h1 h2 => txt_join_len _ _ (Nat.le_trans (join_le " " zs h1 h2) (by rw [sp1]; decide))
    have b1 : ∀ y ∈ ws.take k,y.length ≤ 12 := fun y hy => aW.2 y (List.mem_of_mem_take hy)
    have b2 : ∀ y ∈ ws.drop k,y.length ≤ 12 := fun y hy => aW.2 y (List.mem_of_mem_drop hy)
    have c1 : (ws.take k).length ≤ 21 := by rw [List.length_take]; have := aW.1; omega
    have c2 : (ws.drop k).length ≤ 21 := by rw [List.length_drop]; have := aW.1; omega
    have z900 : 900 ≤ sizeLine := by decide
    have d1 := jl _ c1 b1
    have d2 := jl _ c2 b2
    refine ⟨rfl,_,rfl,_,rfl,_,rfl,wl,_,rfl,SqL.of e20,fun q1 hq1 => ?_⟩
    rw [cut_to,← List.map_take]
    have t21 := same_of (o := .lst ((ws.take k).map V.str)) hq1
    refine ⟨" ",q1,_,rfl,rfl,SqL.of upd_same,bnd _ (by omega) b1,_,rfl,_,_,rfl,rfl,by omega, ?_⟩
    refine ⟨rfl,_,rfl,_,rfl,_,rfl,wl,_,rfl,SqL.of (t21 _ _ e20),fun q2 hq2 => ?_⟩
    rw [cut_from,← List.map_drop]
    have t22 := t21.trans (same_of (o := .lst ((ws.drop k).map V.str)) hq2)
    refine ⟨" ",q2,_,rfl,rfl,SqL.of upd_same,bnd _ (by omega) b2,_,_,rfl,rfl,by rw [app_len]; omega, ?_⟩
    have zlen : (Txt.join " " (ws.take k) ++ gp ++ Txt.join " " (ws.drop k)).length ≤ 900 := by rw [app_len,app_len]; omega
    refine ⟨_,rfl,Any.str (Nat.le_trans zlen (by decide)),fun y h => (by cases h; exact zlen),fun y h => (by cases h; exact gap_none hgp),fun H21 s21 => ⟨_,rfl,iteF (next_to ?_)⟩⟩
    have L21 := L20.same (t22.trans s21)
    clear L20 e20
    dsimp only
    have Gb := bare_read G
    refine seq_use (fun v H' => ∃ wl m,v = .ref wl ∧ H' wl = some (.lst ((allW j.name [] (jn5 j) (bits m)).map V.str)) ∧ Same H21 H') (fun Q' kk => ?_) ?_
    · refine ⟨_,rfl,nml,_,_,_,rfl,rfl,SqL.of L21.nm,atI_nat (j := 0) rfl,by decide,fun c hc => ?_⟩
      have t8 := same_of (o := .lst []) hc
      refine ⟨_,rfl,_,rfl,a,ns,_,rfl,(L21.same t8).sc,by decide,by decide,fun m H8 hm s8 => ⟨_,_,rfl,rfl,by walk_at "m", ?_⟩⟩
      exact ⟨j.name,c,rl,[],jn5 j,_,rfl,s8 _ _ upd_same,((L21.same t8).same s8).rr,Gb,fun l' H' s' e' => kk _ _ ⟨l',_,rfl,e',(t8.trans s8).trans s'⟩⟩
    rintro _ H22 ⟨bl,mb,rfl,e22,s22⟩
    have L22 := L21.same s22
    have aB := aw [] (bits mb) Gb
    generalize allW j.name [] (jn5 j) (bits mb) = bs at e22 aB
    refine ⟨rfl,_,rfl,by show 1 ≤ sizeLine; decide,fun q3 hq3 => ?_⟩
    have t23 := same_of (o := .lst [.str "needs"]) hq3
    refine ⟨bl,q3,_,_,rfl,rfl,t23 _ _ e22,upd_same,(by rw [List.length_map]; exact Nat.le_trans (by show bs.length + 1 ≤ 30; omega) (by decide)),fun q4 hq4 => ?_⟩
    have e24 : (upd (upd H22 q3 (.lst [.str "needs"])) q4 (.lst (bs.map V.str ++ [.str "needs"]))) q4 = some (.lst ((bs ++ ([nds] : List Str)).map V.str)) := by rw [upd_same,List.map_append]; rfl
    have t24 := t23.trans (same_of (o := .lst (bs.map V.str ++ [.str "needs"])) hq4)
    have bb : (bs ++ ([nds] : List Str)).length ≤ 30 ∧ ∀ y ∈ bs ++ ([nds] : List Str),y.length ≤ 12 := by
      refine ⟨by rw [List.length_append]; show bs.length + 1 ≤ 30; omega,fun y hy => ?_⟩
      rcases List.mem_append.mp hy with h | h
      · exact aB.2 y h
      · rw [List.mem_singleton.mp h]; decide +kernel
    refine ⟨" ",q4,_,rfl,rfl,SqL.of e24,bnd _ bb.1 bb.2,_,rfl,q900 _ (line_short bb.1 bb.2),fun H25 s25 => ⟨_,rfl,iteF ?_⟩⟩
    have t25 := t24.trans s25
    refine ⟨rfl,_,rfl," ",bl,_,rfl,rfl,SqL.of (t25 _ _ e22),bnd _ (by omega) aB.2,_,rfl,q900 _ (line_short (by omega) aB.2),fun H26 s26 => ⟨_,rfl,iteF (next_to ?_)⟩⟩
    dsimp only
    have L26 := L22.same (t25.trans s26)
    refine ⟨_,rfl,fl,rfl,lW,fun H27 s27 => ⟨_,rfl,iteT ?_⟩⟩
    have L27 := L26.same s27
    exact ⟨_,rfl,_,rfl,p,l,t,tl,rl,j,rfl,L27.jb,L27.du,fun H28 _ => q H28⟩
end
end K03
namespace K03
open PySem L2
theorem sqT_of {K : PySem.W.Frag} {T : Addr} {its : List Value} {n : Nat} {dd : Option Addr} {sl : Array (Option Value)} {xs : List V} (h : K.lookup T = some ⟨.type "tuple",dd,.seq its.toArray n,sl⟩) (hz : its.length ≤ 100) (r : Vals xs its) (H : Hp) : SqT K H T xs :=
  .inr ⟨_,its.toArray,n,h,rfl,rfl,by rw [List.size_toArray]; exact Nat.le_trans hz (by decide),r⟩
theorem parts_mk {K : PySem.W.Frag} {h : Heap} {mg : Str → Option Value} (X : K.In h) (G : h.Ns mainGlobals mg) {T p0 p1 p2 p3 p4 : Addr} {n n0 n1 n2 n3 n4 : Nat} {d d0 d1 d2 d3 d4 : Option Addr} {sl sl0 sl1 sl2 sl3 sl4 : Array (Option Value)} {a0 b0 c0 a1 b1 c1 a2 b2 c2 a3 b3 c3 a4 b4 c4 : Tok}
    (g : PySem.W.nsIn K mainGlobals "PARTS" = some (some (.ref T))) (l : K.lookup T = some ⟨.type "tuple",d,.seq #[.ref p0,.ref p1,.ref p2,.ref p3,.ref p4] n,sl⟩)
    (l0 : K.lookup p0 = some ⟨.type "tuple",d0,.seq #[.str "rank" a0,.int 0 b0,.int 99 c0] n0,sl0⟩) (l1 : K.lookup p1 = some ⟨.type "tuple",d1,.seq #[.str "span" a1,.int 1 b1,.int 1000 c1] n1,sl1⟩)
    (l2 : K.lookup p2 = some ⟨.type "tuple",d2,.seq #[.str "tries" a2,.int 1 b2,.int 20 c2] n2,sl2⟩) (l3 : K.lookup p3 = some ⟨.type "tuple",d3,.seq #[.str "wait" a3,.int 0 b3,.int 1000 c3] n3,sl3⟩)
    (l4 : K.lookup p4 = some ⟨.type "tuple",d4,.seq #[.str "grow" a4,.int 1 b4,.int 4 c4] n4,sl4⟩) : PartsK K mg := by
  refine ⟨T,[p0,p1,p2,p3,p4],PySem.W.mg_of X G g,rfl,fun H => sqT_of (its := [.ref p0,.ref p1,.ref p2,.ref p3,.ref p4]) (xs := [p0,p1,p2,p3,p4].map V.ref) l (by show 5 ≤ 100; decide) (.cons rfl (.cons rfl (.cons rfl (.cons rfl (.cons rfl .nil))))) H,fun i p hp => ?_⟩
  match i,hp with
  | 0,hp => cases hp; exact ⟨"rank",0,99,rfl,fun H => sqT_of (its := [.str "rank" a0,.int 0 b0,.int 99 c0]) (xs := [.str "rank",.int 0,.int 99]) l0 (by show 3 ≤ 100; decide) (.cons ⟨_,rfl⟩ (.cons ⟨_,rfl⟩ (.cons ⟨_,rfl⟩ .nil))) H⟩
  | 1,hp => cases hp; exact ⟨"span",1,1000,rfl,fun H => sqT_of (its := [.str "span" a1,.int 1 b1,.int 1000 c1]) (xs := [.str "span",.int 1,.int 1000]) l1 (by show 3 ≤ 100; decide) (.cons ⟨_,rfl⟩ (.cons ⟨_,rfl⟩ (.cons ⟨_,rfl⟩ .nil))) H⟩
  | 2,hp => cases hp; exact ⟨"tries",1,20,rfl,fun H => sqT_of (its := [.str "tries" a2,.int 1 b2,.int 20 c2]) (xs := [.str "tries",.int 1,.int 20]) l2 (by show 3 ≤ 100; decide) (.cons ⟨_,rfl⟩ (.cons ⟨_,rfl⟩ (.cons ⟨_,rfl⟩ .nil))) H⟩
  | 3,hp => cases hp; exact ⟨"wait",0,1000,rfl,fun H => sqT_of (its := [.str "wait" a3,.int 0 b3,.int 1000 c3]) (xs := [.str "wait",.int 0,.int 1000]) l3 (by show 3 ≤ 100; decide) (.cons ⟨_,rfl⟩ (.cons ⟨_,rfl⟩ (.cons ⟨_,rfl⟩ .nil))) H⟩
  | 4,hp => cases hp; exact ⟨"grow",1,4,rfl,fun H => sqT_of (its := [.str "grow" a4,.int 1 b4,.int 4 c4]) (xs := [.str "grow",.int 1,.int 4]) l4 (by show 3 ≤ 100; decide) (.cons ⟨_,rfl⟩ (.cons ⟨_,rfl⟩ (.cons ⟨_,rfl⟩ .nil))) H⟩
  | i + 5,hp => simp at hp
def mkd (e0 e1 e2 e3 e4 e5 e6 e7 e8 e9 e10 e11 e12 e13 e14 e15 e16 e17 e18 : Addr) : Nat → Addr
  | 0 => e0
  | 1 => e1
  | 2 => e2
  | 3 => e3
  | 4 => e4
  | 5 => e5
  | 6 => e6
  | 7 => e7
  | 8 => e8
  | 9 => e9
  | 10 => e10
  | 11 => e11
  | 12 => e12
  | 13 => e13
  | 14 => e14
  | 15 => e15
  | 16 => e16
  | 17 => e17
  | _ => e18
theorem xdef_mk {K : PySem.W.Frag} {C : Addr} {qual : Str} {st : Stmt} {ps : List Str} {f : Addr} {oc : Value} {od an : Option Addr} {osl : Array (Option Value)} {kV doc pm cdv ct : Value}
    (a : PySem.W.findIn K (.ref C) "__init__" = some (some (.ref f))) (n : PySem.W.isFn K (.ref f) = true) (l : K.lookup f = some ⟨oc,od,.func (PySem.W.fnOf "__init__" qual (defArgs st) (defBody st) (defScope st) .none kV doc pm an cdv ct),osl⟩) (c : PySem.W.codeIn K cdv qual = true) (k : PySem.W.keepIn K (.ref f) = true)
    (xc : xClass K C = true) (kC : PySem.W.keepIn K (.ref C) = true)
    (b : ∀ (kV doc pm : Value) (an : Option Addr) (cdv ct : Value) (us : List Value),us.length = ps.length → bindArgs (PySem.W.fnOf "__init__" qual (defArgs st) (defBody st) (defScope st) .none kV doc pm an cdv ct) ⟨us,[]⟩ = pure (ps.zip us)) : XDef K C qual st ps :=
  ⟨⟨f,_,⟨xc,a,beq_iff_eq.mp n,kC⟩,fun_mk l c k,(fun_mk l c k).binds b⟩⟩
theorem all_mk {l : PySem.W.OpenLaw} {w : World} {K : PySem.W.Frag} {h : Heap} {mg : Str → Option Value} {fa : Addr} (X : K.In h) (G : h.Ns mainGlobals mg) (hfa : mg "law" = some (.ref fa)) {C f eh e0 e1 e2 e3 e4 e5 e6 e7 e8 e9 e10 e11 e12 e13 e14 e15 e16 e17 e18 : Addr}
    {od an : Option Addr} {sl : Array (Option Value)} {oc kV dc pm cd ct : Value} {t1 t2 t3 t4 t5 : Tok}
    (is_Job : PySem.W.nsIn K mainGlobals "Job" = some (some (.ref C)))
    (cls_Job : Cls K C)
    (n1 : PySem.W.findIn K (.ref C) "name" = some none)
    (n2 : PySem.W.findIn K (.ref C) "needs" = some none)
    (n3 : PySem.W.findIn K (.ref C) "rank" = some none)
    (n4 : PySem.W.findIn K (.ref C) "span" = some none)
    (n5 : PySem.W.findIn K (.ref C) "tries" = some none)
    (n6 : PySem.W.findIn K (.ref C) "wait" = some none)
    (n7 : PySem.W.findIn K (.ref C) "grow" = some none)
    (hn : PySem.W.specialIn K (.builtin "object.__class__") "__get__" = some (some (.builtin "getset_descriptor.__get__")))
    (htk : PySem.W.takesIn K (.builtin "object.__class__") = some true)
    (jha : PySem.W.findIn K (.ref C) "__class__" = some (some (.builtin "object.__class__")))
    (jhm : PySem.W.mroIn K C (.type "object") = some true)
    (jis : PySem.W.kitOne K (.ref C) (.ref C) = some true)
    (i_job : IDefB K C "Job.__init__" s_Job___init__ JForms)
    (pk : PartsK K mg)
    (d_is_whole : Def K mg "is_whole" s_is_whole ["thing"])
    (d_is_among : Def K mg "is_among" s_is_among ["thing","least","most"])
    (d_is_made_of : Def K mg "is_made_of" s_is_made_of ["thing","signs","most"])
    (d_is_name : Def K mg "is_name" s_is_name ["thing"])
    (d_number_text : Def K mg "number_text" s_number_text ["number"])
    (d_number_of : Def K mg "number_of" s_number_of ["word"])
    (d_words_of : Def K mg "words_of" s_words_of ["line"])
    (d_check_name : Def K mg "check_name" s_check_name ["name"])
    (d_check_needs : Def K mg "check_needs" s_check_needs ["needs","name"])
    (d_are_needs : Def K mg "are_needs" s_are_needs ["needs","name"])
    (d_check_numbers : Def K mg "check_numbers" s_check_numbers ["numbers"])
    (d_job_line : Def K mg "job_line" s_job_line ["job"])
    (d_job_of : Def K mg "job_of" s_job_of ["line"])
    (d_number_behind : Def K mg "number_behind" s_number_behind ["words"])
    (d_needs_in : Def K mg "needs_in" s_needs_in ["words"])
    (d_job_by : Def K mg "job_by" s_job_by ["name","needs","numbers"])
    (d__law_mixed : Def K mg "_law_mixed" s__law_mixed ["_law_script","_law_k"])
    (d__law_kinds : Def K mg "_law_kinds" s__law_kinds ["_law_e"])
    (d__law_alone : Def K mg "_law_alone" s__law_alone ["_law_e","_law_which"])
    (d__law_names : Def K mg "_law_names" s__law_names ["_law_script","_law_many"])
    (d__law_numbers : Def K mg "_law_numbers" s__law_numbers ["_law_script"])
    (d__law_told : Def K mg "_law_told" s__law_told ["_law_name","_law_needs","_law_numbers_here","_law_mask"])
    (d__law_word : Def K mg "_law_word" s__law_word ["_law_script"])
    (d__law_bent : Def K mg "_law_bent" s__law_bent ["_law_script","_law_words"])
    (d__law_is_name : Def K mg "_law_is_name" s__law_is_name ["_law_text"])
    (d__law_number : Def K mg "_law_number" s__law_number ["_law_text"])
    (d__law_numbers_read : Def K mg "_law_numbers_read" s__law_numbers_read ["_law_words"])
    (d__law_needs_read : Def K mg "_law_needs_read" s__law_needs_read ["_law_name","_law_words"])
    (d__law_read : Def K mg "_law_read" s__law_read ["_law_line"])
    (d__law_is : Def K mg "_law_is" s__law_is ["_law_job","_law_due"])
    (d__law_refused : Def K mg "_law_refused" s__law_refused ["_law_line"])
    (d__law_reads : Def K mg "_law_reads" s__law_reads ["_law_line"])
    (lk : PySem.W.nsIn K mainGlobals "law" = some (some (.ref f)))
    (ll : K.lookup f = some ⟨oc,od,.func (PySem.W.fnOf "law" "law" (defArgs s_law) (defBody s_law) (defScope s_law) .none kV dc pm an cd ct),sl⟩)
    (lc : PySem.W.codeIn K cd "law" = true)
    (lp : PySem.W.keepIn K (.ref f) = true)
    (b_isinstance : PySem.W.nsIn K mainGlobals "isinstance" = some none)
    (b_len : PySem.W.nsIn K mainGlobals "len" = some none)
    (b_all : PySem.W.nsIn K mainGlobals "all" = some none)
    (b_int : PySem.W.nsIn K mainGlobals "int" = some none)
    (b_bool : PySem.W.nsIn K mainGlobals "bool" = some none)
    (b_str : PySem.W.nsIn K mainGlobals "str" = some none)
    (b_list : PySem.W.nsIn K mainGlobals "list" = some none)
    (b_range : PySem.W.nsIn K mainGlobals "range" = some none)
    (b_set : PySem.W.nsIn K mainGlobals "set" = some none)
    (b_zip : PySem.W.nsIn K mainGlobals "zip" = some none)
    (b_tuple : PySem.W.nsIn K mainGlobals "tuple" = some none)
    (b_max : PySem.W.nsIn K mainGlobals "max" = some none)
    (b_ValueError : PySem.W.nsIn K mainGlobals "ValueError" = some none)
    (g_LETTERS : PySem.W.nsIn K mainGlobals "LETTERS" = some (some (.str LET t1)))
    (g_MOSTL : PySem.W.nsIn K mainGlobals "MOST_LETTERS" = some (some (.int 12 t2)))
    (g_FIGURES : PySem.W.nsIn K mainGlobals "FIGURES" = some (some (.str FIG t4)))
    (g_MOSTF : PySem.W.nsIn K mainGlobals "MOST_FIGURES" = some (some (.int 10 t5)))
    (g_MOSTN : PySem.W.nsIn K mainGlobals "MOST_NEEDS" = some (some (.int 8 t3)))
    (x_BadName : PySem.W.nsIn K mainGlobals "BadName" = some (some (.ref e0)))
    (x_BadNeeds : PySem.W.nsIn K mainGlobals "BadNeeds" = some (some (.ref e1)))
    (x_BadNumber : PySem.W.nsIn K mainGlobals "BadNumber" = some (some (.ref e2)))
    (x_BadPlan : PySem.W.nsIn K mainGlobals "BadPlan" = some (some (.ref e3)))
    (x_Twice : PySem.W.nsIn K mainGlobals "Twice" = some (some (.ref e4)))
    (x_NoJob : PySem.W.nsIn K mainGlobals "NoJob" = some (some (.ref e5)))
    (x_Ring : PySem.W.nsIn K mainGlobals "Ring" = some (some (.ref e6)))
    (x_BadLine : PySem.W.nsIn K mainGlobals "BadLine" = some (some (.ref e7)))
    (x_Busy : PySem.W.nsIn K mainGlobals "Busy" = some (some (.ref e8)))
    (x_Gone : PySem.W.nsIn K mainGlobals "Gone" = some (some (.ref e9)))
    (x_BadTerm : PySem.W.nsIn K mainGlobals "BadTerm" = some (some (.ref e10)))
    (x_NoAlarm : PySem.W.nsIn K mainGlobals "NoAlarm" = some (some (.ref e11)))
    (x_BadStep : PySem.W.nsIn K mainGlobals "BadStep" = some (some (.ref e12)))
    (x_BadState : PySem.W.nsIn K mainGlobals "BadState" = some (some (.ref e13)))
    (x_BadTurn : PySem.W.nsIn K mainGlobals "BadTurn" = some (some (.ref e14)))
    (x_BadBuilders : PySem.W.nsIn K mainGlobals "BadBuilders" = some (some (.ref e15)))
    (x_BadBook : PySem.W.nsIn K mainGlobals "BadBook" = some (some (.ref e16)))
    (x_BadShot : PySem.W.nsIn K mainGlobals "BadShot" = some (some (.ref e17)))
    (x_BadEvent : PySem.W.nsIn K mainGlobals "BadEvent" = some (some (.ref e18)))
    (x_HallError : PySem.W.nsIn K mainGlobals "HallError" = some (some (.ref eh)))
    (exc0 : PySem.W.excIn K e0 bmV "ValueError.__new__" = true)
    (exm0 : PySem.W.exmOne K (.ref e0) (.ref eh) = some true)
    (exc1 : PySem.W.excIn K e1 bmV "ValueError.__new__" = true)
    (exm1 : PySem.W.exmOne K (.ref e1) (.ref eh) = some true)
    (exc2 : PySem.W.excIn K e2 bmV "ValueError.__new__" = true)
    (exm2 : PySem.W.exmOne K (.ref e2) (.ref eh) = some true)
    (ga7 : PySem.W.findIn K (.ref e7) "__getattribute__" = some (some (.builtin "BaseException.__getattribute__")))
    (gh7 : PySem.W.findIn K (.ref e7) "__getattr__" = some none)
    (be7 : PySem.W.mroIn K e7 (.type "BaseException") = some true)
    (hd7 : PySem.W.hasDictIn K e7 = true)
    (ha7 : PySem.W.findIn K (.ref e7) "__class__" = some (some (.builtin "object.__class__")))
    (hm7 : PySem.W.mroIn K e7 (.type "object") = some true)
    (kt7_0 : PySem.W.kitOne K (.ref e7) (.ref e0) = some false)
    (kt7_1 : PySem.W.kitOne K (.ref e7) (.ref e1) = some false)
    (kt7_2 : PySem.W.kitOne K (.ref e7) (.ref e2) = some false)
    (kt7_3 : PySem.W.kitOne K (.ref e7) (.ref e3) = some false)
    (kt7_4 : PySem.W.kitOne K (.ref e7) (.ref e4) = some false)
    (kt7_5 : PySem.W.kitOne K (.ref e7) (.ref e5) = some false)
    (kt7_6 : PySem.W.kitOne K (.ref e7) (.ref e6) = some false)
    (kt7_7 : PySem.W.kitOne K (.ref e7) (.ref e7) = some true)
    (kt7_8 : PySem.W.kitOne K (.ref e7) (.ref e8) = some false)
    (kt7_9 : PySem.W.kitOne K (.ref e7) (.ref e9) = some false)
    (kt7_10 : PySem.W.kitOne K (.ref e7) (.ref e10) = some false)
    (kt7_11 : PySem.W.kitOne K (.ref e7) (.ref e11) = some false)
    (kt7_12 : PySem.W.kitOne K (.ref e7) (.ref e12) = some false)
    (kt7_13 : PySem.W.kitOne K (.ref e7) (.ref e13) = some false)
    (kt7_14 : PySem.W.kitOne K (.ref e7) (.ref e14) = some false)
    (kt7_15 : PySem.W.kitOne K (.ref e7) (.ref e15) = some false)
    (kt7_16 : PySem.W.kitOne K (.ref e7) (.ref e16) = some false)
    (kt7_17 : PySem.W.kitOne K (.ref e7) (.ref e17) = some false)
    (kt7_18 : PySem.W.kitOne K (.ref e7) (.ref e18) = some false)
    (kve7 : PySem.W.kitOne K (.ref e7) (.type "ValueError") = some true)
    (khe7 : PySem.W.kitOne K (.ref e7) (.ref eh) = some true)
    (exm7 : PySem.W.exmOne K (.ref e7) (.ref eh) = some true)
    (xc7 : xClass K e7 = true)
    (na7 : PySem.W.findIn K (.ref e7) "place" = some none)
    (sa7 : PySem.W.findIn K (.ref e7) "__setattr__" = some (some (.builtin "object.__setattr__")))
    (ov7 : overIn K e7 = true)
    (urd : PySem.W.readsIn K eh (.type "type") = true)
    (ufc : PySem.W.findCls K (.ref eh) (.type "type") "__init__" = some (.val (.builtin "ValueError.__init__")))
    (uga : PySem.W.specialIn K (.ref eh) "__getattribute__" = some (some (.builtin "type.__getattribute__")))
    (xi7 : XDef K e7 "BadLine.__init__" s_BadLine___init__ ["self","place"]) :
    ∃ fd : FuncData,(∀ (s : Shared) (v : Value),BindsTo s fd ⟨[v],[]⟩ [("_law_script",v)]) ∧ ∀ base : Heap,K.In base → base.Ns mainGlobals mg → FnOk l.prog w K mg base CX0 11 fa fd ["_law_script"] (spLaw K) := by
  have e := hfa.symm.trans (PySem.W.mg_of X G lk)
  cases e
  have B0 : Bltn mg := ⟨PySem.W.mg_none_of X G b_isinstance,PySem.W.mg_none_of X G b_len,PySem.W.mg_none_of X G b_all,PySem.W.mg_none_of X G b_int,PySem.W.mg_none_of X G b_bool,PySem.W.mg_none_of X G b_str,PySem.W.mg_none_of X G b_list,PySem.W.mg_none_of X G b_range⟩
  have B : Bj mg := ⟨B0,PySem.W.mg_none_of X G b_zip,PySem.W.mg_none_of X G b_tuple,PySem.W.mg_none_of X G b_set⟩
  have J : JCls K mg C := ⟨cls_Job,PySem.W.mg_of X G is_Job,n1,n2,n3,n4,n5,n6,n7⟩
  have JI : JIs K C := ⟨jha,hn,htk,jhm,jis⟩
  have BXX : BX K mg (mkd e0 e1 e2 e3 e4 e5 e6 e7 e8 e9 e10 e11 e12 e13 e14 e15 e16 e17 e18) := ⟨exc0,exc1,exc2,PySem.W.mg_of X G x_BadName,PySem.W.mg_of X G x_BadNeeds,PySem.W.mg_of X G x_BadNumber⟩
  have EXX : EX K mg (mkd e0 e1 e2 e3 e4 e5 e6 e7 e8 e9 e10 e11 e12 e13 e14 e15 e16 e17 e18) eh (fun r => r = 7) := by
    refine ⟨⟨hn,htk⟩,(fun r hr => ?_),(fun r i hr hi => ?_),(fun r hr => ?_),(fun r hr => ?_),PySem.W.mg_none_of X G b_ValueError,PySem.W.mg_of X G x_HallError,PySem.W.mg_of X G x_BadName,PySem.W.mg_of X G x_BadNeeds,PySem.W.mg_of X G x_BadNumber,PySem.W.mg_of X G x_BadPlan,PySem.W.mg_of X G x_Twice,PySem.W.mg_of X G x_NoJob,PySem.W.mg_of X G x_Ring,PySem.W.mg_of X G x_BadLine,PySem.W.mg_of X G x_Busy,PySem.W.mg_of X G x_Gone,PySem.W.mg_of X G x_BadTerm,PySem.W.mg_of X G x_NoAlarm,PySem.W.mg_of X G x_BadStep,PySem.W.mg_of X G x_BadState,PySem.W.mg_of X G x_BadTurn,PySem.W.mg_of X G x_BadBuilders,PySem.W.mg_of X G x_BadBook,PySem.W.mg_of X G x_BadShot,PySem.W.mg_of X G x_BadEvent⟩
    · cases hr
      exact ⟨ga7,gh7,be7,hd7,ha7,hm7⟩
    · cases hr
      match i,hi with
      | 0,_ => exact kt7_0
      | 1,_ => exact kt7_1
      | 2,_ => exact kt7_2
      | 3,_ => exact kt7_3
      | 4,_ => exact kt7_4
      | 5,_ => exact kt7_5
      | 6,_ => exact kt7_6
      | 7,_ => exact kt7_7
      | 8,_ => exact kt7_8
      | 9,_ => exact kt7_9
      | 10,_ => exact kt7_10
      | 11,_ => exact kt7_11
      | 12,_ => exact kt7_12
      | 13,_ => exact kt7_13
      | 14,_ => exact kt7_14
      | 15,_ => exact kt7_15
      | 16,_ => exact kt7_16
      | 17,_ => exact kt7_17
      | 18,_ => exact kt7_18
      | i + 19,hi => omega
    · cases hr
      exact kve7
    · cases hr
      exact khe7
  have EXM : ∀ r,r < 3 → PySem.W.exmOne K (.ref ((mkd e0 e1 e2 e3 e4 e5 e6 e7 e8 e9 e10 e11 e12 e13 e14 e15 e16 e17 e18) r)) (.ref eh) = some true := fun r hr => by
    match r,hr with
    | 0,_ => exact exm0
    | 1,_ => exact exm1
    | 2,_ => exact exm2
    | r + 3,hr => omega
  refine ⟨PySem.W.fnOf "law" "law" (defArgs s_law) (defBody s_law) (defScope s_law) .none kV dc pm an cd ct,fun s v => .of_eq rfl,fun base _ _ => ?_⟩
  have F := fun_mk (st := s_law) ll lc lp
  have k_is_whole := ok_is_whole (P := l.prog) (w := w) (base := base) d_is_whole B0
  have k_is_among := ok_is_among d_is_among k_is_whole
  have k_made_of := ok_is_made_of (P := l.prog) (w := w) (base := base) d_is_made_of B0
  have k_is_name := ok_is_name d_is_name (PySem.W.mg_of X G g_LETTERS) (PySem.W.mg_of X G g_MOSTL) k_made_of
  have k_number_text := ok_number_text (P := l.prog) (w := w) (base := base) d_number_text B0
  have k_number_of := ok_number_of d_number_of B0 (PySem.W.mg_of X G g_FIGURES) (PySem.W.mg_of X G g_MOSTF) k_made_of
  have k_words_of := ok_words_of (P := l.prog) (w := w) (base := base) d_words_of B0
  have k_check_name := ok_check_name (D := (mkd e0 e1 e2 e3 e4 e5 e6 e7 e8 e9 e10 e11 e12 e13 e14 e15 e16 e17 e18)) d_check_name BXX k_is_name
  have k_are_needs := ok_are_needs d_are_needs B (PySem.W.mg_of X G g_MOSTN) k_is_name
  have k_check_needs := ok_check_needs (D := (mkd e0 e1 e2 e3 e4 e5 e6 e7 e8 e9 e10 e11 e12 e13 e14 e15 e16 e17 e18)) d_check_needs BXX k_are_needs
  have k_check_numbers := ok_check_numbers (D := (mkd e0 e1 e2 e3 e4 e5 e6 e7 e8 e9 e10 e11 e12 e13 e14 e15 e16 e17 e18)) d_check_numbers B pk BXX k_is_among
  have kj := i_job.knows (P := l.prog) (w := w) (mg := mg) (base := base) fun f fd F => ok_job F J B k_check_name k_check_needs k_check_numbers
  have U : UpK K eh := ⟨urd,ufc,uga⟩
  have XA : XAttr K e7 "place" := ⟨sa7,ov7,na7,hd7⟩
  have gH := PySem.W.mg_of X G x_HallError
  have gB := PySem.W.mg_of X G x_BadLine
  have k_bad := ok_bad (P := l.prog) (w := w) (base := base) xi7 U gH xc7 XA
  have k_badQ := ok_badQ (P := l.prog) (w := w) (base := base) xi7 U gH xc7 XA
  have k_behind := ok_behind d_number_behind B0 k_number_of
  have k_needs_in := ok_needs_in d_needs_in B0 gB k_bad
  have k_job_by := ok_job_by (D := (mkd e0 e1 e2 e3 e4 e5 e6 e7 e8 e9 e10 e11 e12 e13 e14 e15 e16 e17 e18)) d_job_by J gH gB EXM kj k_badQ
  have k_job_of := ok_job_of d_job_of B0 pk gB k_bad k_words_of k_behind k_needs_in k_job_by
  have k_job_line := ok_job_line d_job_line B J pk k_number_text
  have k_kinds := ok_kinds (P := l.prog) (w := w) (base := base) d__law_kinds B0 EXX
  have k_alone := ok_alone d__law_alone B0 EXX k_kinds
  have k_refused := ok_refused (C := C) (D := (mkd e0 e1 e2 e3 e4 e5 e6 e7 e8 e9 e10 e11 e12 e13 e14 e15 e16 e17 e18)) (R := fun r => r = 7) d__law_refused B0 gH exm7 rfl (EXX.ec 7 rfl) na7 k_job_of k_alone
  have k_is := ok_is (P := l.prog) (w := w) (base := base) d__law_is B0 J JI
  have k_mixed := ok_mixed (P := l.prog) (w := w) (base := base) d__law_mixed B0
  have k_names := ok_names d__law_names B0 k_mixed
  have k_numbers := ok_numbers d__law_numbers B0 k_mixed
  have k_told := ok_told (P := l.prog) (w := w) (base := base) d__law_told B0
  have k_word := ok_word d__law_word k_mixed
  have k_bent := ok_bent d__law_bent B0 (PySem.W.mg_none_of X G b_max) k_mixed k_word
  have k_isn := ok_is_nameL (P := l.prog) (w := w) (base := base) d__law_is_name B0
  have k_number := ok_number (P := l.prog) (w := w) (base := base) d__law_number B0
  have k_nr := ok_numbers_read d__law_numbers_read B0 k_number
  have k_ndr := ok_needs_read d__law_needs_read B0 k_isn
  have k_read := ok_read d__law_read B0 k_isn k_nr k_ndr
  have k_reads := ok_reads d__law_reads J k_read k_refused k_job_of k_is
  exact ok_law F B J kj k_mixed k_names k_numbers k_told k_bent k_job_line k_job_of k_is k_refused k_reads
theorem walk {l : PySem.W.OpenLaw} {q : Program} {loose : List Str} {XP : (Str → Option Value) → Heap → Prop} {YP : World → Heap → Prop} {d : DefRec} {K : Params → PySem.W.Frag} (hn : l.most = some 63) (hdf : d.params.defaults = [])
    (hY : ∀ (w : World) (h : Heap),YP w h → (K w.params).In h)
    (F : ∀ (w : World) (mg : Str → Option Value) (fa : Addr) (h : Heap),(K w.params).In h → h.Ns mainGlobals mg → mg d.name = some (.ref fa) →
      ∃ fd : FuncData,(∀ (s : Shared) (u : Value),BindsTo s fd ⟨[u],[]⟩ [("_law_script",u)]) ∧ ∀ base : Heap,(K w.params).In base → base.Ns mainGlobals mg → FnOk l.prog w (K w.params) mg base CX0 11 fa fd ["_law_script"] (spLaw (K w.params))) :
    PySem.W.WalkO q loose XP YP l.row.toRowW d [] (fun f vs => PySem.call f vs) :=
  L2.walk_ofW (n := 63) (k := 11) (x := "_law_script") (CX := fun _ => CX0) (sp := fun w => spLaw (K w.params)) hn (by decide) hdf ⟨rfl,by decide,by decide⟩ hY F (fun _ _ a ns hl hsm _ hS => ⟨a,ns,rfl,hS,fun _ => rfl⟩) fun _ _ _ _ _ z => z
end K03
namespace PySem.W.Fast
end PySem.W.Fast
open PySem PySem.W PyProof.Rows
set_option maxRecDepth 100000 in
set_option maxHeartbeats 0 in
theorem PySem.Challenge.cw_buildhall_k03_job_lines_holds : PySem.Challenge.rw_buildhall_k03_job_lines.Holds := by
  w_on; o_law; k_head; (case hw => w_witness2)
  k_fill
  refine K03.walk (l := PySem.Challenge.rw_buildhall_k03_job_lines) rfl rfl (fun w h Y => PySem.W.kIn_of Y) ?F
  case F =>
    intro w mg fa h KX G hmg
    refine' K03.all_mk KX G hmg ?is_Job ?cls_Job ?n1 ?n2 ?n3 ?n4 ?n5 ?n6 ?n7 ?hn ?htk ?jha ?jhm ?jis ?i_job ?pk ?d_is_whole ?d_is_among ?d_is_made_of ?d_is_name ?d_number_text ?d_number_of ?d_words_of ?d_check_name ?d_check_needs ?d_are_needs ?d_check_numbers ?d_job_line ?d_job_of ?d_number_behind ?d_needs_in ?d_job_by ?d__law_mixed ?d__law_kinds ?d__law_alone ?d__law_names ?d__law_numbers ?d__law_told ?d__law_word ?d__law_bent ?d__law_is_name ?d__law_number ?d__law_numbers_read ?d__law_needs_read ?d__law_read ?d__law_is ?d__law_refused ?d__law_reads ?lk ?ll ?lc ?lp ?b_isinstance ?b_len ?b_all ?b_int ?b_bool ?b_str ?b_list ?b_range ?b_set ?b_zip ?b_tuple ?b_max ?b_ValueError ?g_LETTERS ?g_MOSTL ?g_FIGURES ?g_MOSTF ?g_MOSTN ?x_BadName ?x_BadNeeds ?x_BadNumber ?x_BadPlan ?x_Twice ?x_NoJob ?x_Ring ?x_BadLine ?x_Busy ?x_Gone ?x_BadTerm ?x_NoAlarm ?x_BadStep ?x_BadState ?x_BadTurn ?x_BadBuilders ?x_BadBook ?x_BadShot ?x_BadEvent ?x_HallError ?exc0 ?exm0 ?exc1 ?exm1 ?exc2 ?exm2 ?ga7 ?gh7 ?be7 ?hd7 ?ha7 ?hm7 ?kt7_0 ?kt7_1 ?kt7_2 ?kt7_3 ?kt7_4 ?kt7_5 ?kt7_6 ?kt7_7 ?kt7_8 ?kt7_9 ?kt7_10 ?kt7_11 ?kt7_12 ?kt7_13 ?kt7_14 ?kt7_15 ?kt7_16 ?kt7_17 ?kt7_18 ?kve7 ?khe7 ?exm7 ?xc7 ?na7 ?sa7 ?ov7 ?urd ?ufc ?uga ?xi7
    (case is_Job => k_is)
    (case cls_Job => refine' ⟨?_, ?_, ?_, ?_⟩ <;> k_is)
    (case n1 => k_is)
    (case n2 => k_is)
    (case n3 => k_is)
    (case n4 => k_is)
    (case n5 => k_is)
    (case n6 => k_is)
    (case n7 => k_is)
    (case hn => first | k_is | kernel_rfl)
    (case htk => first | k_is | kernel_rfl)
    (case jha => first | k_is | kernel_rfl)
    (case jhm => first | k_is | kernel_rfl)
    (case jis => first | kernel_rfl | k_is)
    case i_job =>
      refine' L2.initB_mk ?a ?n ?l ?c ?mk ?kC ?b
      (case a => k_is); (case n => k_is); (case l => k_is); (case c => k_is); (case mk => k_is); (case kC => k_is)
      case b =>
        refine' ⟨?_⟩
        · refine' L2.bt_mk' rfl ?ho ?hs ?hok ?hb
          (case ho => k_is); (case hs => rfl)
          (case hok => exact ⟨trivial,trivial,trivial,trivial,trivial,trivial,trivial,trivial⟩)
          (case hb => exact fun self us ws h1 h2 => match us,ws,h1,h2 with | [_,_,_,_,_,_,_],[],_,_ => ⟨_,rfl,rfl⟩)
    case pk =>
      refine' K03.parts_mk KX G ?g ?l ?l0 ?l1 ?l2 ?l3 ?l4
      (case g => k_is); (case l => k_is); (case l0 => k_is); (case l1 => k_is); (case l2 => k_is); (case l3 => k_is); (case l4 => k_is)
    case d_is_whole =>
      refine' L2.def_mk KX G ?a ?l ?c ?k ?b
      (case a => k_is); (case l => k_is); (case c => k_is); (case k => k_is)
      (case b => exact fun _ _ _ _ _ _ us hl => match us,hl with | [_],_ => rfl)
    case d_is_among =>
      refine' L2.def_mk KX G ?a ?l ?c ?k ?b
      (case a => k_is); (case l => k_is); (case c => k_is); (case k => k_is)
      (case b => exact fun _ _ _ _ _ _ us hl => match us,hl with | [_,_,_],_ => rfl)
    case d_is_made_of =>
      refine' L2.def_mk KX G ?a ?l ?c ?k ?b
      (case a => k_is); (case l => k_is); (case c => k_is); (case k => k_is)
      (case b => exact fun _ _ _ _ _ _ us hl => match us,hl with | [_,_,_],_ => rfl)
    case d_is_name =>
      refine' L2.def_mk KX G ?a ?l ?c ?k ?b
      (case a => k_is); (case l => k_is); (case c => k_is); (case k => k_is)
      (case b => exact fun _ _ _ _ _ _ us hl => match us,hl with | [_],_ => rfl)
    case d_number_text =>
      refine' L2.def_mk KX G ?a ?l ?c ?k ?b
      (case a => k_is); (case l => k_is); (case c => k_is); (case k => k_is)
      (case b => exact fun _ _ _ _ _ _ us hl => match us,hl with | [_],_ => rfl)
    case d_number_of =>
      refine' L2.def_mk KX G ?a ?l ?c ?k ?b
      (case a => k_is); (case l => k_is); (case c => k_is); (case k => k_is)
      (case b => exact fun _ _ _ _ _ _ us hl => match us,hl with | [_],_ => rfl)
    case d_words_of =>
      refine' L2.def_mk KX G ?a ?l ?c ?k ?b
      (case a => k_is); (case l => k_is); (case c => k_is); (case k => k_is)
      (case b => exact fun _ _ _ _ _ _ us hl => match us,hl with | [_],_ => rfl)
    case d_check_name =>
      refine' L2.def_mk KX G ?a ?l ?c ?k ?b
      (case a => k_is); (case l => k_is); (case c => k_is); (case k => k_is)
      (case b => exact fun _ _ _ _ _ _ us hl => match us,hl with | [_],_ => rfl)
    case d_check_needs =>
      refine' L2.def_mk KX G ?a ?l ?c ?k ?b
      (case a => k_is); (case l => k_is); (case c => k_is); (case k => k_is)
      (case b => exact fun _ _ _ _ _ _ us hl => match us,hl with | [_,_],_ => rfl)
    case d_are_needs =>
      refine' L2.def_mk KX G ?a ?l ?c ?k ?b
      (case a => k_is); (case l => k_is); (case c => k_is); (case k => k_is)
      (case b => exact fun _ _ _ _ _ _ us hl => match us,hl with | [_,_],_ => rfl)
    case d_check_numbers =>
      refine' L2.def_mk KX G ?a ?l ?c ?k ?b
      (case a => k_is); (case l => k_is); (case c => k_is); (case k => k_is)
      (case b => exact fun _ _ _ _ _ _ us hl => match us,hl with | [_],_ => rfl)
    case d_job_line =>
      refine' L2.def_mk KX G ?a ?l ?c ?k ?b
      (case a => k_is); (case l => k_is); (case c => k_is); (case k => k_is)
      (case b => exact fun _ _ _ _ _ _ us hl => match us,hl with | [_],_ => rfl)
    case d_job_of =>
      refine' L2.def_mk KX G ?a ?l ?c ?k ?b
      (case a => k_is); (case l => k_is); (case c => k_is); (case k => k_is)
      (case b => exact fun _ _ _ _ _ _ us hl => match us,hl with | [_],_ => rfl)
    case d_number_behind =>
      refine' L2.def_mk KX G ?a ?l ?c ?k ?b
      (case a => k_is); (case l => k_is); (case c => k_is); (case k => k_is)
      (case b => exact fun _ _ _ _ _ _ us hl => match us,hl with | [_],_ => rfl)
    case d_needs_in =>
      refine' L2.def_mk KX G ?a ?l ?c ?k ?b
      (case a => k_is); (case l => k_is); (case c => k_is); (case k => k_is)
      (case b => exact fun _ _ _ _ _ _ us hl => match us,hl with | [_],_ => rfl)
    case d_job_by =>
      refine' L2.def_mk KX G ?a ?l ?c ?k ?b
      (case a => k_is); (case l => k_is); (case c => k_is); (case k => k_is)
      (case b => exact fun _ _ _ _ _ _ us hl => match us,hl with | [_,_,_],_ => rfl)
    case d__law_mixed =>
      refine' L2.def_mk KX G ?a ?l ?c ?k ?b
      (case a => k_is); (case l => k_is); (case c => k_is); (case k => k_is)
      (case b => exact fun _ _ _ _ _ _ us hl => match us,hl with | [_,_],_ => rfl)
    case d__law_kinds =>
      refine' L2.def_mk KX G ?a ?l ?c ?k ?b
      (case a => k_is); (case l => k_is); (case c => k_is); (case k => k_is)
      (case b => exact fun _ _ _ _ _ _ us hl => match us,hl with | [_],_ => rfl)
    case d__law_alone =>
      refine' L2.def_mk KX G ?a ?l ?c ?k ?b
      (case a => k_is); (case l => k_is); (case c => k_is); (case k => k_is)
      (case b => exact fun _ _ _ _ _ _ us hl => match us,hl with | [_,_],_ => rfl)
    case d__law_names =>
      refine' L2.def_mk KX G ?a ?l ?c ?k ?b
      (case a => k_is); (case l => k_is); (case c => k_is); (case k => k_is)
      (case b => exact fun _ _ _ _ _ _ us hl => match us,hl with | [_,_],_ => rfl)
    case d__law_numbers =>
      refine' L2.def_mk KX G ?a ?l ?c ?k ?b
      (case a => k_is); (case l => k_is); (case c => k_is); (case k => k_is)
      (case b => exact fun _ _ _ _ _ _ us hl => match us,hl with | [_],_ => rfl)
    case d__law_told =>
      refine' L2.def_mk KX G ?a ?l ?c ?k ?b
      (case a => k_is); (case l => k_is); (case c => k_is); (case k => k_is)
      (case b => exact fun _ _ _ _ _ _ us hl => match us,hl with | [_,_,_,_],_ => rfl)
    case d__law_word =>
      refine' L2.def_mk KX G ?a ?l ?c ?k ?b
      (case a => k_is); (case l => k_is); (case c => k_is); (case k => k_is)
      (case b => exact fun _ _ _ _ _ _ us hl => match us,hl with | [_],_ => rfl)
    case d__law_bent =>
      refine' L2.def_mk KX G ?a ?l ?c ?k ?b
      (case a => k_is); (case l => k_is); (case c => k_is); (case k => k_is)
      (case b => exact fun _ _ _ _ _ _ us hl => match us,hl with | [_,_],_ => rfl)
    case d__law_is_name =>
      refine' L2.def_mk KX G ?a ?l ?c ?k ?b
      (case a => k_is); (case l => k_is); (case c => k_is); (case k => k_is)
      (case b => exact fun _ _ _ _ _ _ us hl => match us,hl with | [_],_ => rfl)
    case d__law_number =>
      refine' L2.def_mk KX G ?a ?l ?c ?k ?b
      (case a => k_is); (case l => k_is); (case c => k_is); (case k => k_is)
      (case b => exact fun _ _ _ _ _ _ us hl => match us,hl with | [_],_ => rfl)
    case d__law_numbers_read =>
      refine' L2.def_mk KX G ?a ?l ?c ?k ?b
      (case a => k_is); (case l => k_is); (case c => k_is); (case k => k_is)
      (case b => exact fun _ _ _ _ _ _ us hl => match us,hl with | [_],_ => rfl)
    case d__law_needs_read =>
      refine' L2.def_mk KX G ?a ?l ?c ?k ?b
      (case a => k_is); (case l => k_is); (case c => k_is); (case k => k_is)
      (case b => exact fun _ _ _ _ _ _ us hl => match us,hl with | [_,_],_ => rfl)
    case d__law_read =>
      refine' L2.def_mk KX G ?a ?l ?c ?k ?b
      (case a => k_is); (case l => k_is); (case c => k_is); (case k => k_is)
      (case b => exact fun _ _ _ _ _ _ us hl => match us,hl with | [_],_ => rfl)
    case d__law_is =>
      refine' L2.def_mk KX G ?a ?l ?c ?k ?b
      (case a => k_is); (case l => k_is); (case c => k_is); (case k => k_is)
      (case b => exact fun _ _ _ _ _ _ us hl => match us,hl with | [_,_],_ => rfl)
    case d__law_refused =>
      refine' L2.def_mk KX G ?a ?l ?c ?k ?b
      (case a => k_is); (case l => k_is); (case c => k_is); (case k => k_is)
      (case b => exact fun _ _ _ _ _ _ us hl => match us,hl with | [_],_ => rfl)
    case d__law_reads =>
      refine' L2.def_mk KX G ?a ?l ?c ?k ?b
      (case a => k_is); (case l => k_is); (case c => k_is); (case k => k_is)
      (case b => exact fun _ _ _ _ _ _ us hl => match us,hl with | [_],_ => rfl)
    (case lk => k_is)
    (case ll => k_is)
    (case lc => k_is)
    (case lp => k_is)
    (case b_isinstance => k_is)
    (case b_len => k_is)
    (case b_all => k_is)
    (case b_int => k_is)
    (case b_bool => k_is)
    (case b_str => k_is)
    (case b_list => k_is)
    (case b_range => k_is)
    (case b_set => k_is)
    (case b_zip => k_is)
    (case b_tuple => k_is)
    (case b_max => k_is)
    (case b_ValueError => k_is)
    (case g_LETTERS => k_is)
    (case g_MOSTL => k_is)
    (case g_FIGURES => k_is)
    (case g_MOSTF => k_is)
    (case g_MOSTN => k_is)
    (case x_BadName => k_is)
    (case x_BadNeeds => k_is)
    (case x_BadNumber => k_is)
    (case x_BadPlan => k_is)
    (case x_Twice => k_is)
    (case x_NoJob => k_is)
    (case x_Ring => k_is)
    (case x_BadLine => k_is)
    (case x_Busy => k_is)
    (case x_Gone => k_is)
    (case x_BadTerm => k_is)
    (case x_NoAlarm => k_is)
    (case x_BadStep => k_is)
    (case x_BadState => k_is)
    (case x_BadTurn => k_is)
    (case x_BadBuilders => k_is)
    (case x_BadBook => k_is)
    (case x_BadShot => k_is)
    (case x_BadEvent => k_is)
    (case x_HallError => k_is)
    (case exc0 => first | k_is | kernel_rfl)
    (case exm0 => first | k_is | kernel_rfl)
    (case exc1 => first | k_is | kernel_rfl)
    (case exm1 => first | k_is | kernel_rfl)
    (case exc2 => first | k_is | kernel_rfl)
    (case exm2 => first | k_is | kernel_rfl)
    (case ga7 => first | k_is | kernel_rfl)
    (case gh7 => first | k_is | kernel_rfl)
    (case be7 => first | k_is | kernel_rfl)
    (case hd7 => first | k_is | kernel_rfl)
    (case ha7 => first | k_is | kernel_rfl)
    (case hm7 => first | k_is | kernel_rfl)
    (case kt7_0 => first | kernel_rfl | k_is)
    (case kt7_1 => first | kernel_rfl | k_is)
    (case kt7_2 => first | kernel_rfl | k_is)
    (case kt7_3 => first | kernel_rfl | k_is)
    (case kt7_4 => first | kernel_rfl | k_is)
    (case kt7_5 => first | kernel_rfl | k_is)
    (case kt7_6 => first | kernel_rfl | k_is)
    (case kt7_7 => first | kernel_rfl | k_is)
    (case kt7_8 => first | kernel_rfl | k_is)
    (case kt7_9 => first | kernel_rfl | k_is)
    (case kt7_10 => first | kernel_rfl | k_is)
    (case kt7_11 => first | kernel_rfl | k_is)
    (case kt7_12 => first | kernel_rfl | k_is)
    (case kt7_13 => first | kernel_rfl | k_is)
    (case kt7_14 => first | kernel_rfl | k_is)
    (case kt7_15 => first | kernel_rfl | k_is)
    (case kt7_16 => first | kernel_rfl | k_is)
    (case kt7_17 => first | kernel_rfl | k_is)
    (case kt7_18 => first | kernel_rfl | k_is)
    (case kve7 => first | kernel_rfl | k_is)
    (case khe7 => first | kernel_rfl | k_is)
    (case exm7 => first | k_is | kernel_rfl)
    (case xc7 => first | kernel_rfl | k_is)
    (case na7 => first | k_is | kernel_rfl)
    (case sa7 => first | k_is | kernel_rfl)
    (case ov7 => first | kernel_rfl | k_is)
    (case urd => first | k_is | kernel_rfl)
    (case ufc => first | k_is | kernel_rfl)
    (case uga => first | k_is | kernel_rfl)
    case xi7 =>
      refine' K03.xdef_mk ?a ?n ?l ?c ?k ?xc ?kC ?b
      (case a => k_is); (case n => k_is); (case l => k_is); (case c => k_is); (case k => k_is); (case xc => first | kernel_rfl | k_is); (case kC => k_is)
      (case b => exact fun _ _ _ _ _ _ us hl => match us,hl with | [_,_],_ => rfl)
#print axioms PySem.Challenge.cw_buildhall_k03_job_lines_holds
