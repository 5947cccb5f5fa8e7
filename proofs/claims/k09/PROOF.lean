import PyProof.Rows.All
import Wide.All
import OpenK.AllK
import Wide.FinOn
import Lean
import PyProof.EqAt
import PyProof.EqKinds
import PyProof.TupleCall
import PyProof.ExcBaseAll.ValueError
import KE.KDictList
import PyProof.WalkInts
import PyProof.SeqI3
import PyProof.Rows.SetFrom
import PyProof.CompUse
import PyProof.ZipIter
import PyProof.ListRange
import PyProof.Rows.SumAny
import PyProof.Rows.SetObj
import PyProof.SetRoads
import KE.KIsAll
import PyProof.AttrMissSeq
import KE.KDictOf
import PyProof.Rows.SortShell
import PyProof.Rows.SortWalk
import KE.KIsNot
import PyProof.ExcArgs
import PyProof.Seq
import PyProof.Rows.TupIter
import PyProof.RulesAs
import PyProof.DictWalks
import PyProof.Rows.FStr
import KE.KEqDict
import KE.KDictSum
import PySem.Challenge.RW_buildhall_k09_leases_by_deeds
set_option Elab.async false
set_option linter.all false
set_option maxRecDepth 100000
namespace PySem.W.Fast
def tw3925080119614955648 : Unit := ()
def tw11145226515197569184 : Unit := ()
def tw3654907969025158304 : Unit := ()
def tw12946924016210562240 : Unit := ()
def tw14811595563167411392 : Unit := ()
def tw484702609419592992 : Unit := ()
def tw2443079069838051648 : Unit := ()
def tw12429595647992568320 : Unit := ()
def tw9411895196197983808 : Unit := ()
def tw11295227774090033760 : Unit := ()
def tw6751358368842509952 : Unit := ()
def tw11255659848254261952 : Unit := ()
def tw12896590268889420480 : Unit := ()
def tw9801453559123195680 : Unit := ()
def tw9383011732900659104 : Unit := ()
def tw1029920575828169793 : Unit := ()
def tw17754508780759097537 : Unit := ()
def tw10572834254973784289 : Unit := ()
def tw17413762034912667969 : Unit := ()
def tw8510316907743342913 : Unit := ()
def tw4340311897315483105 : Unit := ()
def tw14804739843560234657 : Unit := ()
def tw9321236942792442625 : Unit := ()
def tw1178837494574422849 : Unit := ()
def tw10305561187853344577 : Unit := ()
def tw13448332169064077185 : Unit := ()
def tw11490586673512192034 : Unit := ()
def tw5913372948334559266 : Unit := ()
def tw7824500764493098114 : Unit := ()
def tw5991192198764542082 : Unit := ()
def tw865343572222713026 : Unit := ()
def tw2822151766911054306 : Unit := ()
def tw3440401972416855554 : Unit := ()
def tw10633567694279079490 : Unit := ()
def tw6209712678461348450 : Unit := ()
def tw14979108387295677026 : Unit := ()
def tw3400767825857973890 : Unit := ()
def tw15356626568045216514 : Unit := ()
def tw7051108537017224962 : Unit := ()
def tw5670474548159254306 : Unit := ()
def tw10406718452238538562 : Unit := ()
def tw767024160074881858 : Unit := ()
def tw8917470729356191586 : Unit := ()
def tw8227449635288929122 : Unit := ()
def tw5174093830477112226 : Unit := ()
def tw15833622180283660419 : Unit := ()
def tw1339376621333963907 : Unit := ()
def tw10144447163376323747 : Unit := ()
def tw10634572350038669635 : Unit := ()
def tw9286623953272542563 : Unit := ()
def tw295520699655168451 : Unit := ()
def tw4290118850874192323 : Unit := ()
def tw926831638213111331 : Unit := ()
def tw16639797192571852419 : Unit := ()
def tw2099656312329738915 : Unit := ()
def tw10999571927391702787 : Unit := ()
def tw10766370388778892099 : Unit := ()
def tw9635989762805187491 : Unit := ()
def tw9944154646338419651 : Unit := ()
def tw1630101517045534691 : Unit := ()
def tw12046336647446459460 : Unit := ()
def tw16202270809426613348 : Unit := ()
def tw16760306158917474436 : Unit := ()
def tw18004314996309637316 : Unit := ()
def tw7926335039641410756 : Unit := ()
def tw8429409530834393316 : Unit := ()
def tw16533563755399155044 : Unit := ()
def tw15405167576240163204 : Unit := ()
def tw10782848872957409668 : Unit := ()
def tw365001939440239076 : Unit := ()
def tw17074704445522868708 : Unit := ()
def tw15890060055285863076 : Unit := ()
def tw18005520950321524484 : Unit := ()
def tw97404449904538436 : Unit := ()
def tw15431798225967043428 : Unit := ()
def tw2435271981839571812 : Unit := ()
def tw10013254441407168420 : Unit := ()
def tw16278276027256018916 : Unit := ()
def tw9806142577980435428 : Unit := ()
def tw1010117123048633316 : Unit := ()
def tw11105953916426172453 : Unit := ()
def tw3752490801022195781 : Unit := ()
def tw16209807921693627525 : Unit := ()
def tw16539141703406026981 : Unit := ()
def tw1305306444245680357 : Unit := ()
def tw7259532029986105573 : Unit := ()
def tw16724966954393441541 : Unit := ()
def tw8727787163133328645 : Unit := ()
def tw18178701904810219845 : Unit := ()
def tw15454429202453078341 : Unit := ()
def tw15879847676861490533 : Unit := ()
def tw14353798247513964965 : Unit := ()
def tw12416716121196036549 : Unit := ()
def tw12002872760637243845 : Unit := ()
def tw15611410046511697413 : Unit := ()
def tw16429804857667242565 : Unit := ()
def tw7303360726255925957 : Unit := ()
def tw7540852056326584037 : Unit := ()
def tw17385771848832419685 : Unit := ()
def tw2997837395632874405 : Unit := ()
def tw4981380492006785989 : Unit := ()
def tw15461704318505790470 : Unit := ()
def tw2036413412850583558 : Unit := ()
def tw6910623439840051238 : Unit := ()
def tw3384968286465540166 : Unit := ()
def tw9772550853921669222 : Unit := ()
def tw9517955252084296870 : Unit := ()
def tw3652962286653899014 : Unit := ()
def tw6100559761198737702 : Unit := ()
def tw7467273373909250342 : Unit := ()
def tw8742040695683727686 : Unit := ()
def tw3483389817558756710 : Unit := ()
def tw2718158572469915014 : Unit := ()
def tw12363021832009810374 : Unit := ()
def tw16851561022659267014 : Unit := ()
def tw14507474716730088934 : Unit := ()
def tw3977034841445350950 : Unit := ()
def tw11027890187334866502 : Unit := ()
def tw5174635482990441126 : Unit := ()
def tw16672213924538602374 : Unit := ()
def tw7838608766555936710 : Unit := ()
def tw6662355797082067207 : Unit := ()
def tw2356311549971762471 : Unit := ()
def tw4352783966470867335 : Unit := ()
def tw5179254703300975047 : Unit := ()
def tw8402928767963968999 : Unit := ()
def tw6709740299659932135 : Unit := ()
def tw15815867998175089319 : Unit := ()
def tw17007052822310152903 : Unit := ()
def tw9312833322003348199 : Unit := ()
def tw16828815523843033927 : Unit := ()
def tw14603391964821646247 : Unit := ()
def tw13433213254552523784 : Unit := ()
def tw2487165596062230536 : Unit := ()
def tw2419401176762255400 : Unit := ()
def tw9929753510997448744 : Unit := ()
def tw656107429046791272 : Unit := ()
def tw1915912196453584008 : Unit := ()
def tw2491842668066216104 : Unit := ()
def tw6651310178934980840 : Unit := ()
def tw8982924176962405704 : Unit := ()
def tw1405638283532476776 : Unit := ()
def tw2536251457102807432 : Unit := ()
def tw17106445208176048584 : Unit := ()
def tw12001909580290630152 : Unit := ()
def tw4253631097333032456 : Unit := ()
def tw2031636605652911624 : Unit := ()
def tw4170739664411723304 : Unit := ()
def tw5265417294375055912 : Unit := ()
def tw827561457872180808 : Unit := ()
def tw14413294755745860232 : Unit := ()
def tw386043514969866920 : Unit := ()
def tw15767794015767750344 : Unit := ()
def tw10435673339041077096 : Unit := ()
def tw2533642819492053896 : Unit := ()
def tw10752169112952573832 : Unit := ()
def tw15142046358103506856 : Unit := ()
def tw11446439085127810089 : Unit := ()
def tw13999306032816602185 : Unit := ()
def tw8433774314171131145 : Unit := ()
def tw5984067081609052713 : Unit := ()
def tw10849660997670137385 : Unit := ()
def tw7245246227865186889 : Unit := ()
def tw9484874517833225833 : Unit := ()
def tw9172914530936851145 : Unit := ()
def tw11913443832528111433 : Unit := ()
def tw4009323670109240201 : Unit := ()
def tw8226030011269627881 : Unit := ()
def tw8523527354528582730 : Unit := ()
def tw17496702513969565866 : Unit := ()
def tw15924372736706491562 : Unit := ()
def tw8085219362559849642 : Unit := ()
def tw3576267977265789226 : Unit := ()
def tw8315212621671843114 : Unit := ()
def tw2913947109418442058 : Unit := ()
def tw1963191563410737514 : Unit := ()
def tw10893073755993557578 : Unit := ()
def tw875045151785457226 : Unit := ()
def tw1738651057998868138 : Unit := ()
def tw4483150674029693674 : Unit := ()
def tw5088307220033934122 : Unit := ()
def tw7004645428329747370 : Unit := ()
def tw15929110219052478378 : Unit := ()
def tw5975004281153539115 : Unit := ()
def tw14239870781027823755 : Unit := ()
def tw9878549547111341227 : Unit := ()
def tw11158634775394079979 : Unit := ()
def tw6811688207381403915 : Unit := ()
def tw11063639311265200427 : Unit := ()
def tw8751937925863128395 : Unit := ()
def tw2246187062686792043 : Unit := ()
def tw5414323417420809579 : Unit := ()
def tw11575938195246630315 : Unit := ()
def tw6940742648468434411 : Unit := ()
def tw5359750386725904907 : Unit := ()
def tw4405233396506588683 : Unit := ()
def tw11001137005464826475 : Unit := ()
def tw12621148288167474795 : Unit := ()
def tw9587952913019504299 : Unit := ()
def tw10554897024946314027 : Unit := ()
def tw15053731583739644715 : Unit := ()
def tw11277856402719363947 : Unit := ()
def tw2413040283699156875 : Unit := ()
def tw2615466730823559083 : Unit := ()
def tw6166968933992954859 : Unit := ()
def tw6233346975535019052 : Unit := ()
def tw6323772967940385900 : Unit := ()
def tw8701816547247872140 : Unit := ()
def tw18398342570942350604 : Unit := ()
def tw8868055578726580524 : Unit := ()
def tw14547994672756946220 : Unit := ()
def tw3213957312624513356 : Unit := ()
def tw8387316084122376524 : Unit := ()
def tw6971801770944779724 : Unit := ()
def tw214360082330205676 : Unit := ()
def tw16157494483856061932 : Unit := ()
def tw5730928137039997484 : Unit := ()
def tw5411813529873221228 : Unit := ()
def tw3949400033596931724 : Unit := ()
def tw14431039775028841132 : Unit := ()
def tw8977783626975988428 : Unit := ()
def tw10897069457864789740 : Unit := ()
def tw7193253559414033228 : Unit := ()
def tw12070680777465177964 : Unit := ()
def tw2265638781049932716 : Unit := ()
def tw110690449457132460 : Unit := ()
def tw11280465419722377132 : Unit := ()
def tw2511913353726417965 : Unit := ()
def tw13681512182454917197 : Unit := ()
def tw998089108094494797 : Unit := ()
def tw11620534367688325357 : Unit := ()
def tw18098547199141588269 : Unit := ()
def tw17817355146622598445 : Unit := ()
def tw11815144993712184653 : Unit := ()
def tw8666492308181716365 : Unit := ()
def tw2771924645985799661 : Unit := ()
def tw5471070147257317933 : Unit := ()
def tw11920502759610130029 : Unit := ()
def tw10179553207369518733 : Unit := ()
def tw17185442568330747693 : Unit := ()
def tw10538840585190106957 : Unit := ()
def tw5389148426487883597 : Unit := ()
def tw10914213618286944302 : Unit := ()
def tw9504952021323674670 : Unit := ()
def tw9702573087755402382 : Unit := ()
def tw13685170601238946990 : Unit := ()
def tw9602291853530309934 : Unit := ()
def tw7970430676797477198 : Unit := ()
def tw17202348376454694382 : Unit := ()
def tw8741541577881449966 : Unit := ()
def tw17252886795211701742 : Unit := ()
def tw9357353906634104334 : Unit := ()
def tw14027415640877171246 : Unit := ()
def tw15494657262761006766 : Unit := ()
def tw11195900924470279886 : Unit := ()
def tw7929720962101394318 : Unit := ()
def tw8424438587102228366 : Unit := ()
def tw4766210996138842062 : Unit := ()
def tw8731466964021729262 : Unit := ()
def tw10475539431696752655 : Unit := ()
def tw5969649249589062671 : Unit := ()
def tw4089861849246939183 : Unit := ()
def tw861410172705735791 : Unit := ()
def tw18320908825314227343 : Unit := ()
def tw18324486914816859311 : Unit := ()
def tw16391514279100766415 : Unit := ()
def tw9222594430360067343 : Unit := ()
def tw4634245955189025071 : Unit := ()
def tw3009454554780514607 : Unit := ()
def tw17046057292448306575 : Unit := ()
def tw11572986213618205103 : Unit := ()
def tw15061820750585844175 : Unit := ()
def tw5273795619881794063 : Unit := ()
def tw6214913348551458383 : Unit := ()
def tw10517272711606571599 : Unit := ()
def tw12150322934937702127 : Unit := ()
def tw1041559300611121999 : Unit := ()
def tw11724372181763938191 : Unit := ()
def tw5626606926389289903 : Unit := ()
def tw11864708417054644272 : Unit := ()
def tw6767725028513710224 : Unit := ()
def tw2474642384426383504 : Unit := ()
def tw9373052025041654000 : Unit := ()
def tw2133251779377750480 : Unit := ()
def tw903574131576126960 : Unit := ()
def tw7937339800439980592 : Unit := ()
def tw11232893179562899152 : Unit := ()
def tw2157002492271228656 : Unit := ()
def tw5860257640567588624 : Unit := ()
def tw1693028611019916080 : Unit := ()
def tw13197807280162762608 : Unit := ()
def tw9262209300341799824 : Unit := ()
def tw11480405299765295088 : Unit := ()
def tw17552542682686605329 : Unit := ()
def tw9385640824825738321 : Unit := ()
def tw12877764413745348689 : Unit := ()
def tw17893174482478921873 : Unit := ()
def tw7691452064539070641 : Unit := ()
def tw5937299315062387953 : Unit := ()
def tw11152517285563476337 : Unit := ()
def tw3962352169042947473 : Unit := ()
def tw10194431273711383985 : Unit := ()
def tw11816725097877192113 : Unit := ()
def tw11466324036788505009 : Unit := ()
def tw14346196853964415505 : Unit := ()
def tw10262102097346267729 : Unit := ()
def tw8326340948578289297 : Unit := ()
def tw7192194804227773137 : Unit := ()
def tw13024723555673286449 : Unit := ()
def tw17329932947545503537 : Unit := ()
def tw12336817149257175857 : Unit := ()
def tw15318032130130912113 : Unit := ()
def tw164851975979805617 : Unit := ()
def tw15569150333652356017 : Unit := ()
def tw6789575549511656369 : Unit := ()
def tw1195715539687241713 : Unit := ()
def tw16261959842249653266 : Unit := ()
def tw2582841971771230226 : Unit := ()
def tw4076201670620853362 : Unit := ()
def tw8737949062399428082 : Unit := ()
def tw15106008054180229650 : Unit := ()
def tw5629765990685203154 : Unit := ()
def tw15877665407446189810 : Unit := ()
def tw11638177948867616530 : Unit := ()
def tw16094693282840521586 : Unit := ()
def tw18251089036823057427 : Unit := ()
def tw12394019102688835635 : Unit := ()
def tw18410042313128816723 : Unit := ()
def tw5025492914300943475 : Unit := ()
def tw15188696820732461363 : Unit := ()
def tw3124721788569677107 : Unit := ()
def tw1165894814812679507 : Unit := ()
def tw13417057456582534579 : Unit := ()
def tw12191047913908683251 : Unit := ()
def tw1004938129560984147 : Unit := ()
def tw8928784585767459443 : Unit := ()
def tw9759612233955736339 : Unit := ()
def tw17778866050995338131 : Unit := ()
def tw4127160606816081940 : Unit := ()
def tw12515590963422069844 : Unit := ()
def tw6841701392461103284 : Unit := ()
def tw1350736994986488052 : Unit := ()
def tw15754440986912120148 : Unit := ()
def tw15200582382473765236 : Unit := ()
def tw9067826937825460628 : Unit := ()
def tw10045346528607273396 : Unit := ()
def tw3653449470787438004 : Unit := ()
def tw302306020141964788 : Unit := ()
def tw18079940175315073556 : Unit := ()
def tw15046202564543244852 : Unit := ()
def tw5774790616800748148 : Unit := ()
def tw2038498202858906260 : Unit := ()
def tw5470330765577309908 : Unit := ()
def tw11116151655824893684 : Unit := ()
def tw8370706439145099028 : Unit := ()
def tw17973596299202682676 : Unit := ()
def tw8585331414451776404 : Unit := ()
def tw1190278744258974708 : Unit := ()
def tw7670199978573014004 : Unit := ()
def tw958635880887590933 : Unit := ()
def tw1376905095592280117 : Unit := ()
def tw3200512588065280053 : Unit := ()
def tw17785257894586289237 : Unit := ()
def tw7878800473807208565 : Unit := ()
def tw13077416154870871189 : Unit := ()
def tw8782250824257250485 : Unit := ()
def tw17647408451347942613 : Unit := ()
def tw17969359548676522389 : Unit := ()
def tw14764099280942581237 : Unit := ()
def tw13372375954225645077 : Unit := ()
def tw14464199667623516693 : Unit := ()
def tw2507331380727407125 : Unit := ()
def tw5947652193897142837 : Unit := ()
def tw15083070053789642389 : Unit := ()
def tw42479736380516021 : Unit := ()
def tw18253979160069380821 : Unit := ()
def tw4308700097359845141 : Unit := ()
def tw1261326059110475605 : Unit := ()
def tw8894168499430174581 : Unit := ()
def tw3833425317858603893 : Unit := ()
def tw11216992364445117462 : Unit := ()
def tw16707961867476319318 : Unit := ()
def tw4452045679171173494 : Unit := ()
def tw17337465745903193238 : Unit := ()
def tw13869046827330403478 : Unit := ()
def tw7008148305810909366 : Unit := ()
def tw15690253143636699318 : Unit := ()
def tw14237473250091619702 : Unit := ()
def tw846024592845841814 : Unit := ()
def tw15069822043511472662 : Unit := ()
def tw14833757327486006934 : Unit := ()
def tw13302727898859596470 : Unit := ()
def tw5266205636075797270 : Unit := ()
def tw5933560448087396182 : Unit := ()
def tw7600074363309139830 : Unit := ()
def tw9041319123665904502 : Unit := ()
def tw14287859687450267703 : Unit := ()
def tw2661954806564135191 : Unit := ()
def tw17960986370260227415 : Unit := ()
def tw4670902153786651063 : Unit := ()
def tw13023978988746926583 : Unit := ()
def tw6810329838405327543 : Unit := ()
def tw5013891179262088951 : Unit := ()
def tw18276354429345727319 : Unit := ()
def tw11143486036301083479 : Unit := ()
def tw3845775615921923959 : Unit := ()
def tw8499512197031646167 : Unit := ()
def tw1299250030886950936 : Unit := ()
def tw3955949873791605784 : Unit := ()
def tw13047738201075257400 : Unit := ()
def tw4060316917114021976 : Unit := ()
def tw17649102766853343448 : Unit := ()
def tw6363309707454285080 : Unit := ()
def tw2665770127871378744 : Unit := ()
def tw12865787926145646936 : Unit := ()
def tw16629275507496551992 : Unit := ()
def tw4961776801489488440 : Unit := ()
def tw9826544498852484664 : Unit := ()
def tw6741867873237903992 : Unit := ()
def tw17708989410079967928 : Unit := ()
def tw15313812927826177752 : Unit := ()
def tw13341654803291711416 : Unit := ()
def tw13817685265614122968 : Unit := ()
def tw12287406241465414616 : Unit := ()
def tw12259538702560388056 : Unit := ()
def tw14161216912006294520 : Unit := ()
def tw3974858919102284825 : Unit := ()
def tw12443042678444975129 : Unit := ()
def tw5919547981683576953 : Unit := ()
def tw12323793573613420121 : Unit := ()
def tw3899869450241570425 : Unit := ()
def tw2456440084947410585 : Unit := ()
def tw4223787467156385433 : Unit := ()
def tw17959727913655630521 : Unit := ()
def tw18038060542487940825 : Unit := ()
def tw13895915738023392985 : Unit := ()
def tw16008937581816220409 : Unit := ()
def tw16175824183142147865 : Unit := ()
def tw215635000392487737 : Unit := ()
def tw2571039909088874329 : Unit := ()
def tw5628240515423832122 : Unit := ()
def tw16693176901637323834 : Unit := ()
def tw8064579536793531482 : Unit := ()
def tw13500061368223230138 : Unit := ()
def tw7345275616889225498 : Unit := ()
def tw12216143635127702842 : Unit := ()
def tw10739921493715199290 : Unit := ()
def tw15943514898874257786 : Unit := ()
def tw2712035335578908026 : Unit := ()
def tw2204157925683728826 : Unit := ()
def tw6987656648122410554 : Unit := ()
def tw1385614624532707898 : Unit := ()
def tw4793846445980759674 : Unit := ()
def tw4453712494991731354 : Unit := ()
def tw6232824866562575226 : Unit := ()
def tw4137790137312971674 : Unit := ()
def tw11644652394264084410 : Unit := ()
def tw8768241701191916571 : Unit := ()
def tw17890570741370177659 : Unit := ()
def tw9501331714775637179 : Unit := ()
def tw3790137356020963547 : Unit := ()
def tw7519501043809037595 : Unit := ()
def tw13714232100005012891 : Unit := ()
def tw14064352251984653883 : Unit := ()
def tw3703733632695552667 : Unit := ()
def tw14352543667144805019 : Unit := ()
def tw16326911876517572283 : Unit := ()
def tw16783507142305000155 : Unit := ()
def tw3851815509552098107 : Unit := ()
def tw517618658125368155 : Unit := ()
def tw7702797773004365691 : Unit := ()
def tw1564954019602817915 : Unit := ()
def tw8901323774233122715 : Unit := ()
def tw17373221664550329243 : Unit := ()
def tw5439898866756331515 : Unit := ()
def tw10955919482949362748 : Unit := ()
def tw13971563366616248412 : Unit := ()
def tw6328180058913333468 : Unit := ()
def tw13763850318157038844 : Unit := ()
def tw15359022060788970748 : Unit := ()
def tw1610985497564970300 : Unit := ()
def tw15807153686246185340 : Unit := ()
def tw7121967463849870812 : Unit := ()
def tw4376892409847704028 : Unit := ()
def tw11297497855660345852 : Unit := ()
def tw13059558589801130492 : Unit := ()
def tw10712915993406893660 : Unit := ()
def tw189150000622977660 : Unit := ()
def tw14243123814343605916 : Unit := ()
def tw1173874077867007708 : Unit := ()
def tw16920291385405153020 : Unit := ()
def tw13218374489359623996 : Unit := ()
def tw17938206363235703612 : Unit := ()
def tw4435239259511567292 : Unit := ()
def tw14984229324049653756 : Unit := ()
def tw2748839779571148796 : Unit := ()
def tw7717800942490113053 : Unit := ()
def tw7344128110130800765 : Unit := ()
def tw8476072081084474493 : Unit := ()
def tw6081320044476892317 : Unit := ()
def tw4703584330161053885 : Unit := ()
def tw8188891533786451229 : Unit := ()
def tw4470500649875606813 : Unit := ()
def tw447764847528911133 : Unit := ()
def tw9418035359262972221 : Unit := ()
def tw11268701406274392477 : Unit := ()
def tw13424067079864818077 : Unit := ()
def tw4986056199096606109 : Unit := ()
def tw6343328997372511677 : Unit := ()
def tw4593770906968707517 : Unit := ()
def tw8286928462110644669 : Unit := ()
def tw478689335321988605 : Unit := ()
def tw11042496797963785725 : Unit := ()
def tw12622248559204654621 : Unit := ()
def tw4763048913299909245 : Unit := ()
def tw8719739131355836061 : Unit := ()
def tw12247257703108400797 : Unit := ()
def tw16261001078402944733 : Unit := ()
def tw13610879094125861597 : Unit := ()
def tw4504563800774376157 : Unit := ()
def tw5659573207781085949 : Unit := ()
def tw13364741916337451773 : Unit := ()
def tw5189179765855634205 : Unit := ()
def tw12348329756978871133 : Unit := ()
def tw14510968067903373245 : Unit := ()
def tw6847161406846416926 : Unit := ()
def tw9484045555072304222 : Unit := ()
def tw1409786746497204382 : Unit := ()
def tw2810773152225710238 : Unit := ()
def tw14950934471382146366 : Unit := ()
def tw9315472820416751038 : Unit := ()
def tw6097166811230192062 : Unit := ()
def tw6832388692156885470 : Unit := ()
def tw16587507045004781214 : Unit := ()
def tw16209649260824204158 : Unit := ()
def tw3548274476437984158 : Unit := ()
def tw18301947873406275550 : Unit := ()
def tw3920985821024538622 : Unit := ()
def tw6944281656794620031 : Unit := ()
def tw3112209036273105183 : Unit := ()
def tw3950427993579576607 : Unit := ()
def tw14741121947514072351 : Unit := ()
def tw6953927361691884863 : Unit := ()
def tw17328976553370783167 : Unit := ()
def tw16108992269211275711 : Unit := ()
def tw14485190869079678495 : Unit := ()
def tw16554089907609908895 : Unit := ()
def tw341688972329836255 : Unit := ()
def tw10523284753629736703 : Unit := ()
def tw7214825082145326911 : Unit := ()
def tw13347108978131534751 : Unit := ()
end PySem.W.Fast
set_option Elab.async false
set_option linter.all false
set_option maxRecDepth 100000
/-! THE HAND LAYER, for ints, bools, texts, own classes, LISTS and tuples (index, slices, in, append, pop ..), calls, loops. Paste it whole ahead of your own text; what your proof does not reach may be deleted. -/
namespace L2
open PySem PySem.Spec PyProof.Rows

/-- a key: an int or a str -/
abbrev Key := Sum Int Str
def keyIs : Key → Value → Bool
  | .inl k, v => Value.isInt k v
  | .inr x, v => Value.isStrOf x v
def keyH (w : World) : Key → Int
  | .inl k => hashInt k
  | .inr x => hashStr w x
theorem keyIs_shape : ∀ {k : Key} {v : Value}, keyIs k v = true → (∃ i t, k = Sum.inl i ∧ v = Value.int i t) ∨ (∃ x t, k = Sum.inr x ∧ v = Value.str x t)
  | .inl i, v, h => by
    obtain ⟨t, e⟩ := Value.isInt_shape (k := i) (v := v) h
    exact .inl ⟨i, t, rfl, e⟩
  | .inr x, v, h => by
    obtain ⟨t, e⟩ := Value.isStrOf_shape (x := x) (v := v) h
    exact .inr ⟨x, t, rfl, e⟩
theorem keyIs_int (i : Int) (t : Tok) : keyIs (.inl i) (.int i t) = true := by simp [keyIs, Value.isInt]
theorem keyIs_str (x : Str) (t : Tok) : keyIs (.inr x) (.str x t) = true := by simp [keyIs, Value.isStrOf]
theorem key_ll (a b : Int) : decide ((Sum.inl a : Key) = Sum.inl b) = (a == b) := by
  by_cases e : a = b
  · subst e; simp
  · have h : ¬ (Sum.inl a : Key) = Sum.inl b := fun q => e (Sum.inl.inj q)
    rw [decide_eq_false h]
    exact (beq_eq_false_iff_ne.mpr e).symm
theorem key_rr (a b : Str) : decide ((Sum.inr a : Key) = Sum.inr b) = decide (a = b) := by
  by_cases e : a = b
  · subst e; simp
  · have h : ¬ (Sum.inr a : Key) = Sum.inr b := fun q => e (Sum.inr.inj q)
    rw [decide_eq_false h, decide_eq_false e]
theorem key_lr (a : Int) (b : Str) : decide ((Sum.inl a : Key) = Sum.inr b) = false := decide_eq_false (fun q => nomatch q)
theorem key_rl (a : Str) (b : Int) : decide ((Sum.inr a : Key) = Sum.inl b) = false := decide_eq_false (fun q => nomatch q)

def mixKind (prog : Program) (w : World) : PySem.KeyKind prog w Key where
  is := keyIs
  hash := keyH w
  inj := fun v a b ha hb => by
    rcases keyIs_shape ha with ⟨i, t, rfl, rfl⟩ | ⟨x, t, rfl, rfl⟩
    · rcases keyIs_shape hb with ⟨j, u, rfl, e⟩ | ⟨y, u, rfl, e⟩
      · injection e with e1 _; rw [e1]
      · exact nomatch e
    · rcases keyIs_shape hb with ⟨j, u, rfl, e⟩ | ⟨y, u, rfl, e⟩
      · exact nomatch e
      · injection e with e1 _; rw [e1]
  byValue := fun k v h => by
    rcases keyIs_shape h with ⟨i, t, rfl, rfl⟩ | ⟨x, t, rfl, rfl⟩ <;> rfl
  pyHash := fun hv h => by
    rcases keyIs_shape hv with ⟨i, t, rfl, rfl⟩ | ⟨x, t, rfl, rfl⟩
    · exact wpAny_pyHash_int h
    · exact wpAny_pyHash_str h
  eqBool := fun hu hv h => by
    rcases keyIs_shape hu with ⟨i, t, rfl, rfl⟩ | ⟨x, t, rfl, rfl⟩
    · rcases keyIs_shape hv with ⟨j, u, rfl, rfl⟩ | ⟨y, u, rfl, rfl⟩
      · rw [key_ll] at h; exact wpAny_eqBool_int h
      · rw [key_lr] at h; exact SeqAt.EqAt.int_str i t y u _ _ _ _ h
    · rcases keyIs_shape hv with ⟨j, u, rfl, rfl⟩ | ⟨y, u, rfl, rfl⟩
      · rw [key_rl] at h; exact SeqAt.EqAt.str_int x t j u _ _ _ _ h
      · rw [key_rr] at h; exact wpAny_eqBool_str h
  «strs» := fun k x t v h => by
    rcases keyIs_shape h with ⟨i, u, rfl, e⟩ | ⟨y, u, rfl, e⟩
    · exact nomatch e
    · injection e with e1 _
      subst e1
      cases v <;> rfl

theorem mixKind_int (prog : Program) (w : World) (i : Int) (t : Tok) : (mixKind prog w).is (.inl i) (.int i t) = true := keyIs_int i t
theorem mixKind_str (prog : Program) (w : World) (x : Str) (t : Tok) : (mixKind prog w).is (.inr x) (.str x t) = true := keyIs_str x t
end L2

namespace L2
open PySem PySem.Spec PyProof.Rows

/-- a value, without the heap -/
inductive V where
  | non | bl (b : Bool) | int (i : Int) | str (x : Str) | byt (b : Array UInt8) | flt (b : UInt64) | ref (a : Addr) | ty (n : String)
  deriving DecidableEq

def RelV : V → Value → Prop
  | .non, u => u = Value.none
  | .bl b, u => u = Value.bool b
  | .int i, u => ∃ t, u = Value.int i t
  | .str x, u => ∃ t, u = Value.str x t
  | .byt b, u => ∃ t, u = Value.bytes b t
  | .flt b, u => ∃ t, u = Value.float b t
  | .ref a, u => u = Value.ref a
  | .ty n, u => u = Value.type n

abbrev Vals : List V → List Value → Prop := Paired RelV
theorem Vals.length {xs : List V} {us : List Value} (r : Vals xs us) : xs.length = us.length := Paired.length r
theorem Vals.get : ∀ {xs : List V} {us : List Value} {i : Nat} {x : V}, Vals xs us → xs[i]? = some x → ∃ u, us[i]? = some u ∧ RelV x u
  | _, _, _, _, .nil, e => by simp at e
  | _, _, 0, _, .cons r _, e => by simp at e; subst e; exact ⟨_, rfl, r⟩
  | _, _, i + 1, x, .cons _ t, e => by
    obtain ⟨u, h1, h2⟩ := Vals.get (i := i) (x := x) t (by simpa using e)
    exact ⟨u, by simpa using h1, h2⟩
theorem Vals.set {x : V} {u : Value} (r : RelV x u) : ∀ {xs : List V} {us : List Value} (i : Nat), Vals xs us → Vals (xs.set i x) (us.set i u)
  | _, _, _, .nil => .nil
  | _, _, 0, .cons _ t => .cons r t
  | _, _, i + 1, .cons q t => .cons q (Vals.set r i t)
theorem Vals.append : ∀ {xs ys : List V} {us ws : List Value}, Vals xs us → Vals ys ws → Vals (xs ++ ys) (us ++ ws)
  | _, _, _, _, .nil, s => s
  | _, _, _, _, .cons r t, s => .cons r (Vals.append t s)
theorem Vals.take : ∀ {xs : List V} {us : List Value} (n : Nat), Vals xs us → Vals (xs.take n) (us.take n)
  | _, _, 0, _ => .nil
  | _, _, _ + 1, .nil => .nil
  | _, _, n + 1, .cons r t => .cons r (Vals.take n t)
theorem Vals.drop : ∀ {xs : List V} {us : List Value} (n : Nat), Vals xs us → Vals (xs.drop n) (us.drop n)
  | _, _, 0, r => r
  | _, _, _ + 1, .nil => .nil
  | _, _, n + 1, .cons _ t => Vals.drop n t

def RelO : Option V → Option Value → Prop
  | some v, some u => RelV v u
  | none, none => True
  | _, _ => False
def KV {κ : Type} : List (κ × V) → List (κ × Value) → Prop := Paired fun (p : κ × V) (q : κ × Value) => p.1 = q.1 ∧ RelV p.2 q.2

/-- a key of a dict (00_mix): an int or a text -/
def kV : Key → V
  | .inl i => .int i
  | .inr x => .str x

/-- what stands at a tracked address -/
inductive HO where
  /-- a list -/
  | lst (xs : List V)
  /-- a tuple (never changes) -/
  | tup (xs : List V)
  /-- a dict whose keys are ints and texts; one whose keys are tuples of ints and texts (the empty one is both) -/
  | dK (kvs : List (Key × V)) | dT (kvs : List (List Key × V))
  /-- a set of ints: its members, its size -/
  | set (S : Int → Bool) (n : Nat)
  /-- an instance of the class at C, its dict at dx, its attributes -/
  | ins (C dx : Addr) (fs : List (Str × V))
  /-- the dict of the instance at x -/
  | own (x : Addr)
  /-- the dict of an exception -/
  | xd (fs : List (Str × V))
  /-- a bound method, f of x -/
  | met (f x : Addr)
  /-- a range object lo, lo + 1, .. below hi -/
  | rng (lo hi : Int)
  /-- a thing that is known to the object (the script; a dict while a loop walks it): read, never written while it is so -/
  | frz (o : Obj) (u : HO)
  /-- a code object's table -/
  | tbl (ps : Array Value)
  /-- any other thing, by what is true of its one object (a def of one's own: SetO a S n := HO.ext fun h => ..) -/
  | ext (φ : Heap → Prop)

abbrev Hp := Addr → Option HO
def upd (H : Hp) (a : Addr) (o : HO) : Hp := fun b => if b = a then some o else H b
theorem upd_same {H : Hp} {a : Addr} {o : HO} : upd H a o a = some o := by unfold upd; rw [if_pos rfl]
theorem upd_ne {H : Hp} {a b : Addr} {o : HO} (h : b ≠ a) : upd H a o b = H b := by unfold upd; rw [if_neg h]
/-- two objects of different content stand apart -/
theorem ne_of {H : Hp} {a b : Addr} {o u : HO} (h : H a = some o) (h' : H b = some u) (d : o ≠ u) : a ≠ b := by
  intro e; subst e; rw [h] at h'; exact d (Option.some.inj h')
theorem ne_of_none {H : Hp} {a b : Addr} {o : HO} (h : H a = some o) (h' : H b = none) : a ≠ b := by
  intro e; subst e; rw [h] at h'; cases h'

section
variable (P : Program) (w : World)
def ObjOk (H : Hp) (h : Heap) (a : Addr) : HO → Prop
  | .lst xs => xs.length ≤ sizeLine ∧ ∃ (its : List Value) (n : Nat), Vals xs its ∧ h.get? a = some { cls := .type "list", data := .seq its.toArray n }
  | .tup xs => xs.length ≤ sizeLine ∧ ∃ its : List Value, Vals xs its ∧ IsTup h a its.toArray
  | .dK kvs => kvs.length ≤ sizeLine ∧ (a == sysModules) = false ∧ ∃ vs, KV kvs vs ∧ h.DictOf (mixKind P w) a vs
  | .dT kvs => kvs.length ≤ sizeLine ∧ (a == sysModules) = false ∧ ∃ xs : List (List Key × Addr × Value),
      Paired (fun (p : List Key × V) (q : List Key × Addr × Value) => p.1 = q.1 ∧ H q.2.1 = some (.tup (p.1.map kV)) ∧ RelV p.2 q.2.2) kvs xs ∧
      ∃ o es ep, h.get? a = some o ∧ o.ExactDict ∧ o.data = .dict es ep ∧ es.toList = xs.map (entryOfKey (tupleKind (mixKind P w))) ∧ (xs.map (·.1)).Nodup
  | .set S n => h.SetOf (intKind P w) a S n
  | .ins C dx fs => H dx = some (.own a) ∧ fs.length ≤ 1000 ∧ dx ≠ a ∧ h.get? a = some (PySem.W.instObj C dx) ∧
      ∃ mA, h.Ns1 dx mA ∧ (∀ f, RelO (fs.lookup f) (mA f)) ∧ PySem.Within mA (fs.map (·.1))
  | .own _ => ∃ o, h.get? a = some o
  | .xd fs => ∃ mA, h.Ns1 a mA ∧ ∀ f, RelO (fs.lookup f) (mA f)
  | .rng lo hi => ∃ t u v, h.get? a = some { cls := .type "range", data := .fields #[.int lo t, .int hi u, .int 1 v] }
  | .frz o u => h.get? a = some o ∧ ObjOk H h a u
  | .tbl ps => h.get? a = some { cls := .none, data := .fields ps }
  | .met f x => h.get? a = some (PySem.W.methodObj (.ref f) (.ref x))
  | .ext φ => φ h ∧ (∃ o, h.get? a = some o) ∧ ∀ h1 h2 : Heap, φ h1 → (∀ o, h1.get? a = some o → h2.get? a = some o) → φ h2
/-- the abstract heap is held -/
def HOk (H : Hp) (h : Heap) : Prop := ∀ a o, H a = some o → ObjOk P w H h a o
end

section
variable {P : Program} {w : World} {H H' : Hp} {h h' : Heap} {a : Addr} {o : HO}
theorem ObjOk.lt (x : ObjOk P w H h a o) : a < h.objs.size := by
  cases o with
  | lst xs => obtain ⟨_, _, _, _, e⟩ := x; exact Heap.lt_size e
  | tup xs => obtain ⟨_, _, _, p⟩ := x; exact p.lt
  | dK kvs => obtain ⟨_, _, _, _, o, _, _, e, _⟩ := x; exact Heap.lt_size e
  | dT kvs => obtain ⟨_, _, _, _, o, _, _, e, _⟩ := x; exact Heap.lt_size e
  | set S n => obtain ⟨o, _, _, _, e, _⟩ := x; exact Heap.lt_size e
  | ins C dx fs => obtain ⟨_, _, _, e, _⟩ := x; exact Heap.lt_size e
  | own y => obtain ⟨_, e⟩ := x; exact Heap.lt_size e
  | xd fs => obtain ⟨_, ⟨_, _, _, e, _⟩, _⟩ := x; exact Heap.lt_size e
  | rng lo hi => obtain ⟨_, _, _, e⟩ := x; exact Heap.lt_size e
  | frz ob u => obtain ⟨e, _⟩ := x; exact Heap.lt_size e
  | tbl ps => exact Heap.lt_size (show h.get? a = some _ from x)
  | met f y => exact Heap.lt_size (show h.get? a = some _ from x)
  | ext φ => obtain ⟨_, ⟨_, e⟩, _⟩ := x; exact Heap.lt_size e
theorem Paired.mapP {α β : Type} {F G : α → β → Prop} : ∀ {l₁ : List α} {l₂ : List β}, Paired F l₁ l₂ → (∀ a b, F a b → G a b) → Paired G l₁ l₂
  | _, _, .nil, _ => .nil
  | _, _, .cons r t, f => .cons (f _ _ r) (Paired.mapP t f)
/-- what an object's description leans on: its own object, its own dict, the tuples -/
theorem ObjOk.stay (x : ObjOk P w H h a o) (k : ∀ b u, (b = a ∨ H b = some (.own a)) → h.get? b = some u → h'.get? b = some u)
    (ho : ∀ b, H b = some (.own a) → H' b = some (.own a)) (ht : ∀ b xs, H b = some (.tup xs) → H' b = some (.tup xs)) : ObjOk P w H' h' a o := by
  induction o with
  | lst xs => obtain ⟨z, its, n, r, e⟩ := x; exact ⟨z, its, n, r, k _ _ (.inl rfl) e⟩
  | tup xs => obtain ⟨z, its, r, ob, e, c⟩ := x; exact ⟨z, its, r, ob, k _ _ (.inl rfl) e, c⟩
  | dK kvs => obtain ⟨z, y, vs, r, ob, es, ep, e, c⟩ := x; exact ⟨z, y, vs, r, ob, es, ep, k _ _ (.inl rfl) e, c⟩
  | dT kvs =>
    obtain ⟨z, y, xs, r, ob, es, ep, e, c⟩ := x
    exact ⟨z, y, xs, Paired.mapP r fun p q z => ⟨z.1, ht _ _ z.2.1, z.2.2⟩, ob, es, ep, k _ _ (.inl rfl) e, c⟩
  | set S n => obtain ⟨ob, es, ep, t, e, c⟩ := x; exact ⟨ob, es, ep, t, k _ _ (.inl rfl) e, c⟩
  | ins C dx fs =>
    obtain ⟨d, z, ne, e, mA, ⟨od, es, ep, e2, c⟩, r⟩ := x
    exact ⟨ho _ d, z, ne, k _ _ (.inl rfl) e, mA, ⟨od, es, ep, k _ _ (.inr d) e2, c⟩, r⟩
  | own y => obtain ⟨ob, e⟩ := x; exact ⟨ob, k _ _ (.inl rfl) e⟩
  | xd fs => obtain ⟨mA, ⟨od, es, ep, e, c⟩, r⟩ := x; exact ⟨mA, ⟨od, es, ep, k _ _ (.inl rfl) e, c⟩, r⟩
  | rng lo hi => obtain ⟨t, u, v, e⟩ := x; exact ⟨t, u, v, k _ _ (.inl rfl) e⟩
  | frz ob u ih => obtain ⟨e, q⟩ := x; exact ⟨k _ _ (.inl rfl) e, ih q⟩
  | tbl ps =>
    have e : h.get? a = some { cls := .none, data := .fields ps } := x
    show h'.get? a = some { cls := .none, data := .fields ps }
    exact k a _ (.inl rfl) e
  | met f y =>
    have e : h.get? a = some (PySem.W.methodObj (.ref f) (.ref y)) := x
    show h'.get? a = some (PySem.W.methodObj (.ref f) (.ref y))
    exact k a _ (.inl rfl) e
  | ext φ => obtain ⟨p, ⟨o, e⟩, st⟩ := x; exact ⟨st _ _ p fun o q => k _ _ (.inl rfl) q, ⟨o, k _ _ (.inl rfl) e⟩, st⟩
theorem HOk.lt (x : HOk P w H h) (e : H a = some o) : a < h.objs.size := (x a o e).lt
theorem HOk.fresh (x : HOk P w H h) (e : h.objs.size ≤ a) : H a = none := by
  cases q : H a with
  | none => rfl
  | some u => exact absurd (Nat.lt_of_lt_of_le (x.lt q) e) (Nat.lt_irrefl _)
/-- every object of the heap is kept -/
theorem HOk.kept (x : HOk P w H h) (k : ∀ b u, h.get? b = some u → h'.get? b = some u) : HOk P w H h' := fun a o e =>
  (x a o e).stay (fun b u _ q => k b u q) (fun _ q => q) fun _ _ q => q
/-- a new object is laid and tracked -/
theorem HOk.laid (x : HOk P w H h) (k : ∀ b u, h.get? b = some u → h'.get? b = some u) (hp : h.objs.size ≤ a) (new : ObjOk P w (upd H a o) h' a o) : HOk P w (upd H a o) h' := fun b u e => by
  have hn := x.fresh hp
  by_cases hb : b = a
  · subst hb; rw [upd_same] at e; cases e; exact new
  · rw [upd_ne hb] at e
    exact (x b u e).stay (fun c v _ q => k c v q) (fun c q => by rw [upd_ne (ne_of_none q hn)]; exact q) fun c xs q => by rw [upd_ne (ne_of_none q hn)]; exact q
end

/-- what may be read as u: it is u, or a known u -/
def Rd (H : Hp) (a : Addr) (u : HO) : Prop := H a = some u ∨ ∃ o, H a = some (.frz o u)
theorem Rd.ok {P : Program} {w : World} {H : Hp} {h : Heap} {a : Addr} {u : HO} (r : Rd H a u) (x : HOk P w H h) : ObjOk P w H h a u := by
  rcases r with r | ⟨o, r⟩
  · exact x a u r
  · obtain ⟨_, q⟩ := x a _ r
    exact q
/-- what may be written -/
def Mut : Option HO → Prop
  | some (.lst _) => True
  | some (.dK _) => True
  | some (.dT _) => True
  | some (.set _ _) => True
  | some (.ins _ _ _) => True
  | some (.ext _) => True
  | _ => False
section
variable {P : Program} {w : World} {H : Hp} {h h' : Heap} {x e : Addr} {o' : HO}
/-- the object at e is changed: x itself, or the dict of the instance x -/
theorem HOk.write (ok : HOk P w H h) (mu : Mut (H x)) (he : e = x ∨ H e = some (.own x)) (k : ∀ b u, b ≠ e → h.get? b = some u → h'.get? b = some u) (heo : ∃ u, h'.get? e = some u)
    (new : ObjOk P w (upd H x o') h' x o') : HOk P w (upd H x o') h' := fun b u q => by
  have nown : ∀ c y, H c = some (.own y) → c ≠ x := fun c y r z => by subst z; rw [r] at mu; exact mu
  have ntup : ∀ c xs, H c = some (.tup xs) → c ≠ x := fun c xs r z => by subst z; rw [r] at mu; exact mu
  by_cases hb : b = x
  · subst hb; rw [upd_same] at q; cases q; exact new
  · rw [upd_ne hb] at q
    by_cases hbe : b = e
    · have q' : H b = some (.own x) := by
        rcases he with z | z
        · exact absurd (hbe.trans z) hb
        · rw [hbe]; exact z
      rw [q] at q'; cases q'
      obtain ⟨v, hv⟩ := heo
      exact ⟨v, by rw [hbe]; exact hv⟩
    · refine (ok b u q).stay (fun c v hc r => k c v ?_ r) (fun c r => by rw [upd_ne (nown c b r)]; exact r) fun c xs r => by rw [upd_ne (ntup c xs r)]; exact r
      rcases hc with rfl | hc
      · exact hbe
      · rintro rfl
        rcases he with z | z
        · exact nown c b hc z
        · rw [hc] at z; cases z; exact hb rfl
end

/-! ### kept unless tracked; of the frames at fs (the callers') the slots may change (an exception that passes writes there); of the records at ex (iterators) nothing is said -/
structure Un (fs ex : List Addr) (H H' : Hp) (h h' : Heap) : Prop where
  keep : ∀ b o, h.get? b = some o → H b = none → b ∉ fs → b ∉ ex → h'.get? b = some o
  slot : ∀ b o, h.get? b = some o → H b = none → b ∈ fs → b ∉ ex → ∃ sl, h'.get? b = some { o with slots := sl }
  free : ∀ b o, h.get? b = some o → H b = none → b ∉ ex → H' b = none
  there : ∀ b o, h.get? b = some o → b ∉ ex → ∃ o', h'.get? b = some o'
  tups : ∀ b xs, H b = some (.tup xs) → H' b = some (.tup xs)
  frzs : ∀ b o u, H b = some (.frz o u) → H' b = some (.frz o u)
  tbls : ∀ b ps, H b = some (.tbl ps) → ∃ more, H' b = some (.tbl (ps ++ more))
section
variable {fs fs' ex ex' : List Addr} {H H1 H2 : Hp} {h h1 h2 h' : Heap} {a x e : Addr} {o : HO}
theorem Un.any (u : Un fs ex H H1 h h1) {b : Addr} {ob : Obj} (q : h.get? b = some ob) (n : H b = none) (hx : b ∉ ex) : ∃ sl, h1.get? b = some { ob with slots := sl } := by
  by_cases hb : b ∈ fs
  · exact u.slot b ob q n hb hx
  · exact ⟨ob.slots, u.keep b ob q n hb hx⟩
theorem Un.kept (k : ∀ b u, h.get? b = some u → h'.get? b = some u) : Un fs ex H H h h' :=
  ⟨fun b ob q _ _ _ => k b ob q, fun b ob q _ _ _ => ⟨ob.slots, k b ob q⟩, fun _ _ _ n _ => n, fun b ob q _ => ⟨ob, k b ob q⟩, fun _ _ q => q, fun _ _ _ q => q, fun _ ps q => ⟨#[], by rw [q]; simp⟩⟩
theorem Un.refl : Un fs ex H H h h := Un.kept fun _ _ q => q
theorem Un.laid (k : ∀ b u, h.get? b = some u → h'.get? b = some u) (hp : h.objs.size ≤ a) (hn : H a = none) : Un fs ex H (upd H a o) h h' where
  keep := fun b u q _ _ _ => k b u q
  slot := fun b u q _ _ _ => ⟨u.slots, k b u q⟩
  free := fun b u q n _ => by rw [upd_ne (Nat.ne_of_lt (Nat.lt_of_lt_of_le (Heap.lt_size q) hp))]; exact n
  there := fun b u q _ => ⟨u, k b u q⟩
  tups := fun b xs q => by rw [upd_ne (ne_of_none q hn)]; exact q
  frzs := fun b u xs q => by rw [upd_ne (ne_of_none q hn)]; exact q
  tbls := fun b ps q => ⟨#[], by rw [upd_ne (ne_of_none q hn), q]; simp⟩
theorem Un.write (mu : Mut (H x)) (he : e = x ∨ H e = some (.own x)) (k : ∀ b u, b ≠ e → h.get? b = some u → h'.get? b = some u) (heo : ∃ u, h'.get? e = some u) : Un fs ex H (upd H x o) h h' := by
  have hx : ∀ b, H b = none → b ≠ x := fun b n z => by subst z; rw [n] at mu; exact mu
  have hb : ∀ b, H b = none → b ≠ e := fun b n z => by
    subst z
    rcases he with r | r
    · exact hx b n r
    · rw [n] at r; cases r
  have hm : ∀ b u, H b = some u → ¬ Mut (some u) → b ≠ x := fun b u q nm z => by subst z; rw [q] at mu; exact nm mu
  refine ⟨fun b u q n _ _ => k b u (hb b n) q, fun b u q n _ _ => ⟨u.slots, k b u (hb b n) q⟩, fun b u q n _ => by rw [upd_ne (hx b n)]; exact n, fun b u q _ => ?_,
    fun b xs q => by rw [upd_ne (hm b _ q fun z => z)]; exact q, fun b u xs q => by rw [upd_ne (hm b _ q fun z => z)]; exact q, fun b ps q => ⟨#[], by rw [upd_ne (hm b _ q fun z => z), q]; simp⟩⟩
  by_cases hbe : b = e
  · subst hbe; exact heo
  · exact ⟨u, k b u hbe q⟩
end

/-! ### the heap without what is tracked -/
def trk (h : Heap) (H : Hp) : List Addr := (List.range h.objs.size).filter fun a => (H a).isSome
def hidT (h : Heap) (H : Hp) : Heap := PySem.W.hideAll h (trk h H)
theorem hidT_size (h : Heap) (H : Hp) : (hidT h H).objs.size = h.objs.size := PySem.W.hideAll_size _ _
theorem hidT_get {h : Heap} {H : Hp} {b : Addr} {o : Obj} (e : h.get? b = some o) (n : H b = none) : (hidT h H).get? b = some o :=
  PySem.W.hideAll_get _ e fun hm => by
    have q : (H b).isSome = true := (List.mem_filter.mp hm).2
    rw [n] at q; simp at q
theorem of_hidT {h : Heap} {H : Hp} {b : Addr} {o : Obj} (e : (hidT h H).get? b = some o) : h.get? b = some o ∧ H b = none := by
  have e' : h.get? b = some o := PySem.W.of_hideAll (trk h H) e
  refine ⟨e', ?_⟩
  cases q : H b with
  | none => rfl
  | some x =>
    have hm : b ∈ trk h H := List.mem_filter.mpr ⟨List.mem_range.mpr (Heap.lt_size e'), by simp [q]⟩
    have z : (hidT h H).get? b = none := PySem.W.hideAll_none (trk h H) hm
    rw [z] at e; cases e

/-! ### OpenK's ledger, filled with every new object but one -/
end L2

namespace L2
open PySem PySem.Spec PyProof.Rows

/-- the module's facts, over the base: the heap at the law's entry without what is tracked there -/
structure Mod (K : PySem.W.Frag) (mg : Str → Option Value) (base : Heap) : Prop where
  kin : K.In base
  glob : base.Ns mainGlobals mg
  blt : ∃ mb, base.Ns builtinsNs mb ∧ ∀ x : Str, x ≠ "__name__" → mb x = bootBuiltins x
  nolimit : base.NoLimit

/-- the context: a def's body (or a comprehension's block) running. base: fixed through the whole law; s₀, H₀: the entry; outer: the frames whose slots others may change (a def's callers); stack: all frames that run;
   ex: iterators that were made ahead of the entry and are walked here (a comprehension's); fn: the names whose cells were made at the entry (a def: all; a comprehension's block: its own); calm: not within an except suite; pn: pins that every state bears; xe: what is wanted of an exception that leaves the code -/
structure Cx where
  prog : Program
  w : World
  K : PySem.W.Frag
  mg : Str → Option Value
  base : Heap
  A : Around
  N : List Str
  s₀ : Shared
  H₀ : Hp
  env : Env
  outer : List Env
  stack : List Env
  ex : List Addr
  fn : Str → Bool
  calm : Bool
  pn : List (Addr × Obj)
  xe : Value → Shared → Prop
/-- the callers' frames -/
def frs (l : List Env) : List Addr := l.filterMap (·.frame)
abbrev Cx.fs (X : Cx) : List Addr := frs X.outer

def Vis (sc : Scope) (x : Str) : Prop := sc.names.lookup x = some .local ∨ sc.names.lookup x = some .cell ∨ sc.names.lookup x = some .free
def Loc (sc : Scope) (x : Str) : Prop := sc.names.lookup x = some .local ∨ sc.names.lookup x = some .cell
def Look (env : Env) (h : Heap) (m : Str → Option Value) (x : Str) (u : Value) : Prop :=
  (env.kindOf x = some .local ∧ m x = some u) ∨ ((env.kindOf x = some .cell ∨ env.kindOf x = some .free) ∧ ∃ c, env.cells.lookup x = some c ∧ h.IsCell c (some u))

structure Cx.Ok (X : Cx) : Prop where
  mod : Mod X.K X.mg X.base
  kind : X.env.scope.kind = .function
  glob : X.env.globals = mainGlobals
  blt : X.env.builtins = builtinsNs
  above : X.s₀.heap.objs.size ≤ X.env.locals
  inj : ∀ x y c, X.env.cells.lookup x = some c → X.env.cells.lookup y = some c → x = y
  has : ∀ x, (X.env.kindOf x = some .cell ∨ X.env.kindOf x = some .free) → ∃ c, X.env.cells.lookup x = some c
  cab : ∀ x c, X.fn x = true → X.env.cells.lookup x = some c → X.s₀.heap.objs.size ≤ c
  hd : X.calm = true → X.A.handled = none
  frames : X.A.frames = some X.stack
  stk : X.stack = X.outer ∨ (X.stack = X.env :: X.outer ∧ X.env.frame = some X.env.locals)
  exf : ∀ b ∈ X.ex, b ≠ X.env.locals ∧ ∀ x c, X.env.cells.lookup x = some c → c ≠ b
  bs : ∀ b o, X.base.get? b = some o → X.s₀.heap.get? b = some o ∧ X.H₀ b = none
  bsz : X.base.objs.size ≤ X.s₀.heap.objs.size
  noex : ∀ b o, X.base.get? b = some o → b ∉ X.ex
  exfs : ∀ b ∈ X.ex, b ∉ X.fs
  funs : X.s₀.heap.FunFrames X.base X.outer
  frf : ∀ b ∈ X.fs, X.H₀ b = none

structure Inv (X : Cx) (pins : List (Addr × Obj)) (σ : List (Option V)) (H : Hp) (s : Shared) : Prop where
  ok : X.Ok
  os : s.os = X.s₀.os
  bare : AllBare s.gens
  base : Un X.fs X.ex X.H₀ H X.s₀.heap s.heap
  loc : ∃ m, s.heap.Ns X.env.locals m ∧ ∀ (i : Nat) (x : Str) (v : V), X.N[i]? = some x → σ[i]? = some (some v) → Vis X.env.scope x → ∃ u, RelV v u ∧ Look X.env s.heap m x u
  cell : ∀ x c, X.env.cells.lookup x = some c → ∃ v, s.heap.IsCell c v
  free : H X.env.locals = none
  freeC : ∀ x c, X.env.cells.lookup x = some c → H c = none
  pin : ∀ p ∈ X.pn ++ pins, s.heap.get? p.1 = some p.2 ∧ H p.1 = none ∧ p.1 ≠ X.env.locals ∧ p.1 ∉ X.fs ∧ ∀ v, p.2.data ≠ .cell v
  hok : HOk X.prog X.w H s.heap
  len : σ.length = X.N.length

section
variable {X : Cx} {pins : List (Addr × Obj)} {σ : List (Option V)} {H H' : Hp} {s : Shared} {h' : Heap}

theorem Cx.Ok.nofr (ok : X.Ok) {b : Addr} {o : Obj} (e : X.base.get? b = some o) : b ∉ X.fs := fun hb => by
  have := (ok.funs.mem hb).1
  rw [e] at this; cases this
theorem Inv.bs (I : Inv X pins σ H s) : ∀ b o, X.base.get? b = some o → s.heap.get? b = some o ∧ H b = none := fun b o e =>
  ⟨I.base.keep b o (I.ok.bs b o e).1 (I.ok.bs b o e).2 (I.ok.nofr e) (I.ok.noex b o e), I.base.free b o (I.ok.bs b o e).1 (I.ok.bs b o e).2 (I.ok.noex b o e)⟩
theorem Inv.bk (I : Inv X pins σ H s) : ∀ b o, X.base.get? b = some o → s.heap.get? b = some o := fun b o e => (I.bs b o e).1
theorem Inv.mod (I : Inv X pins σ H s) : Mod X.K X.mg X.base := I.ok.mod
theorem Inv.kIn (I : Inv X pins σ H s) : X.K.In s.heap := I.ok.mod.kin.keeps I.bk
theorem Inv.lt (I : Inv X pins σ H s) : X.env.locals < s.heap.objs.size := let ⟨_, hn, _⟩ := I.loc; hn.lt
theorem Inv.sz (I : Inv X pins σ H s) : X.s₀.heap.objs.size ≤ s.heap.objs.size := Nat.le_trans I.ok.above (Nat.le_of_lt I.lt)
theorem Inv.nofs (I : Inv X pins σ H s) {a : Addr} (h : s.heap.objs.size ≤ a) : a ∉ X.fs := fun hb => by
  obtain ⟨_, o, ho, _⟩ := I.ok.funs.mem hb
  exact absurd (Nat.lt_of_lt_of_le (Heap.lt_size ho) (Nat.le_trans I.sz h)) (Nat.lt_irrefl _)
theorem Inv.cne (I : Inv X pins σ H s) : ∀ x c, X.env.cells.lookup x = some c → c ≠ X.env.locals := fun x c e z => by
  obtain ⟨v, o, ho, hd⟩ := I.cell x c e
  obtain ⟨m, ⟨o', es, ep, ho', hd', _⟩, _⟩ := I.loc
  rw [z, ho'] at ho; cases ho; rw [hd'] at hd; cases hd
theorem Inv.funs (I : Inv X pins σ H s) : s.heap.FunFrames X.base X.outer := by
  have all : ∀ (l : List Env), (∀ b ∈ frs l, b ∈ X.fs) → X.s₀.heap.FunFrames X.base l → s.heap.FunFrames X.base l := by
    intro l
    induction l with
    | nil => intro _ _; trivial
    | cons env r ih =>
      intro hs hl
      obtain ⟨hk, ⟨L, o, hf, hn, ho, hd⟩, hr⟩ := hl
      have hL : L ∈ X.fs := hs L (by unfold frs; rw [List.filterMap_cons, hf]; exact List.mem_cons_self)
      obtain ⟨sl, e⟩ := I.base.slot L o ho (I.ok.frf L hL) hL fun z => I.ok.exfs L z hL
      exact ⟨hk, ⟨L, _, hf, hn, e, hd⟩, ih (fun b hb => hs b (by unfold frs; rw [List.filterMap_cons, hf]; exact List.mem_cons_of_mem _ hb)) hr⟩
  exact all X.outer (fun _ hb => hb) I.ok.funs

/-- the frames that run, for a call -/
theorem Inv.stack (I : Inv X pins σ H s) : s.heap.FunFrames X.base X.stack := by
  rcases I.ok.stk with e | ⟨e, hf⟩
  · rw [e]; exact I.funs
  · rw [e]
    obtain ⟨m, hn, _⟩ := I.loc
    refine .cons (by rw [I.ok.kind]; decide) hf hn ?_ I.funs
    exact Heap.get?_none_of_le (Nat.le_trans I.ok.bsz I.ok.above)
theorem Inv.stkSub (I : Inv X pins σ H s) : ∀ b ∈ frs X.stack, b ∈ X.env.locals :: X.fs := fun b hb => by
  rcases I.ok.stk with e | ⟨e, hf⟩
  · rw [e] at hb; exact List.mem_cons_of_mem _ hb
  · rw [e] at hb
    unfold frs at hb
    rw [List.filterMap_cons, hf] at hb
    exact hb
theorem Inv.stkFree (I : Inv X pins σ H s) : ∀ b ∈ frs X.stack, H b = none := fun b hb => by
  rcases List.mem_cons.mp (I.stkSub b hb) with e | hb
  · rw [e]; exact I.free
  · obtain ⟨_, o, ho, _⟩ := I.ok.funs.mem hb
    exact I.base.free b o ho (I.ok.frf b hb) fun z => I.ok.exfs b z hb

/-- THE STEP: the untracked objects but the frame and the records at ch are kept (the callers' frames up to slots), the frame's map is kept, the new abstract heap is held -/
theorem Inv.step {g' : Array GenState} {t' : Nat} {d' : Drawn} {ch : List Addr} (I : Inv X pins σ H s)
    (hch : ∀ b ∈ ch, (b ∈ X.ex ∨ X.s₀.heap.objs.size ≤ b) ∧ b ≠ X.env.locals ∧ (∀ x c, X.env.cells.lookup x = some c → c ≠ b) ∧ ∀ p ∈ X.pn ++ pins, p.1 ≠ b)
    (keep : ∀ b o, b ≠ X.env.locals → b ∉ X.fs → b ∉ ch → s.heap.get? b = some o → H b = none → h'.get? b = some o)
    (slot : ∀ b o, b ≠ X.env.locals → b ∈ X.fs → b ∉ ch → s.heap.get? b = some o → H b = none → ∃ sl, h'.get? b = some { o with slots := sl }) (free : ∀ b o, b ∉ ch → s.heap.get? b = some o → H b = none → H' b = none)
    (there : ∀ b o, b ∉ ch → s.heap.get? b = some o → ∃ o', h'.get? b = some o')
    (tups : ∀ b xs, H b = some (.tup xs) → H' b = some (.tup xs)) (frzs : ∀ b o u, H b = some (.frz o u) → H' b = some (.frz o u)) (tbls : ∀ b ps, H b = some (.tbl ps) → ∃ more, H' b = some (.tbl (ps ++ more)))
    (ns : ∀ m, s.heap.Ns X.env.locals m → h'.Ns X.env.locals m) (hok : HOk X.prog X.w H' h') (hg : AllBare g') :
    Inv X pins σ H' { s with heap := h', gens := g', drawn := d', toks := t' } := by
  have neL : ∀ b o, X.s₀.heap.get? b = some o → b ≠ X.env.locals := fun b o e => Nat.ne_of_lt (Nat.lt_of_lt_of_le (Heap.lt_size e) I.ok.above)
  have neC : ∀ b o, X.s₀.heap.get? b = some o → b ∉ X.ex → b ∉ ch := fun b o e hx hb => by
    rcases (hch b hb).1 with z | z
    · exact hx z
    · exact absurd (Nat.lt_of_lt_of_le (Heap.lt_size e) z) (Nat.lt_irrefl _)
  have cellK : ∀ x c, X.env.cells.lookup x = some c → ∀ v, s.heap.IsCell c v → h'.IsCell c v := fun x c e v ⟨o, ho, hd⟩ => by
    have nch : c ∉ ch := fun z => (hch c z).2.2.1 x c e rfl
    by_cases hc : c ∈ X.fs
    · obtain ⟨sl, q⟩ := slot c o (I.cne x c e) hc nch ho (I.freeC x c e)
      exact ⟨_, q, hd⟩
    · exact ⟨o, keep c o (I.cne x c e) hc nch ho (I.freeC x c e), hd⟩
  refine ⟨I.ok, I.os, hg, ⟨fun b o e n hb hx => ?_, fun b o e n hb hx => ?_, fun b o e n hx => ?_, fun b o e hx => ?_, fun b xs e => tups b xs (I.base.tups b xs e), fun b o xs e => frzs b o xs (I.base.frzs b o xs e), fun b ps e => ?_⟩, ?_, fun x c e => ?_, ?_, fun x c e => ?_, fun p hp => ?_, hok, I.len⟩
  · exact keep b o (neL b o e) hb (neC b o e hx) (I.base.keep b o e n hb hx) (I.base.free b o e n hx)
  · obtain ⟨sl, e1⟩ := I.base.slot b o e n hb hx
    obtain ⟨sl', e2⟩ := slot b _ (neL b o e) hb (neC b o e hx) e1 (I.base.free b o e n hx)
    exact ⟨sl', e2⟩
  · obtain ⟨o', e1⟩ := I.base.there b o e hx
    exact free b o' (neC b o e hx) e1 (I.base.free b o e n hx)
  · obtain ⟨o', e1⟩ := I.base.there b o e hx
    exact there b o' (neC b o e hx) e1
  · obtain ⟨m1, e1⟩ := I.base.tbls b ps e
    obtain ⟨m2, e2⟩ := tbls b _ e1
    exact ⟨m1 ++ m2, by rw [e2, Array.append_assoc]⟩
  · obtain ⟨m, hn, hl⟩ := I.loc
    refine ⟨m, ns m hn, fun i x v e1 e2 e3 => ?_⟩
    obtain ⟨u, r, l⟩ := hl i x v e1 e2 e3
    refine ⟨u, r, ?_⟩
    rcases l with l | ⟨k, c, e, z⟩
    · exact .inl l
    · exact .inr ⟨k, c, e, cellK x c e _ z⟩
  · obtain ⟨v, z⟩ := I.cell x c e
    exact ⟨v, cellK x c e v z⟩
  · obtain ⟨m, ⟨o, _, _, ho, _⟩, _⟩ := I.loc
    exact free _ o (fun z => (hch _ z).2.1 rfl) ho I.free
  · obtain ⟨v, o, ho, hd⟩ := I.cell x c e
    exact free c o (fun z => (hch c z).2.2.1 x c e rfl) ho (I.freeC x c e)
  · obtain ⟨e, n, ne, nf, d⟩ := I.pin p hp
    have nch : p.1 ∉ ch := fun z => (hch p.1 z).2.2.2 p hp rfl
    exact ⟨keep p.1 p.2 ne nf nch e n, free p.1 p.2 nch e n, ne, nf, d⟩
/-- .. where the frame's own object is kept too -/
theorem Inv.un {t' : Nat} (I : Inv X pins σ H s) (u : Un X.fs [] H H' s.heap h') (hok : HOk X.prog X.w H' h') : Inv X pins σ H' { s with heap := h', toks := t' } := by
  obtain ⟨m, ⟨o, es, ep, ho, r⟩, _⟩ := id I.loc
  obtain ⟨sl, hL⟩ := u.any ho I.free (by simp)
  exact I.step (g' := s.gens) (d' := s.drawn) (ch := []) (fun _ z => nomatch z) (fun b o _ hb _ e n => u.keep b o e n hb (by simp)) (fun b o _ hb _ e n => u.slot b o e n hb (by simp)) (fun b o _ e n => u.free b o e n (by simp)) (fun b o _ e => u.there b o e (by simp)) u.tups u.frzs u.tbls (fun m' hm => by
    obtain ⟨o', es', ep', ho', r'⟩ := hm
    rw [ho] at ho'; cases ho'
    exact ⟨_, es', ep', hL, r'⟩) hok I.bare
/-- behind a call (or a comprehension's block): the slots of this frame may have changed too, the records at ch may have turned -/
theorem Inv.call {g' : Array GenState} {t' : Nat} {d' : Drawn} {ch : List Addr} (I : Inv X pins σ H s) (u : Un (frs X.stack) ch H H' s.heap h') (hok : HOk X.prog X.w H' h') (hg : AllBare g')
    (hch : ∀ b ∈ ch, (b ∈ X.ex ∨ X.s₀.heap.objs.size ≤ b) ∧ b ≠ X.env.locals ∧ (∀ x c, X.env.cells.lookup x = some c → c ≠ b) ∧ ∀ p ∈ X.pn ++ pins, p.1 ≠ b) :
    Inv X pins σ H' { s with heap := h', gens := g', drawn := d', toks := t' } := by
  obtain ⟨m, ⟨o, es, ep, ho, r⟩, _⟩ := id I.loc
  obtain ⟨sl, hL⟩ := u.any ho I.free fun z => (hch _ z).2.1 rfl
  exact I.step (ch := ch) hch (fun b o hL hb hc e n => u.keep b o e n (fun z => (List.mem_cons.mp (I.stkSub b z)).elim hL hb) hc) (fun b o _ _ hc e n => u.any e n hc) (fun b o hc e n => u.free b o e n hc) (fun b o hc e => u.there b o e hc) u.tups u.frzs u.tbls (fun m' hm => by
    obtain ⟨o', es', ep', ho', r'⟩ := hm
    rw [ho] at ho'; cases ho'
    exact ⟨_, es', ep', hL, r'⟩) hok hg
/-- an untracked record of ours (an iterator) has turned -/
theorem Inv.turned {t' : Nat} {it : Addr} (I : Inv X pins σ H s) (k : ∀ b o, b ≠ it → s.heap.get? b = some o → h'.get? b = some o) (hn : H it = none) (hL : it ≠ X.env.locals)
    (h1 : it ∈ X.ex ∨ X.s₀.heap.objs.size ≤ it) (h2 : ∀ x c, X.env.cells.lookup x = some c → c ≠ it) (h3 : ∀ p ∈ X.pn ++ pins, p.1 ≠ it) : Inv X pins σ H { s with heap := h', toks := t' } := by
  have nit : ∀ b u, H b = some u → b ≠ it := fun b u e z => by rw [z, hn] at e; cases e
  refine I.step (g' := s.gens) (d' := s.drawn) (ch := [it]) (fun b hb => ?_) (fun b o _ _ hc e _ => k b o (fun z => hc (by simp [z])) e) (fun b o _ _ hc e _ => ⟨o.slots, k b o (fun z => hc (by simp [z])) e⟩) (fun _ _ _ _ n => n)
    (fun b o hc e => ⟨o, k b o (fun z => hc (by simp [z])) e⟩) (fun _ _ e => e) (fun _ _ _ e => e) (fun b ps e => ⟨#[], by rw [e]; simp⟩) (fun m hm => ?_) (fun b u e => ?_) I.bare
  · have e : b = it := by simpa using hb
    subst e
    exact ⟨h1, hL, h2, h3⟩
  · obtain ⟨o, es, ep, ho, r⟩ := hm
    exact ⟨o, es, ep, k _ o (Ne.symm hL) ho, r⟩
  · refine (I.hok b u e).stay (fun c v hc q => k c v ?_ q) (fun _ q => q) fun _ _ q => q
    rcases hc with z | z
    · rw [z]; exact nit b u e
    · exact nit c _ z
theorem Inv.tok (I : Inv X pins σ H s) (t : Nat) : Inv X pins σ H { s with toks := t } := I.un (h' := s.heap) (t' := t) Un.refl I.hok
/-- all objects kept -/
theorem Inv.kept {t' : Nat} (I : Inv X pins σ H s) (k : ∀ b u, s.heap.get? b = some u → h'.get? b = some u) : Inv X pins σ H { s with heap := h', toks := t' } := I.un (Un.kept k) (I.hok.kept k)
/-- a new object laid and tracked -/
theorem Inv.laid {a : Addr} {o : HO} {t' : Nat} (I : Inv X pins σ H s) (k : ∀ b u, s.heap.get? b = some u → h'.get? b = some u) (hp : s.heap.objs.size ≤ a) (new : ObjOk X.prog X.w (upd H a o) h' a o) :
    Inv X pins σ (upd H a o) { s with heap := h', toks := t' } := I.un (Un.laid k hp (I.hok.fresh hp)) (I.hok.laid k hp new)
/-- an object written -/
theorem Inv.write {x e : Addr} {o : HO} {t' : Nat} (I : Inv X pins σ H s) (mu : Mut (H x)) (he : e = x ∨ H e = some (.own x)) (k : ∀ b u, b ≠ e → s.heap.get? b = some u → h'.get? b = some u) (heo : ∃ u, h'.get? e = some u)
    (new : ObjOk X.prog X.w (upd H x o) h' x o) : Inv X pins σ (upd H x o) { s with heap := h', toks := t' } := I.un (Un.write mu he k heo) (I.hok.write mu he k heo new)
theorem Inv.pins_of {pins' : List (Addr × Obj)} (I : Inv X pins σ H s) (h : ∀ p ∈ pins', s.heap.get? p.1 = some p.2 ∧ H p.1 = none ∧ p.1 ≠ X.env.locals ∧ p.1 ∉ X.fs ∧ ∀ v, p.2.data ≠ .cell v) : Inv X pins' σ H s :=
  ⟨I.ok, I.os, I.bare, I.base, I.loc, I.cell, I.free, I.freeC, fun p hp => (List.mem_append.mp hp).elim (fun z => I.pin p (List.mem_append_left _ z)) (h p), I.hok, I.len⟩

theorem nodup_ix {N : List Str} (hN : N.Nodup) {i j : Nat} {x : Str} (a : N[i]? = some x) (b : N[j]? = some x) : i = j := by
  obtain ⟨h1, e1⟩ := List.getElem?_eq_some_iff.mp a
  obtain ⟨h2, e2⟩ := List.getElem?_eq_some_iff.mp b
  exact (List.getElem_inj hN).mp (e1.trans e2.symm)

/-- a name is stored; what changed -/
theorem store_ok2 {M : Model} {A : Around} {E : Value → Shared → Prop} {i : Nat} {x : Str} {v : V} {u : Value} {Q : Unit → Shared → Prop} (I : Inv X pins σ H s) (hN : X.N.Nodup) (hi : X.N[i]? = some x) (hx : Loc X.env.scope x) (r : RelV v u)
    (h : ∀ s', Inv X pins (σ.set i (some v)) H s' → (∃ a, Heap.SameBut a s.heap s'.heap ∧ (a = X.env.locals ∨ X.env.cells.lookup x = some a)) → Q () s') (hf : X.fn x = true ∨ X.env.scope.names.lookup x = some .local := by first | exact .inl rfl | exact .inr rfl | assumption) : wpAny M A (storeName X.env x u) Q E s := by
  obtain ⟨m, hn, hl⟩ := id I.loc
  have hcls : (X.env.scope.kind == .class || (X.env.scope.kind == .module && X.env.locals != X.env.globals)) = false := by rw [I.ok.kind]; rfl
  have hiσ : i < σ.length := by rw [I.len]; exact (List.getElem?_eq_some_iff.mp hi).1
  have cne := I.cne
  have tracked : ∀ {a : Addr} {h' : Heap}, (∃ o, s.heap.get? a = some o ∧ H a = none) → Heap.SameBut a s.heap h' → HOk X.prog X.w H h' := fun {a h'} ha hs b ob e => by
    obtain ⟨_, _, hfree⟩ := ha
    refine (I.hok b ob e).stay (fun c w' hc q => (hs.2 c ?_).trans q) (fun _ q => q) fun _ _ q => q
    rintro rfl
    rcases hc with rfl | hc
    · rw [hfree] at e; cases e
    · rw [hfree] at hc; cases hc
  rcases hx with hk | hk
  · refine wpAny_storeName_local hk hn (fun h' hn' hs => ?_) hcls
    obtain ⟨oL, _, _, hoL, _⟩ := id hn
    refine h _ ⟨I.ok, I.os, I.bare, ⟨fun b o e n hb hx => ?_, fun b o e n hb hx => ?_, I.base.free, fun b o e hx => ?_, I.base.tups, I.base.frzs, I.base.tbls⟩, ⟨_, hn', fun j y v' e1 e2 e3 => ?_⟩, fun y c e => ?_, I.free, I.freeC, fun p hp => ?_, tracked ⟨oL, hoL, I.free⟩ hs, by simpa using I.len⟩ ⟨_, hs, .inl rfl⟩
    · exact (hs.2 b (Nat.ne_of_lt (Nat.lt_of_lt_of_le (Heap.lt_size e) I.ok.above))).trans (I.base.keep b o e n hb hx)
    · obtain ⟨sl, e1⟩ := I.base.slot b o e n hb hx
      exact ⟨sl, (hs.2 b (Nat.ne_of_lt (Nat.lt_of_lt_of_le (Heap.lt_size e) I.ok.above))).trans e1⟩
    · obtain ⟨o', e1⟩ := I.base.there b o e hx
      exact ⟨o', (hs.2 b (Nat.ne_of_lt (Nat.lt_of_lt_of_le (Heap.lt_size e) I.ok.above))).trans e1⟩
    · by_cases hj : j = i
      · subst hj
        rw [hi] at e1; cases e1
        rw [List.getElem?_set_self hiσ] at e2
        cases e2
        exact ⟨u, r, .inl ⟨hk, by simp⟩⟩
      · rw [List.getElem?_set_ne (Ne.symm hj)] at e2
        obtain ⟨u', r', q⟩ := hl j y v' e1 e2 e3
        refine ⟨u', r', ?_⟩
        rcases q with ⟨k, e⟩ | ⟨k, c, e, z⟩
        · refine .inl ⟨k, ?_⟩
          have : y ≠ x := fun e => hj (nodup_ix hN e1 (e ▸ hi))
          simp [this, e]
        · exact .inr ⟨k, c, e, z.sameBut hs (cne y c e)⟩
    · obtain ⟨w', z⟩ := I.cell y c e
      exact ⟨w', z.sameBut hs (cne y c e)⟩
    · obtain ⟨e, n, ne, nf, d⟩ := I.pin p hp
      exact ⟨(hs.2 p.1 ne).trans e, n, ne, nf, d⟩
  · have hfn : X.fn x = true := by
      rcases hf with z | z
      · exact z
      · rw [z] at hk; cases hk
    obtain ⟨c, hc⟩ := I.ok.has x (.inl hk)
    obtain ⟨w', z⟩ := I.cell x c hc
    refine wpAny_storeName_cell I.ok.kind hk hc z (fun h' hc' hs => ?_)
    obtain ⟨oc, hoc, hocd⟩ := id z
    refine h { s with heap := h' } ⟨I.ok, I.os, I.bare, ⟨fun b o e n hb hx => ?_, fun b o e n hb hx => ?_, I.base.free, fun b o e hx => ?_, I.base.tups, I.base.frzs, I.base.tbls⟩, ⟨m, hn.sameBut hs (Ne.symm (cne x c hc)), fun j y v' e1 e2 e3 => ?_⟩, fun y c' e => ?_, I.free, I.freeC, fun p hp => ?_, tracked ⟨oc, hoc, I.freeC x c hc⟩ hs, by simpa using I.len⟩ ⟨c, hs, .inr hc⟩
    · exact (hs.2 b (Nat.ne_of_lt (Nat.lt_of_lt_of_le (Heap.lt_size e) (I.ok.cab x c hfn hc)))).trans (I.base.keep b o e n hb hx)
    · obtain ⟨sl, e1⟩ := I.base.slot b o e n hb hx
      exact ⟨sl, (hs.2 b (Nat.ne_of_lt (Nat.lt_of_lt_of_le (Heap.lt_size e) (I.ok.cab x c hfn hc)))).trans e1⟩
    · obtain ⟨o', e1⟩ := I.base.there b o e hx
      exact ⟨o', (hs.2 b (Nat.ne_of_lt (Nat.lt_of_lt_of_le (Heap.lt_size e) (I.ok.cab x c hfn hc)))).trans e1⟩
    · by_cases hj : j = i
      · subst hj
        rw [hi] at e1; cases e1
        rw [List.getElem?_set_self hiσ] at e2
        cases e2
        exact ⟨u, r, .inr ⟨.inl hk, c, hc, hc'⟩⟩
      · rw [List.getElem?_set_ne (Ne.symm hj)] at e2
        obtain ⟨u', r', q⟩ := hl j y v' e1 e2 e3
        refine ⟨u', r', ?_⟩
        rcases q with q | ⟨k, c', e, z'⟩
        · exact .inl q
        · refine .inr ⟨k, c', e, z'.sameBut hs ?_⟩
          rintro rfl
          exact hj (nodup_ix hN e1 (I.ok.inj _ _ _ e hc ▸ hi))
    · by_cases hcc : c' = c
      · subst hcc; exact ⟨_, hc'⟩
      · obtain ⟨w2, z2⟩ := I.cell y c' e
        exact ⟨w2, z2.sameBut hs hcc⟩
    · obtain ⟨e, n, ne, nf, d⟩ := I.pin p hp
      refine ⟨(hs.2 p.1 ?_).trans e, n, ne, nf, d⟩
      intro q
      rw [q, hoc] at e
      have q' : oc = p.2 := Option.some.inj e
      exact d w' (by rw [← q']; exact hocd)
theorem store_ok {M : Model} {A : Around} {E : Value → Shared → Prop} {i : Nat} {x : Str} {v : V} {u : Value} {Q : Unit → Shared → Prop} (I : Inv X pins σ H s) (hN : X.N.Nodup) (hi : X.N[i]? = some x) (hx : Loc X.env.scope x) (r : RelV v u)
    (h : ∀ s', Inv X pins (σ.set i (some v)) H s' → Q () s') (hf : X.fn x = true ∨ X.env.scope.names.lookup x = some .local := by first | exact .inl rfl | exact .inr rfl | assumption) : wpAny M A (storeName X.env x u) Q E s :=
  store_ok2 I hN hi hx r (fun s' I' _ => h s' I') hf
/-- behind a call or a block, the state as it is -/
theorem Inv.call' {s' : Shared} {ch : List Addr} (I : Inv X pins σ H s) (ho : s'.os = s.os) (u : Un (frs X.stack) ch H H' s.heap s'.heap) (hok : HOk X.prog X.w H' s'.heap) (hg : AllBare s'.gens)
    (hch : ∀ b ∈ ch, (b ∈ X.ex ∨ X.s₀.heap.objs.size ≤ b) ∧ b ≠ X.env.locals ∧ (∀ x c, X.env.cells.lookup x = some c → c ≠ b) ∧ ∀ p ∈ X.pn ++ pins, p.1 ≠ b) : Inv X pins σ H' s' := by
  obtain ⟨h', g', d', t', o'⟩ := s'
  have e : o' = s.os := ho
  subst e
  exact I.call (g' := g') (t' := t') (d' := d') u hok hg hch
end

/-! ### the judgements -/
/-- an exception: its class, its own dict's address (where it has one), the abstract heap behind it -/
abbrev XK := Value → Option Addr → Hp → Prop
abbrev St := List (Option V)
abbrev VK := V → Hp → Prop
/-- an expression's reading; a test's; an argument list's -/
abbrev TE := St → Hp → VK → Prop
abbrev TT := St → Hp → (Bool → Hp → Prop) → Prop
abbrev TA := St → Hp → (List V → Hp → Prop) → Prop
/-- what is wanted behind a statement -/
structure Ends where
  nx : St → Hp → Prop
  rt : VK
  bk : St → Hp → Prop := fun _ _ => False
  ct : St → Hp → Prop := fun _ _ => False
abbrev TS := Ends → St → Hp → Prop

def EP (X : Cx) (pins : List (Addr × Obj)) (σ : St) (Q : VK) (u : Value) (s' : Shared) : Prop := ∃ v H', Inv X pins σ H' s' ∧ RelV v u ∧ Q v H'
def TP (X : Cx) (pins : List (Addr × Obj)) (σ : St) (Q : Bool → Hp → Prop) (b : Bool) (s' : Shared) : Prop := ∃ H', Inv X pins σ H' s' ∧ Q b H'
def AP (X : Cx) (pins : List (Addr × Obj)) (σ : St) (Q : List V → Hp → Prop) (us : List Value) (s' : Shared) : Prop := ∃ vs H', Inv X pins σ H' s' ∧ Vals vs us ∧ Q vs H'
def SP (X : Cx) (pins : List (Addr × Obj)) (D : Ends) (f : Flow) (s' : Shared) : Prop :=
  match f with
  | .next => ∃ σ' H', Inv X pins σ' H' s' ∧ D.nx σ' H'
  | .brk => ∃ σ' H', Inv X pins σ' H' s' ∧ D.bk σ' H'
  | .cont => ∃ σ' H', Inv X pins σ' H' s' ∧ D.ct σ' H'
  | .ret u => ∃ v σ' H', Inv X pins σ' H' s' ∧ RelV v u ∧ D.rt v H'

def PE (X : Cx) (e : Expr) (t : TE) : Prop :=
  ∀ (pins : List (Addr × Obj)) (s : Shared) (σ : St) (H : Hp) (Q : VK), Inv X pins σ H s → t σ H Q → wpAny (model X.prog X.w) X.A (eval e X.env) (EP X pins σ Q) X.xe s
def PT (X : Cx) (e : Expr) (t : TT) : Prop :=
  ∀ (pins : List (Addr × Obj)) (s : Shared) (σ : St) (H : Hp) (Q : Bool → Hp → Prop), Inv X pins σ H s → t σ H Q → wpAny (model X.prog X.w) X.A (isTrue e X.env (eval e X.env)) (TP X pins σ Q) X.xe s
/-- a test whatever its 'whole' is (and, or) -/
def PW (X : Cx) (e : Expr) (t : TT) : Prop :=
  ∀ (whole : Sem Value) (pins : List (Addr × Obj)) (s : Shared) (σ : St) (H : Hp) (Q : Bool → Hp → Prop), Inv X pins σ H s → t σ H Q → wpAny (model X.prog X.w) X.A (isTrue e X.env whole) (TP X pins σ Q) X.xe s
theorem PW.pt {X : Cx} {e : Expr} {t : TT} (h : PW X e t) : PT X e t := h _
/-- an argument list (no star), from the left -/
def PA (X : Cx) (es : List Expr) (t : TA) : Prop :=
  ∀ (pos : Pos) (pins : List (Addr × Obj)) (s : Shared) (σ : St) (H : Hp) (Q : List V → Hp → Prop), Inv X pins σ H s → t σ H Q → wpAny (model X.prog X.w) X.A (spliced (backTo pos (starEach es X.env))) (AP X pins σ Q) X.xe s
def PS (X : Cx) (st : Stmt) (t : TS) : Prop :=
  ∀ (pins : List (Addr × Obj)) (s : Shared) (σ : St) (H : Hp) (D : Ends), Inv X pins σ H s → t D σ H → wpAny (model X.prog X.w) X.A (exec st X.env) (SP X pins D) X.xe s
def PSs (X : Cx) (st : List Stmt) (t : TS) : Prop :=
  ∀ (pins : List (Addr × Obj)) (s : Shared) (σ : St) (H : Hp) (D : Ends), Inv X pins σ H s → t D σ H → wpAny (model X.prog X.w) X.A (execs st X.env) (SP X pins D) X.xe s
/-- weaken the end -/
theorem thn {α : Type} {t : Sem α} {Q Q' : α → Shared → Prop} {M : Model} {A : Around} {E : Value → Shared → Prop} {s : Shared} (h : wpAny M A t Q E s) (hQ : ∀ a s, Q a s → Q' a s) : wpAny M A t Q' E s := wpAny_mono h hQ fun _ _ x => x
end L2

namespace L2
open PySem PySem.Spec PyProof.Rows
section
variable {X : Cx}


/-! ### names and constants -/
def tVar (i : Nat) : TE := fun σ H Q => ∃ v, σ[i]? = some (some v) ∧ Q v H
def tC (v : V) : TE := fun _ H Q => Q v H
theorem pe_var {i : Nat} {x : Str} {pos : Pos} (hN : X.N[i]? = some x) (hv : Vis X.env.scope x) (hd : (x == ("__debug__" : Str)) = false := by decide) (hcd : (x == ("__classdict__" : Str)) = false := by decide) : PE X (.Name x pos) (tVar i) := by
  intro pins s σ H Q I h
  obtain ⟨v, e, h⟩ := h
  obtain ⟨m, hn, hl⟩ := I.loc
  obtain ⟨u, r, l⟩ := hl i x v hN e hv
  have fin : EP X pins σ Q u s := ⟨v, H, I, r, h⟩
  rcases l with ⟨hk, hm⟩ | ⟨hk, c, hc, hcell⟩
  · exact wpAny_Name (wpAny_loadName_local I.ok.kind hk hn hm fin) hd
  · rcases hk with hk | hk
    · exact wpAny_Name (wpAny_loadName_cell I.ok.kind hk hc hcell fin) hd
    · exact wpAny_Name (wpAny_loadName_free I.ok.kind hk hc hcell fin hcd) hd
theorem pe_int {i j pos} : PE X (.Constant (.int i) j pos) (tC (.int i)) := fun _ _ _ H _ I h => wpAny_Constant_int ⟨.int i, H, I.tok _, ⟨_, rfl⟩, h⟩
theorem pe_bl {b j pos} : PE X (.Constant (.bool b) j pos) (tC (.bl b)) := fun _ _ _ H _ I h => Constant_bool ⟨.bl b, H, I, rfl, h⟩
theorem pe_non {j pos} : PE X (.Constant .none j pos) (tC .non) := fun _ _ _ H _ I h => Constant_none ⟨.non, H, I, rfl, h⟩
theorem pe_str {x j pos} : PE X (.Constant (.str x) j pos) (tC (.str x)) := fun _ _ _ H _ I h => Calls.Constant_str ⟨.str x, H, I.tok _, ⟨_, rfl⟩, h⟩

/-- a global name of the def -/
def Gl (X : Cx) (x : Str) : Prop := X.env.kindOf x = some .globalImplicit
theorem ld_glob {E : Value → Shared → Prop} {pins : List (Addr × Obj)} {s : Shared} {σ : St} {H : Hp} {x : Str} {u : Value} {pos : Pos} {Q : Value → Shared → Prop} (I : Inv X pins σ H s) (hg : Gl X x) (hm : X.mg x = some u) (h : Q u s)
    (hd : (x == ("__debug__" : Str)) = false := by decide) : wpAny (model X.prog X.w) X.A (eval (.Name x pos) X.env) Q E s :=
  Calls.Name_function_global I.ok.kind hg (Calls.loadGlobal_global (by rw [I.ok.glob]; exact I.mod.glob.keeps I.bk) hm h) hd
theorem ld_blt {E : Value → Shared → Prop} {pins : List (Addr × Obj)} {s : Shared} {σ : St} {H : Hp} {x : Str} {u : Value} {pos : Pos} {Q : Value → Shared → Prop} (I : Inv X pins σ H s) (hg : Gl X x) (hm : X.mg x = none) (hv : bootBuiltins x = some u) (h : Q u s)
    (hn : x ≠ "__name__" := by decide) (hd : (x == ("__debug__" : Str)) = false := by decide) : wpAny (model X.prog X.w) X.A (eval (.Name x pos) X.env) Q E s := by
  obtain ⟨mb, h1, h2⟩ := I.mod.blt
  exact Calls.Name_function_global I.ok.kind hg (Calls.loadGlobal_builtin (by rw [I.ok.glob]; exact I.mod.glob.keeps I.bk) hm (by rw [I.ok.blt]; exact h1.keeps I.bk) ((h2 x hn).trans hv) h) hd
/-- a module's constant, a class, a function, as a value -/
theorem pe_glob {x : Str} {v : V} {u : Value} {pos : Pos} (hg : Gl X x) (hm : X.mg x = some u) (r : RelV v u) (hd : (x == ("__debug__" : Str)) = false := by decide) : PE X (.Name x pos) (tC v) :=
  fun _ _ _ H _ I h => ld_glob I hg hm ⟨v, H, I, r, h⟩ hd
theorem pe_bltn {x : Str} {v : V} {u : Value} {pos : Pos} (hg : Gl X x) (hm : X.mg x = none) (hv : bootBuiltins x = some u) (r : RelV v u) (hn : x ≠ "__name__" := by decide) (hd : (x == ("__debug__" : Str)) = false := by decide) : PE X (.Name x pos) (tC v) :=
  fun _ _ _ H _ I h => ld_blt I hg hm hv ⟨v, H, I, r, h⟩ hn hd

/-! ### arithmetic -/
variable {a b : Expr} {ta tb : TE} {pos : Pos}

/-! ### comparisons -/
def PC (X : Cx) (op : CmpOp) (a b : Expr) (t : TE) : Prop :=
  ∀ (pins : List (Addr × Obj)) (s : Shared) (σ : St) (H : Hp) (Q : VK), Inv X pins σ H s → t σ H Q →
    wpAny (model X.prog X.w) X.A (eval a X.env) (fun v s₁ => wpAny (model X.prog X.w) X.A (eval b X.env) (fun u s₂ => wpAny (model X.prog X.w) X.A (compareOp op v u) (EP X pins σ Q) X.xe s₂) X.xe s₁) X.xe s
/-- a comparison as a value, as a test -/
def tB (t : TE) : TT := fun σ H Q => t σ H fun x H1 => ∃ c, x = .bl c ∧ Q c H1
theorem pt_cmp {op : CmpOp} {t : TE} (h : PC X op a b t) (h1 : behindInMarks op b = false := by first | exact nobehind _ (by decide) (by decide) | rfl) : PT X (.Compare a [op] [b] pos) (tB t) := by
  intro pins s σ H Q I hw
  refine wpAny_isTrue_Compare1 (thn (h pins s σ H _ I hw) fun v s1 h1 => thn h1 fun u s2 h2 => thn h2 fun c s3 ⟨x, H1, I1, r1, q1⟩ => ?_) h1
  obtain ⟨d, rfl, q⟩ := q1
  cases r1
  exact wpAny_truthy_bool ⟨H1, I1, q⟩
/-- an expression whose value is a bool, as a test -/
theorem pt_val {e : Expr} {t : TE} (h : PE X e t) (he : ∀ whole, isTrue e X.env whole = (do let v ← whole; standAt e.pos; holding [v] (truthy v)) := by intro _; rfl) : PT X e (tB t) := by
  intro pins s σ H Q I hw
  refine isTrue_plain (thn (h pins s σ H _ I hw) fun v s1 ⟨x, H1, I1, r1, q1⟩ => ?_) (he _)
  obtain ⟨d, rfl, q⟩ := q1
  cases r1
  exact wpAny_truthy_bool ⟨H1, I1, q⟩

/-! ### and, or, not -/
variable {tA tB' : TT} {rest : List Expr}
def tAnd (t u : TT) : TT := fun σ H Q => t σ H fun c H1 => if c = true then u σ H1 Q else Q false H1
def tOr (t u : TT) : TT := fun σ H Q => t σ H fun c H1 => if c = true then Q true H1 else u σ H1 Q
def tNot (t : TT) : TT := fun σ H Q => t σ H fun c H1 => Q (!c) H1
theorem pw_and1 (ha : PT X a tA) : PW X (.BoolOp .And [a] pos) tA := by
  intro wh pins s σ H Q I h
  refine isTrue_and (thn (ha pins s σ H Q I h) fun c s1 e => ?_)
  cases c with
  | true => exact isTrue_and_nil e
  | false => exact e
theorem pw_or1 (ha : PT X a tA) : PW X (.BoolOp .Or [a] pos) tA := by
  intro wh pins s σ H Q I h
  refine isTrue_or (thn (ha pins s σ H Q I h) fun c s1 e => ?_)
  cases c with
  | false => exact isTrue_or_nil e
  | true => exact e
theorem pw_and (ha : PT X a tA) (hb : PW X (.BoolOp .And (b :: rest) pos) tB') : PW X (.BoolOp .And (a :: b :: rest) pos) (tAnd tA tB') := by
  intro wh pins s σ H Q I h
  refine isTrue_and (thn (ha pins s σ H _ I h) fun c s1 ⟨H1, I1, q1⟩ => ?_)
  cases c with
  | true => exact hb wh pins s1 σ H1 Q I1 q1
  | false => exact ⟨H1, I1, q1⟩
theorem pw_or (ha : PT X a tA) (hb : PW X (.BoolOp .Or (b :: rest) pos) tB') : PW X (.BoolOp .Or (a :: b :: rest) pos) (tOr tA tB') := by
  intro wh pins s σ H Q I h
  refine isTrue_or (thn (ha pins s σ H _ I h) fun c s1 ⟨H1, I1, q1⟩ => ?_)
  cases c with
  | true => exact ⟨H1, I1, q1⟩
  | false => exact hb wh pins s1 σ H1 Q I1 q1
theorem pt_not (ha : PT X a tA) : PT X (.UnaryOp .Not a pos) (tNot tA) := by
  intro pins s σ H Q I h
  exact isTrue_not (ha pins s σ H (fun c H1 => Q (!c) H1) I h)
/-- .. as values (bools) -/
def tAndV (ta tb : TE) : TE := fun σ H Q => ta σ H fun x H1 => ∃ c, x = .bl c ∧ if c = true then tb σ H1 Q else Q (.bl false) H1
def tNotV (ta : TE) : TE := fun σ H Q => ta σ H fun x H1 => ∃ c, x = .bl c ∧ Q (.bl (!c)) H1
theorem pe_one {op} {t : TE} (h : PE X a t) : PE X (.BoolOp op [a] pos) t := fun pins s σ H Q I hw => BoolOp_one (h pins s σ H Q I hw)
theorem pe_and (ha : PE X a ta) (hb : PE X (.BoolOp .And (b :: rest) pos) tb) : PE X (.BoolOp .And (a :: b :: rest) pos) (tAndV ta tb) := by
  intro pins s σ H Q I h
  refine BoolOp_and (thn (ha pins s σ H _ I h) fun v s1 ⟨x, H1, I1, r1, q1⟩ => ?_)
  obtain ⟨c, rfl, q1⟩ := q1
  cases r1
  refine wpAny_truthy_bool ?_
  cases c with
  | true => exact hb pins s1 σ H1 Q I1 q1
  | false => exact ⟨.bl false, H1, I1, rfl, q1⟩
theorem pe_not (ha : PE X a ta) : PE X (.UnaryOp .Not a pos) (tNotV ta) := by
  intro pins s σ H Q I h
  refine UnaryOp_ (thn (ha pins s σ H _ I h) fun v s1 ⟨x, H1, I1, r1, q1⟩ => ?_)
  obtain ⟨c, rfl, q1⟩ := q1
  cases r1
  exact not_of (wpAny_truthy_bool ⟨.bl (!c), H1, I1, rfl, q1⟩)
/-- a if t else b -/
def tIf (t : TT) (ta tb : TE) : TE := fun σ H Q => t σ H fun c H1 => if c = true then ta σ H1 Q else tb σ H1 Q
theorem pe_ifExp {c : Expr} (hc : PT X c tA) (ha : PE X a ta) (hb : PE X b tb) : PE X (.IfExp c a b pos) (tIf tA ta tb) := by
  intro pins s σ H Q I h
  refine wpAny_IfExp (thn (hc pins s σ H _ I h) fun d s1 ⟨H1, I1, q1⟩ => ?_)
  cases d with
  | true => exact ha pins s1 σ H1 Q I1 q1
  | false => exact hb pins s1 σ H1 Q I1 q1
end
end L2

namespace L2
open PySem PySem.Spec PyProof.Rows

/-! ### a list, a tuple that is read: tracked, frozen, or an object of the module -/
def SqL (K : PySem.W.Frag) (H : Hp) (a : Addr) (xs : List V) : Prop :=
  Rd H a (.lst xs) ∨
    ∃ (o : Obj) (its : Array Value) (n : Nat), K.lookup a = some o ∧ o.cls = .type "list" ∧ o.dict = none ∧ o.data = .seq its n ∧ its.size ≤ sizeLine ∧ Vals xs its.toList
def SqT (K : PySem.W.Frag) (H : Hp) (a : Addr) (xs : List V) : Prop :=
  Rd H a (.tup xs) ∨
    ∃ (o : Obj) (its : Array Value) (n : Nat), K.lookup a = some o ∧ o.cls = .type "tuple" ∧ o.data = .seq its n ∧ its.size ≤ sizeLine ∧ Vals xs its.toList
def absV : Value → Option V
  | .none => some .non
  | .bool b => some (.bl b)
  | .int i _ => some (.int i)
  | .str x _ => some (.str x)
  | .bytes b _ => some (.byt b)
  | .float b _ => some (.flt b)
  | .ref a => some (.ref a)
  | .type n => some (.ty n)
  | _ => none
theorem RelV.abs {x : V} {u : Value} (r : RelV x u) : absV u = some x := by
  cases x with
  | non => cases r; rfl
  | bl _ => cases r; rfl
  | int _ => obtain ⟨t, rfl⟩ := r; rfl
  | str _ => obtain ⟨t, rfl⟩ := r; rfl
  | byt _ => obtain ⟨t, rfl⟩ := r; rfl
  | flt _ => obtain ⟨t, rfl⟩ := r; rfl
  | ref _ => cases r; rfl
  | ty _ => cases r; rfl
theorem RelV.inj {x y : V} {u : Value} (r : RelV x u) (q : RelV y u) : x = y := Option.some.inj (r.abs.symm.trans q.abs)
theorem Vals.inj : ∀ {xs ys : List V} {us : List Value}, Vals xs us → Vals ys us → xs = ys
  | _, _, _, .nil, .nil => rfl
  | _, _, _, .cons r t, .cons r' t' => by rw [r.inj r', Vals.inj t t']
section
variable {X : Cx} {pins : List (Addr × Obj)} {σ : St} {H : Hp} {s : Shared} {a : Addr} {xs ys : List V}
theorem SqL.of {K : PySem.W.Frag} (h : H a = some (.lst xs)) : SqL K H a xs := .inl (.inl h)
theorem SqT.of {K : PySem.W.Frag} (h : H a = some (.tup xs)) : SqT K H a xs := .inl (.inl h)
theorem Inv.list (I : Inv X pins σ H s) (h : SqL X.K H a xs) : ∃ its : List Value, Vals xs its ∧ PlainL s.heap a its.toArray ∧ xs.length ≤ sizeLine := by
  rcases h with h | ⟨o, its, n, hk, hc, hd, hs, hz, r⟩
  · obtain ⟨z, its, n, r, e⟩ := h.ok I.hok
    exact ⟨its, r, ⟨_, n, e, rfl, rfl, rfl⟩, z⟩
  · refine ⟨its.toList, r, ⟨o, n, I.kIn a o hk, hc, hd, by simpa using hs⟩, ?_⟩
    have e := r.length
    simp only [Array.length_toList] at e
    omega
theorem Inv.tuple (I : Inv X pins σ H s) (h : SqT X.K H a xs) : ∃ its : List Value, Vals xs its ∧ IsTup s.heap a its.toArray ∧ xs.length ≤ sizeLine := by
  rcases h with h | ⟨o, its, n, hk, hc, hs, hz, r⟩
  · obtain ⟨z, its, r, p⟩ := h.ok I.hok
    exact ⟨its, r, p, z⟩
  · refine ⟨its.toList, r, ⟨o, I.kIn a o hk, hc, n, by simpa using hs⟩, ?_⟩
    have e := r.length
    simp only [Array.length_toList] at e
    omega
theorem Inv.list_inj (I : Inv X pins σ H s) (h : SqL X.K H a xs) (h' : SqL X.K H a ys) : xs = ys := by
  obtain ⟨its, r, ⟨o, n, e, _, _, d⟩, _⟩ := I.list h
  obtain ⟨its', r', ⟨o', n', e', _, _, d'⟩, _⟩ := I.list h'
  rw [e] at e'; cases e'
  rw [d] at d'
  injection d' with d1 _
  have : its = its' := by simpa using congrArg Array.toList d1
  subst this
  exact r.inj r'
theorem Inv.tuple_inj (I : Inv X pins σ H s) (h : SqT X.K H a xs) (h' : SqT X.K H a ys) : xs = ys := by
  obtain ⟨its, r, ⟨o, e, _, n, d⟩, _⟩ := I.tuple h
  obtain ⟨its', r', ⟨o', e', _, n', d'⟩, _⟩ := I.tuple h'
  rw [e] at e'; cases e'
  rw [d] at d'
  injection d' with d1 _
  have : its = its' := by simpa using congrArg Array.toList d1
  subst this
  exact r.inj r'
end

/-! ### another wish about exceptions -/
abbrev Cx.wish (X : Cx) (E : Value → Shared → Prop) : Cx := { X with xe := E }
/-- no exception leaves -/
abbrev Cx.nox (X : Cx) : Cx := X.wish fun _ _ => False
theorem Cx.Ok.wish {X : Cx} (ok : X.Ok) (E : Value → Shared → Prop) : (X.wish E).Ok :=
  ⟨ok.mod, ok.kind, ok.glob, ok.blt, ok.above, ok.inj, ok.has, ok.cab, ok.hd, ok.frames, ok.stk, ok.exf, ok.bs, ok.bsz, ok.noex, ok.exfs, ok.funs, ok.frf⟩
theorem Cx.Ok.unwish {X : Cx} {E : Value → Shared → Prop} (ok : (X.wish E).Ok) : X.Ok :=
  ⟨ok.mod, ok.kind, ok.glob, ok.blt, ok.above, ok.inj, ok.has, ok.cab, ok.hd, ok.frames, ok.stk, ok.exf, ok.bs, ok.bsz, ok.noex, ok.exfs, ok.funs, ok.frf⟩
section
variable {X : Cx} {pins : List (Addr × Obj)} {σ : St} {H : Hp} {s : Shared} {E : Value → Shared → Prop}
theorem Inv.wish (I : Inv X pins σ H s) (E : Value → Shared → Prop) : Inv (X.wish E) pins σ H s := ⟨I.ok.wish E, I.os, I.bare, I.base, I.loc, I.cell, I.free, I.freeC, I.pin, I.hok, I.len⟩
theorem Inv.unwish (I : Inv (X.wish E) pins σ H s) : Inv X pins σ H s := ⟨I.ok.unwish, I.os, I.bare, I.base, I.loc, I.cell, I.free, I.freeC, I.pin, I.hok, I.len⟩
theorem SP.unwish {D : Ends} {f : Flow} {s' : Shared} (h : SP (X.wish E) pins D f s') : SP X pins D f s' := by
  cases f with
  | next => obtain ⟨σ', H', I, q⟩ := h; exact ⟨σ', H', I.unwish, q⟩
  | brk => obtain ⟨σ', H', I, q⟩ := h; exact ⟨σ', H', I.unwish, q⟩
  | cont => obtain ⟨σ', H', I, q⟩ := h; exact ⟨σ', H', I.unwish, q⟩
  | ret u => obtain ⟨v, σ', H', I, r, q⟩ := h; exact ⟨v, σ', H', I.unwish, r, q⟩
theorem PSs.nox {st : List Stmt} {t : TS} (h : PSs X.nox st t) : PSs X st t := fun pins s σ H D I hw =>
  wpAny_mono (h pins s σ H D (I.wish _) hw) (fun _ _ q => q.unwish) fun _ _ z => False.elim z
end

/-! ### blocks and small statements -/
section
variable {X : Cx} {st : Stmt} {rest : List Stmt} {t u : TS} {e : Expr} {te : TE} {pos : Pos}
def tNext : TS := fun D σ H => D.nx σ H
def tSeq (t u : TS) : TS := fun D σ H => t { D with nx := u D } σ H
theorem pss_nil : PSs X [] tNext := fun _ _ σ H _ I h => wpAny_execs_nil ⟨σ, H, I, h⟩
theorem pss_cons (h1 : PS X st t) (h2 : PSs X rest u) : PSs X (st :: rest) (tSeq t u) := by
  intro pins s σ H D I h
  refine wpAny_execs_cons (thn (h1 pins s σ H { D with nx := u D } I h) fun f s1 q => ?_)
  cases f with
  | next =>
    obtain ⟨σ', H', I', q⟩ := q
    exact h2 pins s1 σ' H' D I' q
  | ret v => exact q
  | brk => exact q
  | cont => exact q
theorem pss_one (h1 : PS X st t) : PSs X [st] t := by
  intro pins s σ H D I h
  refine wpAny_execs_cons (thn (h1 pins s σ H D I h) fun f s1 q => ?_)
  cases f with
  | next => exact wpAny_execs_nil q
  | ret v => exact q
  | brk => exact q
  | cont => exact q
/-- in a def's body nothing is shown -/
theorem Inv.quiet {pins : List (Addr × Obj)} {σ : St} {H : Hp} {s : Shared} (I : Inv X pins σ H s) : interactive X.env = false := by simp [interactive, I.ok.kind]
/-- an expression whose value is dropped -/
def tDrop (te : TE) : TS := fun D σ H => te σ H fun _ H1 => D.nx σ H1
theorem ps_expr (he : PE X e te) (hs : swapsWith e none pos.line X.env = pure false := by rfl) : PS X (.Expr e pos) (tDrop te) := by
  intro pins s σ H D I h
  exact wpAny_Expr_any (thn (he pins s σ H _ I h) fun v s1 ⟨x, H1, I1, r1, q1⟩ => ⟨σ, H1, I1, q1⟩) I.quiet hs
def tRet (te : TE) : TS := fun D σ H => te σ H D.rt
theorem ps_ret (he : PE X e te) : PS X (.Return (some e) pos) (tRet te) := by
  intro pins s σ H D I h
  exact wpAny_Return_some (thn (he pins s σ H _ I h) fun v s1 ⟨x, H1, I1, r1, q1⟩ => ⟨x, σ, H1, I1, r1, q1⟩)
def tIfS (c : TT) (t u : TS) : TS := fun D σ H => c σ H fun b H1 => if b = true then t D σ H1 else u D σ H1
theorem ps_if {c : Expr} {a b : List Stmt} {tc : TT} (hc : PT X c tc) (ha : PSs X a t) (hb : PSs X b u) : PS X (.If c a b pos) (tIfS tc t u) := by
  intro pins s σ H D I h
  refine wpAny_If (thn (hc pins s σ H _ I h) fun d s1 ⟨H1, I1, q1⟩ => ?_)
  cases d with
  | true => exact ha pins s1 σ H1 D I1 q1
  | false => exact hb pins s1 σ H1 D I1 q1
end

/-! ### targets -/
abbrev TG := V → St → Hp → (St → Hp → Prop) → Prop
abbrev TGs := List V → St → Hp → (St → Hp → Prop) → Prop
def PG (X : Cx) (target : Expr) (t : TG) : Prop :=
  ∀ (pins : List (Addr × Obj)) (s : Shared) (σ : St) (H : Hp) (v : V) (u : Value) (Q : St → Hp → Prop), Inv X pins σ H s → RelV v u → t v σ H Q →
    wpAny (model X.prog X.w) X.A (assign target X.env u) (fun _ s' => ∃ σ' H', Inv X pins σ' H' s' ∧ Q σ' H') X.xe s
/-- several targets, one after another -/
def PGs (X : Cx) (ts : List Expr) (t : TGs) : Prop :=
  ∀ (pins : List (Addr × Obj)) (s : Shared) (σ : St) (H : Hp) (vs : List V) (us : List Value) (Q : St → Hp → Prop), Inv X pins σ H s → Vals vs us → t vs σ H Q →
    wpAny (model X.prog X.w) X.A (assignInOrder ((assignEach ts X.env).map (·.2)) us) (fun _ s' => ∃ σ' H', Inv X pins σ' H' s' ∧ Q σ' H') X.xe s
/-- o[i] = v, by values -/
abbrev TSet := V → V → V → Hp → (Hp → Prop) → Prop
def PSet (X : Cx) (t : TSet) : Prop :=
  ∀ (pins : List (Addr × Obj)) (s : Shared) (σ : St) (H : Hp) (o i v : V) (ov iv u : Value) (Q : Hp → Prop), Inv X pins σ H s → RelV o ov → RelV i iv → RelV v u → t o i v H Q →
    wpAny (model X.prog X.w) X.A (setItem ov iv u) (fun _ s' => ∃ H', Inv X pins σ H' s' ∧ Q H') X.xe s
/-- a op= b, by values -/
abbrev TIp := V → V → Hp → VK → Prop
def PIp (X : Cx) (op : Operator) (t : TIp) : Prop :=
  ∀ (pins : List (Addr × Obj)) (s : Shared) (σ : St) (H : Hp) (x y : V) (v u : Value) (Q : VK), Inv X pins σ H s → RelV x v → RelV y u → t x y H Q →
    wpAny (model X.prog X.w) X.A (inplaceOp op v u) (EP X pins σ Q) X.xe s
section
variable {X : Cx} {pos : Pos}
def gName (i : Nat) : TG := fun v σ H Q => Q (σ.set i (some v)) H
theorem pg_name {i : Nat} {x : Str} (hN : X.N.Nodup) (hi : X.N[i]? = some x) (hx : Loc X.env.scope x) (hf : X.fn x = true ∨ X.env.scope.names.lookup x = some .local := by first | exact .inl rfl | exact .inr rfl | assumption) : PG X (.Name x pos) (gName i) := by
  intro pins s σ H v u Q I r h
  exact wpAny_assign_Name (store_ok I hN hi hx r (fun s' I' => ⟨_, H, I', h⟩) hf)
def gNil : TGs := fun vs σ H Q => vs = [] ∧ Q σ H
def gCons (t : TG) (u : TGs) : TGs := fun vs σ H Q => ∃ v r, vs = v :: r ∧ t v σ H fun σ' H' => u r σ' H' Q
theorem pgs_nil : PGs X [] gNil := by
  intro pins s σ H vs us Q I r h
  obtain ⟨e, h⟩ := h
  subst e
  cases r
  exact assignInOrder_nil ⟨σ, H, I, h⟩
theorem pgs_cons {e : Expr} {es : List Expr} {t : TG} {u : TGs} (h1 : PG X e t) (h2 : PGs X es u)
    (hs : (assignEach (e :: es) X.env).map (·.2) = assign e X.env :: (assignEach es X.env).map (·.2) := by rfl) : PGs X (e :: es) (gCons t u) := by
  intro pins s σ H vs us Q I r h
  obtain ⟨v, vr, e1, h⟩ := h
  subst e1
  cases r with
  | cons r rr =>
    rw [hs]
    refine assignInOrder_cons (thn (h1 pins s σ H _ _ _ I r h) fun _ s1 ⟨σ1, H1, I1, q1⟩ => ?_)
    exact h2 pins s1 σ1 H1 _ _ Q I1 rr q1
/-- (a, b, ..) = a tuple of that length -/
def gTup (K : PySem.W.Frag) (n : Nat) (t : TGs) : TG := fun v σ H Q => ∃ a xs, v = .ref a ∧ SqT K H a xs ∧ xs.length = n ∧ t xs σ H Q
/-- o[i] = .. -/
def gSub (to ti : TE) (t : TSet) : TG := fun v σ H Q => to σ H fun o H1 => ti σ H1 fun i H2 => t o i v H2 fun H3 => Q σ H3
theorem pg_sub {o i : Expr} {to ti : TE} {t : TSet} (ho : PE X o to) (hi : PE X i ti) (hs : PSet X t)
    (ha : ∀ v, assign (.Subscript o i pos) X.env v = (do
      let ov ← holding [v] (eval o X.env)
      let iv ← holding [v, ov] (eval i X.env)
      standAt pos
      holding [v, ov, iv] (setItem ov iv v)
      release [v, ov, iv] []) := by intro _; rfl) : PG X (.Subscript o i pos) (gSub to ti t) := by
  intro pins s σ H v u Q I r h
  rw [ha]
  refine wpAny_bind (wpAny_holding (thn (ho pins s σ H _ I h) fun ov s1 ⟨x, H1, I1, r1, q1⟩ => ?_))
  refine wpAny_bind (wpAny_holding (thn (hi pins s1 σ H1 _ I1 q1) fun iv s2 ⟨y, H2, I2, r2, q2⟩ => ?_))
  refine wpAny_bind (wpAny_standAt (wpAny_bind (wpAny_holding (thn (hs pins s2 σ H2 x y v ov iv u _ I2 r1 r2 r q2) fun _ s3 ⟨H3, I3, q3⟩ => ?_))))
  exact wpAny_release ⟨σ, H3, I3, q3⟩
/-- target = value -/
def tAsg (te : TE) (g : TG) : TS := fun D σ H => te σ H fun x H1 => g x σ H1 D.nx
theorem ps_asg {tg e : Expr} {te : TE} {g : TG} (he : PE X e te) (hg : PG X tg g) (hs : swapsWithSole [tg] e pos.line X.env = pure false := by rfl) (hw : swappedStores [tg] e X.env = pure none := by rfl)
    (h1 : (assignEach [tg] X.env).map (·.2) = [assign tg X.env] := by rfl) : PS X (.Assign [tg] e pos) (tAsg te g) := by
  intro pins s σ H D I h
  refine wpAny_Assign_stores (thn (he pins s σ H _ I h) fun v s1 ⟨x, H1, I1, r1, q1⟩ => ?_) hs hw
  rw [h1]
  exact thn (hg pins s1 σ H1 x v _ I1 r1 q1) fun _ s2 q => q
/-- name = value -/
theorem ps_set {i : Nat} {x : Str} {e : Expr} {te : TE} {pos' : Pos} (hN : X.N.Nodup) (hi : X.N[i]? = some x) (hx : Loc X.env.scope x) (he : PE X e te) (hs : swapsWith e (some (.Name x pos')) pos.line X.env = pure false := by rfl) (hf : X.fn x = true ∨ X.env.scope.names.lookup x = some .local := by first | exact .inl rfl | exact .inr rfl | assumption) :
    PS X (.Assign [.Name x pos'] e pos) (tAsg te (gName i)) := by
  intro pins s σ H D I h
  refine wpAny_Assign_Name (thn (he pins s σ H _ I h) fun v s1 ⟨y, H1, I1, r1, q1⟩ => ?_) hs
  exact store_ok I1 hN hi hx r1 (fun s2 I2 => ⟨_, H1, I2, q1⟩) hf
/-- o[i], by values -/
def PGet (X : Cx) (t : V → V → Hp → VK → Prop) : Prop :=
  ∀ (pins : List (Addr × Obj)) (s : Shared) (σ : St) (H : Hp) (o i : V) (ov iv : Value) (Q : VK), Inv X pins σ H s → RelV o ov → RelV i iv → t o i H Q →
    wpAny (model X.prog X.w) X.A (getItem ov iv) (EP X pins σ Q) X.xe s
end

/-! ### while -/
section
variable {X : Cx} {pos : Pos}
end

/-! ### what a loop or a comprehension walks -/
/-- at turn i: it yields x (the heap may grow), or it stops -/
structure It where
  go : Nat → Hp → Prop
  yld : Nat → Hp → V → Hp → Prop
  stop : Nat → Hp → Prop
/-- the iterator's own objects may turn: they are not the frame's, not pinned, younger than the entry (or a comprehension's own) -/
def FpOk (X : Cx) (pins : List (Addr × Obj)) (H : Hp) (b : Addr) : Prop :=
  H b = none ∧ b ≠ X.env.locals ∧ b ∉ X.fs ∧ (b ∈ X.ex ∨ X.s₀.heap.objs.size ≤ b) ∧ (∀ x c, X.env.cells.lookup x = some c → c ≠ b) ∧ ∀ p ∈ X.pn ++ pins, p.1 ≠ b
theorem Inv.fpOk {X : Cx} {pins : List (Addr × Obj)} {σ : St} {H H' : Hp} {s : Shared} {b : Addr} (I : Inv X pins σ H s) (hb : s.heap.objs.size ≤ b) (hn : H' b = none) : FpOk X pins H' b := by
  refine ⟨hn, Nat.ne_of_gt (Nat.lt_of_lt_of_le I.lt hb), I.nofs hb, .inr (Nat.le_trans I.sz hb), fun x c e z => ?_, fun p hp z => ?_⟩
  · obtain ⟨v, q⟩ := I.cell x c e
    exact absurd (Nat.lt_of_lt_of_le q.lt (by rw [z]; exact hb)) (Nat.lt_irrefl _)
  · exact absurd (Nat.lt_of_lt_of_le (Heap.lt_size (I.pin p hp).1) (by rw [z]; exact hb)) (Nat.lt_irrefl _)
structure Turn (P : Program) (w : World) (K : PySem.W.Frag) (tg : Expr) (J : It) (fp : List Addr) (it : Addr) (tn : Nat → Heap → Prop) : Prop where
  mem : it ∈ fp
  obj : ∀ i h, tn i h → ∀ b ∈ fp, ∃ o, h.get? b = some o ∧ ∀ v, o.data ≠ .cell v
  keep : ∀ i h h', tn i h → (∀ b ∈ fp, ∀ o, h.get? b = some o → h'.get? b = some o) → tn i h'
  item : ∀ (X : Cx), X.prog = P → X.w = w → X.K = K → X.calm = true → ∀ (i : Nat) (pins : List (Addr × Obj)) (s : Shared) (σ : St) (H : Hp) (E : Value → Shared → Prop), Inv X pins σ H s → (∀ b ∈ fp, FpOk X pins H b) → tn i s.heap → J.go i H →
    wpAny (model P w) X.A (pyNext (.ref it)) (fun r s1 => ∃ u, r = some u ∧
      wpAny (model P w) X.A (letOwnedTupleGo tg (.ref it) u) (fun _ s2 => ∃ x H', Inv X pins σ H' s2 ∧ RelV x u ∧ J.yld i H x H' ∧ tn (i + 1) s2.heap ∧ ∀ b ∈ fp, H' b = none) E s1) E s
  done : ∀ (X : Cx), X.prog = P → X.w = w → X.K = K → X.calm = true → ∀ (i : Nat) (pins : List (Addr × Obj)) (s : Shared) (σ : St) (H : Hp) (E : Value → Shared → Prop), Inv X pins σ H s → (∀ b ∈ fp, FpOk X pins H b) → tn i s.heap → J.stop i H →
    wpAny (model P w) X.A (pyNext (.ref it)) (fun r s1 => r = none ∧ Inv X pins σ H s1) E s
  self : ∀ (A : Around) (i : Nat) (s : Shared) (Q : Value → Shared → Prop) (E : Value → Shared → Prop), tn i s.heap → Q (.ref it) s → wpAny (model P w) A (pyIter (.ref it)) Q E s
abbrev TI := St → Hp → (It → Hp → Prop) → Prop
/-- an iterator has come -/
def PIE (X : Cx) (pins : List (Addr × Obj)) (σ : St) (tg : Expr) (R : It → Hp → Prop) (itv : Value) (s2 : Shared) : Prop :=
  ∃ (it : Addr) (fp : List Addr) (tn : Nat → Heap → Prop) (J : It) (H' : Hp), itv = .ref it ∧ Inv X pins σ H' s2 ∧ Turn X.prog X.w X.K tg J fp it tn ∧ tn 0 s2.heap ∧ (∀ b ∈ fp, FpOk X pins H' b) ∧ R J H'
def PI (X : Cx) (tg iter : Expr) (wi : TI) : Prop :=
  ∀ (pins : List (Addr × Obj)) (s : Shared) (σ : St) (H : Hp) (R : It → Hp → Prop), Inv X pins σ H s → wi σ H R →
    wpAny (model X.prog X.w) X.A (eval iter X.env) (fun v s1 => wpAny (model X.prog X.w) X.A (pyIter v) (PIE X pins σ tg R) X.xe s1) X.xe s

/-- the step ahead of the store is nothing for an iterator that keeps no tuple -/
theorem go_of {M : Model} {A : Around} {E : Value → Shared → Prop} {s : Shared} {tg : Expr} {it : Addr} {u : Value} {o : Obj} {n : String} {vs : Array Value} {Q : Unit → Shared → Prop} (ho : s.heap.get? it = some o) (hc : o.cls = .type n) (hd : o.data = .fields vs)
    (hn : ["enumerate", "zip", "dict_itemiterator", "dict_reverseitemiterator", "odict_iterator", "itertools.zip_longest", "itertools.pairwise"].contains n = false) (hQ : Q () s) : wpAny M A (letOwnedTupleGo tg (.ref it) u) Q E s := by
  unfold letOwnedTupleGo
  cases tg <;> first
    | exact wpAny_pure hQ
    | (cases u <;> first
        | exact wpAny_pure hQ
        | (refine wpAny_bind (wpAny_load ho ?_)
           rw [hc, hd]
           show wpAny M A (if (["enumerate", "zip", "dict_itemiterator", "dict_reverseitemiterator", "odict_iterator", "itertools.zip_longest", "itertools.pairwise"].contains n && vs[0]? == some (rawInt _)) = true then _ else _) Q E s
           rw [if_neg (by intro h; rw [hn, Bool.false_and] at h; cases h)]
           exact wpAny_pure hQ))

/-- the list at a, as it stands at each turn (a loop may append to it) -/
def Itl (K : PySem.W.Frag) (a : Addr) : It :=
  ⟨fun i H => ∃ xs x, SqL K H a xs ∧ xs[i]? = some x, fun i H x H' => H' = H ∧ ∀ xs, SqL K H a xs → xs[i]? = some x, fun i H => ∃ xs, SqL K H a xs ∧ xs.length ≤ i⟩
def Itt (K : PySem.W.Frag) (a : Addr) : It :=
  ⟨fun i H => ∃ xs x, SqT K H a xs ∧ xs[i]? = some x, fun i H x H' => H' = H ∧ ∀ xs, SqT K H a xs → xs[i]? = some x, fun i H => ∃ xs, SqT K H a xs ∧ xs.length ≤ i⟩
/-- lo, lo + 1, .. (n of them) -/
def Itr (lo : Int) (n : Nat) : It := ⟨fun i _ => i < n, fun i H x H' => H' = H ∧ x = .int (lo + i), fun i _ => n ≤ i⟩
theorem turn_list {P : Program} {w : World} {K : PySem.W.Frag} {tg : Expr} (a it : Addr) : Turn P w K tg (Itl K a) [it] it (fun i h => h.IsListIter it a i) where
  mem := by simp
  obj := fun i h st b hb => by
    have e : b = it := by simpa using hb
    subst e
    obtain ⟨o, e, c, d⟩ := st
    exact ⟨o, e, fun v z => by rw [d] at z; cases z⟩
  keep := fun i h h' st k => st.at fun o e => k it (by simp) o e
  item := by
    intro X hP hw hK hc i pins s σ H E I hf st hg
    subst hP hw hK
    obtain ⟨xs, x, hq, hx⟩ := hg
    obtain ⟨its, rv, p, hz⟩ := I.list hq
    obtain ⟨u, hu, ru⟩ := rv.get hx
    obtain ⟨f0, f1, f2, f3, f4, f5⟩ := hf it (by simp)
    refine wpAny_pyNext_list_item st p.isList (x := u) (by simpa using hu) fun h' st' sb => ?_
    have I1 : Inv X pins σ H { s with heap := h' } := I.turned (t' := s.toks) (fun b o hb e => (sb.2 b hb).trans e) f0 f1 f3 f4 f5
    obtain ⟨o, e, c, d⟩ := id st'
    exact ⟨u, rfl, go_of (s := { s with heap := h' }) e c d (by decide) ⟨x, H, I1, ru, ⟨rfl, fun ys hy => by rw [I.list_inj hy hq]; exact hx⟩, st', fun b hb => (hf b hb).1⟩⟩
  done := by
    intro X hP hw hK hc i pins s σ H E I hf st hg
    subst hP hw hK
    obtain ⟨xs, hq, hx⟩ := hg
    obtain ⟨its, rv, p, hz⟩ := I.list hq
    obtain ⟨f0, f1, f2, f3, f4, f5⟩ := hf it (by simp)
    have hl := rv.length
    exact wpAny_pyNext_list_end (I.ok.hd hc) st p.isList (by simp; omega) fun h' eb => ⟨rfl, I.turned (t' := s.toks) (fun b o hb e => eb b o hb e) f0 f1 f3 f4 f5⟩
  self := fun _ _ _ _ _ st h => wpAny_pyIter_listiter st h
theorem turn_tuple {P : Program} {w : World} {K : PySem.W.Frag} {tg : Expr} (a it : Addr) : Turn P w K tg (Itt K a) [it] it (fun i h => h.IsTupleIter it a i) where
  mem := by simp
  obj := fun i h st b hb => by
    have e : b = it := by simpa using hb
    subst e
    obtain ⟨o, e, c, d⟩ := st
    exact ⟨o, e, fun v z => by rw [d] at z; cases z⟩
  keep := fun i h h' st k => st.at fun o e => k it (by simp) o e
  item := by
    intro X hP hw hK hc i pins s σ H E I hf st hg
    subst hP hw hK
    obtain ⟨xs, x, hq, hx⟩ := hg
    obtain ⟨its, rv, p, hz⟩ := I.tuple hq
    obtain ⟨u, hu, ru⟩ := rv.get hx
    obtain ⟨f0, f1, f2, f3, f4, f5⟩ := hf it (by simp)
    refine wpAny_pyNext_tuple_item st (show s.heap.IsTuple a its.toArray from p) (x := u) (by simpa using hu) fun h' st' sb => ?_
    have I1 : Inv X pins σ H { s with heap := h' } := I.turned (t' := s.toks) (fun b o hb e => (sb.2 b hb).trans e) f0 f1 f3 f4 f5
    obtain ⟨o, e, c, d⟩ := id st'
    exact ⟨u, rfl, go_of (s := { s with heap := h' }) e c d (by decide) ⟨x, H, I1, ru, ⟨rfl, fun ys hy => by rw [I.tuple_inj hy hq]; exact hx⟩, st', fun b hb => (hf b hb).1⟩⟩
  done := by
    intro X hP hw hK hc i pins s σ H E I hf st hg
    subst hP hw hK
    obtain ⟨xs, hq, hx⟩ := hg
    obtain ⟨its, rv, p, hz⟩ := I.tuple hq
    obtain ⟨f0, f1, f2, f3, f4, f5⟩ := hf it (by simp)
    have hl := rv.length
    exact wpAny_pyNext_tuple_end (I.ok.hd hc) st (show s.heap.IsTuple a its.toArray from p) (by simp; omega) fun h' eb => ⟨rfl, I.turned (t' := s.toks) (fun b o hb e => eb b o hb e) f0 f1 f3 f4 f5⟩
  self := fun _ _ _ _ _ st h => wpAny_pyIter_tupleiter st h
theorem turn_range {P : Program} {w : World} {K : PySem.W.Frag} {tg : Expr} (it : Addr) (lo : Int) (n : Nat) : Turn P w K tg (Itr lo n) [it] it (fun i h => IsRangeIter h it (lo + (i : Nat) * 1) ((n : Int) - (i : Nat)) 1) where
  mem := by simp
  obj := fun i h st b hb => by
    have e : b = it := by simpa using hb
    subst e
    exact ⟨_, st, fun v z => by
      have z' : Data.fields _ = Data.cell v := z
      cases z'⟩
  keep := fun i h h' st k => k it (by simp) _ st
  item := by
    intro X hP hw hK hc i pins s σ H E I hf st hg
    subst hP hw hK
    obtain ⟨f0, f1, f2, f3, f4, f5⟩ := hf it (by simp)
    have W := Walks.range (prog := X.prog) (w := X.w) (I.ok.hd hc) it lo 1 n
    refine W.item i s _ _ hg st fun v h' tk hv st' kk => ?_
    obtain ⟨t, rfl⟩ := hv
    have I1 : Inv X pins σ H { s with heap := h', toks := tk } := I.turned (fun b o hb e => kk b o (by simpa using hb) e) f0 f1 f3 f4 f5
    refine ⟨_, rfl, go_of (s := { s with heap := h', toks := tk }) (n := "range_iterator") st' rfl rfl (by decide) ⟨.int (lo + i), H, I1, ⟨t, ?_⟩, ⟨rfl, rfl⟩, st', fun b hb => (hf b hb).1⟩⟩
    rw [Int.mul_one]
  done := by
    intro X hP hw hK hc i pins s σ H E I hf st hg
    subst hP hw hK
    obtain ⟨f0, f1, f2, f3, f4, f5⟩ := hf it (by simp)
    exact wpAny_pyNext_range_end (I.ok.hd hc) st (by have : n ≤ i := hg; omega) fun h' eb => ⟨rfl, I.turned (t' := s.toks) (fun b o hb e => eb b o hb e) f0 f1 f3 f4 f5⟩
  self := fun _ _ _ _ _ st h => wpAny_pyIter_rangeiter st h
end L2

namespace L2
open PySem PySem.Spec PyProof.Rows
section
variable {X : Cx} {tg : Expr}
def iList (K : PySem.W.Frag) (tl : TE) : TI := fun σ H R => tl σ H fun x H1 => ∃ a, x = .ref a ∧ (∃ xs, SqL K H1 a xs) ∧ R (Itl K a) H1
def iTup (K : PySem.W.Frag) (tl : TE) : TI := fun σ H R => tl σ H fun x H1 => ∃ a, x = .ref a ∧ (∃ xs, SqT K H1 a xs) ∧ R (Itt K a) H1
theorem pi_list {l : Expr} {tl : TE} (hl : PE X l tl) : PI X tg l (iList X.K tl) := by
  intro pins s σ H R I h
  refine thn (hl pins s σ H _ I h) fun v s1 ⟨x, H1, I1, r1, q1⟩ => ?_
  obtain ⟨a, e, ⟨xs, hq⟩, q⟩ := q1
  subst e
  cases r1
  obtain ⟨its, rv, p, hz⟩ := I1.list hq
  refine wpAny_pyIter_list p.isList ?_
  refine ⟨s1.heap.objs.size, [s1.heap.objs.size], _, _, H1, rfl, I1.kept (t' := s1.toks) fun b o e => Heap.get?_push_of_some _ e, turn_list a _, ⟨_, Heap.get?_push_size _ rfl, rfl, rfl⟩, fun b hb => ?_, q⟩
  have e : b = s1.heap.objs.size := by simpa using hb
  subst e
  exact I1.fpOk (Nat.le_refl _) (I1.hok.fresh (Nat.le_refl _))
theorem pi_tup {l : Expr} {tl : TE} (hl : PE X l tl) : PI X tg l (iTup X.K tl) := by
  intro pins s σ H R I h
  refine thn (hl pins s σ H _ I h) fun v s1 ⟨x, H1, I1, r1, q1⟩ => ?_
  obtain ⟨a, e, ⟨xs, hq⟩, q⟩ := q1
  subst e
  cases r1
  obtain ⟨its, rv, p, hz⟩ := I1.tuple hq
  refine wpAny_pyIter_tuple (show s1.heap.IsTuple a its.toArray from p) ?_
  refine ⟨s1.heap.objs.size, [s1.heap.objs.size], _, _, H1, rfl, I1.kept (t' := s1.toks) fun b o e => Heap.get?_push_of_some _ e, turn_tuple a _, ⟨_, Heap.get?_push_size _ rfl, rfl, rfl⟩, fun b hb => ?_, q⟩
  have e : b = s1.heap.objs.size := by simpa using hb
  subst e
  exact I1.fpOk (Nat.le_refl _) (I1.hok.fresh (Nat.le_refl _))
/-- a range object just made, walked -/
theorem range_it {pins : List (Addr × Obj)} {σ : St} {H : Hp} {s : Shared} {R : It → Hp → Prop} {E : Value → Shared → Prop} {lo hi : Int} {t u v : Tok} {tk : Nat} (I : Inv X pins σ H s) (h1 : -(2 ^ 62) ≤ lo) (h2 : lo < 2 ^ 62) (h3 : -(2 ^ 62) ≤ hi) (h4 : hi < 2 ^ 62)
    (q : R (Itr lo (hi - lo).toNat) H) : wpAny (model X.prog X.w) X.A (pyIter (.ref s.heap.objs.size)) (PIE X pins σ tg R) E { s with heap := s.heap.push { cls := .type "range", data := .fields #[.int lo t, .int hi u, .int 1 v] }, toks := tk } := by
  refine wpAny_pyIter_range (IsRange.new ..) (small_one h1 h2 h3 h4) ?_
  have I1 : Inv X pins σ H { s with heap := s.heap.push { cls := .type "range", data := .fields #[.int lo t, .int hi u, .int 1 v] }, toks := tk } := I.kept fun b o e => Heap.get?_push_of_some _ e
  refine ⟨(s.heap.push { cls := .type "range", data := .fields #[.int lo t, .int hi u, .int 1 v] }).objs.size, [(s.heap.push { cls := .type "range", data := .fields #[.int lo t, .int hi u, .int 1 v] }).objs.size], _, _, H, rfl,
    I1.kept (t' := tk) fun b o e => Heap.get?_push_of_some _ e, turn_range _ lo (hi - lo).toNat, ?_, fun b hb => ?_, q⟩
  · have e1 : lo + ((0 : Nat) : Int) * 1 = lo := by simp
    have e2 : (((hi - lo).toNat : Nat) : Int) - ((0 : Nat) : Int) = Builtin.Range.rangeSize lo hi 1 := by rw [rangeSize_one]; split <;> omega
    show IsRangeIter _ _ (lo + ((0 : Nat) : Int) * 1) ((((hi - lo).toNat : Nat) : Int) - ((0 : Nat) : Int)) 1
    rw [e1, e2]
    exact Heap.get?_push_size _ rfl
  · have e : b = (s.heap.push { cls := .type "range", data := .fields #[.int lo t, .int hi u, .int 1 v] }).objs.size := by simpa using hb
    subst e
    exact I1.fpOk (Nat.le_refl _) (I1.hok.fresh (Nat.le_refl _))
def iRng1 (ta : TA) : TI := fun σ H R => ta σ H fun vs H1 => ∃ j : Int, vs = [.int j] ∧ -(2 ^ 62) ≤ j ∧ j < 2 ^ 62 ∧ R (Itr 0 j.toNat) H1
def iRng2 (ta : TA) : TI := fun σ H R => ta σ H fun vs H1 => ∃ i j : Int, vs = [.int i, .int j] ∧ (-(2 ^ 62) ≤ i ∧ i < 2 ^ 62 ∧ -(2 ^ 62) ≤ j ∧ j < 2 ^ 62) ∧ R (Itr i (j - i).toNat) H1
theorem pi_range1 {a : Expr} {ta : TA} {p pos : Pos} (hg : Gl X "range") (hm : X.mg "range" = none) (ha : PA X [a] ta) (hs : starEach [a] X.env = [(false, eval a X.env)] := by rfl) : PI X tg (.Call (.Name "range" p) [a] [] pos) (iRng1 ta) := by
  intro pins s σ H R I h
  refine Call_ (ld_blt I hg hm boot_range (PyProof.Rows.callWith_type1 (thn (ha pos pins s σ H _ I h) fun us s1 ⟨vs, H1, I1, r1, q1⟩ => ?_) hs rfl))
  obtain ⟨j, e, q1, q2, q⟩ := q1
  subst e
  cases r1 with
  | cons r rr =>
    cases rr
    obtain ⟨t, rfl⟩ := r
    exact call_range_1 (range_it I1 (by omega) (by omega) q1 q2 (by simpa using q))
theorem pi_range2 {a b : Expr} {ta : TA} {p pos : Pos} (hg : Gl X "range") (hm : X.mg "range" = none) (ha : PA X [a, b] ta) (hs : starEach [a, b] X.env = [(false, eval a X.env), (false, eval b X.env)] := by rfl) (hs2 : starEach [b] X.env = [(false, eval b X.env)] := by rfl) :
    PI X tg (.Call (.Name "range" p) [a, b] [] pos) (iRng2 ta) := by
  intro pins s σ H R I h
  refine Call_ (ld_blt I hg hm boot_range (PyProof.Rows.callWith_type1 (thn (ha pos pins s σ H _ I h) fun us s1 ⟨vs, H1, I1, r1, q1⟩ => ?_) (by rw [hs, hs2]) (by rw [hs2]; rfl)))
  obtain ⟨i, j, e, ⟨q1, q2, q3, q4⟩, q⟩ := q1
  subst e
  cases r1 with
  | cons r rr =>
    cases rr with
    | cons r' rr =>
      cases rr
      obtain ⟨t, rfl⟩ := r
      obtain ⟨t', rfl⟩ := r'
      exact call_range_2 (range_it I1 q1 q2 q3 q4 q)

/-! ### for -/
/-- W: the invariant by the turn and a measure; N: what the body is to reach -/
def tFor (wi : TI) (g : TG) (tb : TS) : TS := fun D σ H => wi σ H fun J H1 => ∃ W : Nat → Nat → St → Hp → Prop, (∃ m, W 0 m σ H1) ∧ ∀ i m σ H, W i m σ H →
  (J.stop i H ∧ D.nx σ H) ∨ (J.go i H ∧ ∃ N : St → Hp → Prop, (∀ σ' H', N σ' H' → ∃ m', m' < m ∧ W (i + 1) m' σ' H') ∧ ∀ x H', J.yld i H x H' → g x σ H' fun σ2 H2 => tb { D with nx := N, ct := N, bk := D.nx } σ2 H2)
/-- the records at fp as they stand -/
def pinsAt (fp : List Addr) (h : Heap) : List (Addr × Obj) := fp.filterMap fun b => (h.get? b).map fun o => (b, o)
theorem mem_pinsAt {fp : List Addr} {h : Heap} {b : Addr} {o : Obj} (hb : b ∈ fp) (e : h.get? b = some o) : (b, o) ∈ pinsAt fp h := List.mem_filterMap.mpr ⟨b, hb, by rw [e]; rfl⟩
theorem of_pinsAt {fp : List Addr} {h : Heap} {p : Addr × Obj} (hp : p ∈ pinsAt fp h) : p.1 ∈ fp ∧ h.get? p.1 = some p.2 := by
  obtain ⟨b, hb, e⟩ := List.mem_filterMap.mp hp
  cases q : h.get? b with
  | none => rw [q] at e; cases e
  | some o =>
    rw [q] at e
    have e' : (b, o) = p := Option.some.inj e
    subst e'
    exact ⟨hb, q⟩
theorem Inv.pinned {pins : List (Addr × Obj)} {σ : St} {H : Hp} {s : Shared} {fp : List Addr} (I : Inv X pins σ H s) (hf : ∀ b ∈ fp, FpOk X pins H b) (ho : ∀ b ∈ fp, ∃ o, s.heap.get? b = some o ∧ ∀ v, o.data ≠ .cell v) : Inv X (pins ++ pinsAt fp s.heap) σ H s :=
  I.pins_of fun p hp => (List.mem_append.mp hp).elim (fun z => I.pin p (List.mem_append_right _ z)) fun z => by
    obtain ⟨hb, e⟩ := of_pinsAt z
    obtain ⟨f0, f1, f2, _⟩ := hf p.1 hb
    obtain ⟨o, e', d⟩ := ho p.1 hb
    rw [e] at e'; cases e'
    exact ⟨e, f0, f1, f2, d⟩
theorem Inv.unpinned {pins pl : List (Addr × Obj)} {σ : St} {H : Hp} {s : Shared} (I : Inv X (pins ++ pl) σ H s) : Inv X pins σ H s := I.pins_of fun p hp => I.pin p (List.mem_append_right _ (List.mem_append_left _ hp))
theorem ps_for {iter : Expr} {body : List Stmt} {wi : TI} {g : TG} {tb : TS} {pos : Pos} (hp : PassesOwn (model X.prog X.w) X.A X.env X.xe) (hc : X.calm = true) (hi : PI X tg iter wi) (hg : PG X tg g) (hb : PSs X body tb)
    (hs : ∀ x, foldedSetIterable iter X.env x = pure x := by intro _; rfl) : PS X (.For tg iter body [] pos) (tFor wi g tb) := by
  intro pins s σ H D I h
  refine wpAny_For (thn (hi pins s σ H _ I h) fun v s1 h1 => thn h1 fun itv s2 h2 => ?_) hs
  obtain ⟨it, fp, tn, J, H2, e, I2, T, st2, f2, W, ⟨m0, w0⟩, turn⟩ := h2
  subst e
  -- what stays true of the iterator's objects through the loop
  have stat : ∀ {H' : Hp}, (∀ b ∈ fp, H' b = none) → ∀ b ∈ fp, FpOk X pins H' b := fun hn b hb => ⟨hn b hb, (f2 b hb).2⟩
  refine codeAny_forLoop_any (fun n s' => ∃ i σ' H', Inv X pins σ' H' s' ∧ tn i s'.heap ∧ (∀ b ∈ fp, H' b = none) ∧ W i n σ' H') ?_ m0 ⟨0, σ, H2, I2, st2, fun b hb => (f2 b hb).1, w0⟩
  rintro n s3 ⟨i, σ3, H3, I3, st3, fr3, w3⟩
  rcases turn i n σ3 H3 w3 with ⟨stop, qn⟩ | ⟨go, N, hN, step⟩
  · refine wpAny_passesOwn hp (thn (T.done X rfl rfl rfl hc i pins s3 σ3 H3 X.xe I3 (stat fr3) st3 stop) fun r s4 ⟨hr, I4⟩ => ?_)
    subst hr
    exact wpAny_execs_nil ⟨σ3, H3, I4, qn⟩
  · refine wpAny_passesOwn hp (thn (T.item X rfl rfl rfl hc i pins s3 σ3 H3 X.xe I3 (stat fr3) st3 go) fun r s4 ⟨u, hr, h4⟩ => ?_)
    subst hr
    refine wpAny_passesOwn hp (thn h4 fun _ s5 ⟨x, H5, I5, r5, y5, st5, fr5⟩ => ?_)
    have I5' := I5.pinned (stat fr5) (T.obj _ _ st5)
    refine wpAny_passesOwn hp (thn (hg _ s5 σ3 H5 x u _ I5' r5 (step x H5 y5)) fun _ s6 ⟨σ6, H6, I6, q6⟩ => ?_)
    refine wpAny_passesOwn hp (thn (hb _ s6 σ6 H6 _ I6 q6) fun f s7 q7 => ?_)
    have again : ∀ {σ7 : St} {H7 : Hp}, Inv X (pins ++ pinsAt fp s5.heap) σ7 H7 s7 → N σ7 H7 → ∃ m, m < n ∧ ∃ i σ' H', Inv X pins σ' H' s7 ∧ tn i s7.heap ∧ (∀ b ∈ fp, H' b = none) ∧ W i m σ' H' := fun {σ7 H7} I7 n7 => by
      obtain ⟨m', hm, w7⟩ := hN σ7 H7 n7
      refine ⟨m', hm, i + 1, σ7, H7, I7.unpinned, T.keep _ _ _ st5 fun b hb o e => (I7.pin (b, o) (List.mem_append_right _ (List.mem_append_right _ (mem_pinsAt hb e)))).1, fun b hb => ?_, w7⟩
      obtain ⟨o, e, d⟩ := T.obj _ _ st5 b hb
      exact (I7.pin (b, o) (List.mem_append_right _ (List.mem_append_right _ (mem_pinsAt hb e)))).2.1
    cases f with
    | next => obtain ⟨σ7, H7, I7, n7⟩ := q7; exact again I7 n7
    | cont => obtain ⟨σ7, H7, I7, n7⟩ := q7; exact again I7 n7
    | brk => obtain ⟨σ7, H7, I7, q7⟩ := q7; exact ⟨σ7, H7, I7.unpinned, q7⟩
    | ret v => obtain ⟨x7, σ7, H7, I7, r7, q7⟩ := q7; exact ⟨x7, σ7, H7, I7.unpinned, r7, q7⟩
end

/-! ### the forms one uses -/
theorem for_range {lo : Int} {n : Nat} {g : TG} {tb : TS} {D : Ends} {σ : St} {H : Hp} (Pv : Nat → St → Hp → Prop) (h0 : Pv 0 σ H)
    (hs : ∀ i σ H, i < n → Pv i σ H → g (.int (lo + i)) σ H fun σ2 H2 => tb { D with nx := Pv (i + 1), ct := Pv (i + 1), bk := D.nx } σ2 H2) (hd : ∀ σ H, Pv n σ H → D.nx σ H) :
    ∃ W : Nat → Nat → St → Hp → Prop, (∃ m, W 0 m σ H) ∧ ∀ i m σ H, W i m σ H →
      ((Itr lo n).stop i H ∧ D.nx σ H) ∨ ((Itr lo n).go i H ∧ ∃ N : St → Hp → Prop, (∀ σ' H', N σ' H' → ∃ m', m' < m ∧ W (i + 1) m' σ' H') ∧ ∀ x H', (Itr lo n).yld i H x H' → g x σ H' fun σ2 H2 => tb { D with nx := N, ct := N, bk := D.nx } σ2 H2) := by
  refine ⟨fun i m σ H => m = n - i ∧ i ≤ n ∧ Pv i σ H, ⟨n, by simp, Nat.zero_le _, h0⟩, ?_⟩
  rintro i m σ H ⟨rfl, hi, p⟩
  by_cases hlt : i < n
  · refine .inr ⟨hlt, Pv (i + 1), fun σ' H' p' => ⟨n - (i + 1), by omega, rfl, hlt, p'⟩, fun x H' y => ?_⟩
    obtain ⟨e, y⟩ := y
    subst e y
    exact hs i σ _ hlt p
  · have e : i = n := by omega
    subst e
    exact .inl ⟨Nat.le_refl _, hd σ H p⟩
end L2

namespace L2
open PySem PySem.Spec PyProof.Rows

abbrev R2 := V → V → Hp → VK → Prop
/-- a two-place operation on values: f is binaryOp op, inplaceOp op or compareOp op -/
def OpR (X : Cx) (f : Value → Value → Sem Value) (r : R2) : Prop :=
  ∀ (pins : List (Addr × Obj)) (s : Shared) (σ : St) (H : Hp) (x y : V) (v u : Value) (Q : VK), Inv X pins σ H s → RelV x v → RelV y u → r x y H Q →
    wpAny (model X.prog X.w) X.A (f v u) (EP X pins σ Q) X.xe s
/-- a one-place operation -/
def UnR (X : Cx) (f : Value → Sem Value) (r : V → Hp → VK → Prop) : Prop :=
  ∀ (pins : List (Addr × Obj)) (s : Shared) (σ : St) (H : Hp) (x : V) (v : Value) (Q : VK), Inv X pins σ H s → RelV x v → r x H Q →
    wpAny (model X.prog X.w) X.A (f v) (EP X pins σ Q) X.xe s
/-- a call of a value that is known (a builtin, a type) with values -/
def CallR (X : Cx) (f : Value) (r : List V → Hp → VK → Prop) : Prop :=
  ∀ (pins : List (Addr × Obj)) (s : Shared) (σ : St) (H : Hp) (xs : List V) (us : List Value) (Q : VK), Inv X pins σ H s → Vals xs us → r xs H Q →
    wpAny (model X.prog X.w) X.A (call f us) (EP X pins σ Q) X.xe s

def tOp (r : R2) (ta tb : TE) : TE := fun σ H Q => ta σ H fun x H1 => tb σ H1 fun y H2 => r x y H2 Q
/-- ints in, under C, and a value out -/
def rI (C : Int → Int → Prop) (g : Int → Int → V) : R2 := fun x y H Q => ∃ i j, x = .int i ∧ y = .int j ∧ C i j ∧ Q (g i j) H
def rI0 (g : Int → Int → V) : R2 := fun x y H Q => ∃ i j, x = .int i ∧ y = .int j ∧ Q (g i j) H

section
variable {X : Cx} {a b c : Expr} {ta tb tc : TE} {pos : Pos}

theorem binT (ha : PE X a ta) (hb : PE X b tb) {pins : List (Addr × Obj)} {s : Shared} {σ : St} {H : Hp} {R : V → V → Hp → Prop} (I : Inv X pins σ H s)
    (h : ta σ H fun x H1 => tb σ H1 fun y H2 => R x y H2) {Q : Value → Shared → Prop} {f : Value → Value → Sem Value}
    (hf : ∀ v u s2 x y H2, Inv X pins σ H2 s2 → RelV x v → RelV y u → R x y H2 → wpAny (model X.prog X.w) X.A (f v u) Q X.xe s2) :
    wpAny (model X.prog X.w) X.A (eval a X.env) (fun v s₁ => wpAny (model X.prog X.w) X.A (eval b X.env) (fun u s₂ => wpAny (model X.prog X.w) X.A (f v u) Q X.xe s₂) X.xe s₁) X.xe s := by
  refine thn (ha pins s σ H _ I h) fun v s1 ⟨x, H1, I1, r1, q1⟩ => ?_
  refine thn (hb pins s1 σ H1 _ I1 q1) fun u s2 ⟨y, H2, I2, r2, q2⟩ => ?_
  exact hf v u s2 x y H2 I2 r1 r2 q2

theorem pe_op {op : Operator} {r : R2} (ho : OpR X (binaryOp op) r) (ha : PE X a ta) (hb : PE X b tb) : PE X (.BinOp a op b pos) (tOp r ta tb) := by
  intro pins s σ H Q I h
  exact wpAny_BinOp (binT ha hb I h fun v u s2 x y H2 I2 rx ry q => ho pins s2 σ H2 x y v u Q I2 rx ry q)

/-! ### ints -/
theorem opI {f : Value → Value → Sem Value} {C : Int → Int → Prop} {g : Int → Int → Int}
    (rule : ∀ (i j : Int) (t u : Tok) (s : Shared) (Q : Value → Shared → Prop) (E : Value → Shared → Prop), C i j → Q (.int (g i j) s.toks) { s with toks := s.toks + 1 } → wpAny (model X.prog X.w) X.A (f (.int i t) (.int j u)) Q E s) :
    OpR X f (rI C fun i j => .int (g i j)) := by
  intro pins s σ H x y v u Q I rx ry h
  obtain ⟨i, j, rfl, rfl, hc, q⟩ := h
  obtain ⟨t, rfl⟩ := rx
  obtain ⟨t', rfl⟩ := ry
  exact rule i j t t' s _ _ hc ⟨.int (g i j), H, I.tok _, ⟨_, rfl⟩, q⟩
theorem opI0 {f : Value → Value → Sem Value} {g : Int → Int → Int}
    (rule : ∀ (i j : Int) (t u : Tok) (s : Shared) (Q : Value → Shared → Prop) (E : Value → Shared → Prop), Q (.int (g i j) s.toks) { s with toks := s.toks + 1 } → wpAny (model X.prog X.w) X.A (f (.int i t) (.int j u)) Q E s) :
    OpR X f (rI0 fun i j => .int (g i j)) := by
  intro pins s σ H x y v u Q I rx ry h
  obtain ⟨i, j, rfl, rfl, q⟩ := h
  obtain ⟨t, rfl⟩ := rx
  obtain ⟨t', rfl⟩ := ry
  exact rule i j t t' s _ _ ⟨.int (g i j), H, I.tok _, ⟨_, rfl⟩, q⟩
theorem opB0 {f : Value → Value → Sem Value} {g : Int → Int → Bool}
    (rule : ∀ (i j : Int) (t u : Tok) (s : Shared) (Q : Value → Shared → Prop) (E : Value → Shared → Prop), Q (.bool (g i j)) s → wpAny (model X.prog X.w) X.A (f (.int i t) (.int j u)) Q E s) :
    OpR X f (rI0 fun i j => .bl (g i j)) := by
  intro pins s σ H x y v u Q I rx ry h
  obtain ⟨i, j, rfl, rfl, q⟩ := h
  obtain ⟨t, rfl⟩ := rx
  obtain ⟨t', rfl⟩ := ry
  exact rule i j t t' s _ _ ⟨.bl (g i j), H, I, rfl, q⟩

def CDiv (i j : Int) : Prop := 0 < j ∧ j < 1073741824
def CMul (i j : Int) : Prop := (-(2 ^ 64) < i ∧ i < 2 ^ 64) ∨ (-(2 ^ 64) < j ∧ j < 2 ^ 64)
theorem CMul.ok {i j : Int} (h : CMul i j) : IntMulOk i j := by
  rcases h with ⟨h1, h2⟩ | ⟨h1, h2⟩
  · exact .of_left (intBits_le_64 h1 h2)
  · exact .of_right (intBits_le_64 h1 h2)

theorem op_add : OpR X (binaryOp .Add) (rI0 fun i j => .int (i + j)) := opI0 fun _ _ _ _ _ _ _ q => add_int q
theorem op_mul : OpR X (binaryOp .Mult) (rI CMul fun i j => .int (i * j)) := opI fun _ _ _ _ _ _ _ hc q => mul_int q hc.ok
/-- // by a positive divisor -/
theorem op_fdiv : OpR X (binaryOp .FloorDiv) (rI CDiv fun i j => .int (i / j)) := opI fun i j _ _ _ _ _ hc q => by
  have h1 : (0 : Int) < j := hc.1
  have h2 : j < 1073741824 := hc.2
  exact floordiv_int (by omega) (by rw [Int.fdiv_eq_ediv_of_nonneg i (by omega)]; exact q) (.inl (PyProof.noPylong_small (by omega)))
/-- % by a positive divisor of any size -/
theorem op_mod : OpR X (binaryOp .Mod) (rI (fun _ j => 0 < j) fun i j => .int (i % j)) := opI fun i j _ _ _ _ _ hc q => by
  have h1 : (0 : Int) < j := hc
  exact mod_int' (by omega) (by rw [Int.fmod_eq_emod_of_nonneg i (by omega)]; exact q)



/-! ### bools among ints: n += (a < b) -/
end

/-! ### comparisons -/
/-- the scalars that == tells apart as data does -/
def scal : V → V → Bool
  | .non, .non => true | .non, .int _ => true | .int _, .non => true | .non, .bl _ => true | .bl _, .non => true | .non, .str _ => true | .str _, .non => true
  | .int _, .int _ => true | .bl _, .bl _ => true | .str _, .str _ => true | .byt _, .byt _ => true
  | .int _, .str _ => true | .str _, .int _ => true | .bl _, .str _ => true | .str _, .bl _ => true
  | _, _ => false
def rEq : R2 := fun x y H Q => scal x y = true ∧ Q (.bl (decide (x = y))) H

theorem dec_int {i j : Int} : decide (V.int i = V.int j) = (i == j) := by
  rw [Bool.eq_iff_iff]
  simp
theorem dec_bl {i j : Bool} : decide (V.bl i = V.bl j) = (i == j) := by
  rw [Bool.eq_iff_iff]
  simp
theorem dec_str {i j : Str} : decide (V.str i = V.str j) = (i == j) := by
  rw [Bool.eq_iff_iff]
  simp
theorem dec_byt {i j : Array UInt8} : decide (V.byt i = V.byt j) = (i.toList == j.toList) := by
  rw [Bool.eq_iff_iff]
  cases i
  cases j
  simp

section
variable {X : Cx} {a b c : Expr} {ta tb tc : TE} {pos : Pos}
theorem fin_bl {pins : List (Addr × Obj)} {σ : St} {H : Hp} {s : Shared} {Q : VK} {k k' : Bool} (I : Inv X pins σ H s) (q : Q (.bl k) H) (e : k = k') : EP X pins σ Q (.bool k') s := by
  subst e
  exact ⟨.bl k, H, I, rfl, q⟩
theorem op_eq : OpR X (compareOp .Eq) rEq := by
  intro pins s σ H x y v u Q I rx ry h
  obtain ⟨hs, q⟩ := h
  cases x with
  | non =>
    cases rx
    cases y with
    | non => cases ry; exact PySem.EqNone.eq_none_none (fin_bl I q (by simp))
    | bl j => cases ry; exact PySem.EqNone.eq_none_bool (fin_bl I q (by simp))
    | int j => obtain ⟨t', rfl⟩ := ry; exact PySem.EqNone.eq_none_int (fin_bl I q (by simp))
    | str j => obtain ⟨t', rfl⟩ := ry; exact PySem.EqNone.eq_none_str (fin_bl I q (by simp))
    | _ => exact absurd (show false = true from hs) Bool.false_ne_true
  | bl i =>
    cases rx
    cases y with
    | non => cases ry; exact PySem.EqNone.eq_bool_none (fin_bl I q (by simp))
    | bl j => cases ry; exact eq_bool (fin_bl I q dec_bl)
    | str j => obtain ⟨t', rfl⟩ := ry; exact PySem.EqMixed.eq_bool_str (fin_bl I q (by simp))
    | _ => exact absurd (show false = true from hs) Bool.false_ne_true
  | int i =>
    obtain ⟨t, rfl⟩ := rx
    cases y with
    | non => cases ry; exact PySem.EqNone.eq_int_none (fin_bl I q (by simp))
    | int j => obtain ⟨t', rfl⟩ := ry; exact eq_int (fin_bl I q dec_int)
    | str j => obtain ⟨t', rfl⟩ := ry; exact PySem.EqMixed.eq_int_str (fin_bl I q (by simp))
    | _ => exact absurd (show false = true from hs) Bool.false_ne_true
  | str i =>
    obtain ⟨t, rfl⟩ := rx
    cases y with
    | non => cases ry; exact PySem.EqNone.eq_str_none (fin_bl I q (by simp))
    | bl j => cases ry; exact PySem.EqMixed.eq_str_bool (fin_bl I q (by simp))
    | int j => obtain ⟨t', rfl⟩ := ry; exact PySem.EqMixed.eq_str_int (fin_bl I q (by simp))
    | str j => obtain ⟨t', rfl⟩ := ry; exact eq_str (fin_bl I q dec_str)
    | _ => exact absurd (show false = true from hs) Bool.false_ne_true
  | byt i =>
    obtain ⟨t, rfl⟩ := rx
    cases y with
    | byt j => obtain ⟨t', rfl⟩ := ry; exact PySem.W.eq_bytes (fin_bl I q dec_byt)
    | _ => exact absurd (show false = true from hs) Bool.false_ne_true
  | _ => cases y <;> exact absurd (show false = true from hs) Bool.false_ne_true

theorem op_lt : OpR X (compareOp .Lt) (rI0 fun i j => .bl (decide (i < j))) := opB0 fun _ _ _ _ _ _ _ q => lt_int q
theorem op_le : OpR X (compareOp .LtE) (rI0 fun i j => .bl (decide (i ≤ j))) := opB0 fun _ _ _ _ _ _ _ q => le_int q
theorem op_gt : OpR X (compareOp .Gt) (rI0 fun i j => .bl (decide (j < i))) := opB0 fun _ _ _ _ _ _ _ q => gt_int q

theorem op_notN : OpR X (compareOp .IsNot) (fun x y H Q => y = .non ∧ Q (.bl (!decide (x = .non))) H) := by
  intro pins s σ H x y v u Q I rx ry h
  obtain ⟨rfl, q⟩ := h
  cases ry
  refine isnot_none_gen (fin_bl I q ?_)
  cases x <;> first
    | (cases rx; rfl)
    | (obtain ⟨t, rfl⟩ := rx; rfl)



theorem nomark (b : Expr) {op : CmpOp} (h : op ≠ .In := by decide) (h2 : op ≠ .NotIn := by decide) : behindInMarks op b = false := by
  have e1 : (op == CmpOp.In) = false := by cases op <;> first | rfl | exact absurd rfl h
  have e2 : (op == CmpOp.NotIn) = false := by cases op <;> first | rfl | exact absurd rfl h2
  cases b <;> simp [behindInMarks, e1, e2]
/-- a comparison as a value; hm: nomark b, or (for in, not in) by with_unfolding_all rfl -/
theorem pe_cmpR {op : CmpOp} {r : R2} (ho : OpR X (compareOp op) r) (ha : PE X a ta) (hb : PE X b tb) (hm : behindInMarks op b = false) : PE X (.Compare a [op] [b] pos) (tOp r ta tb) := by
  intro pins s σ H Q I h
  exact wpAny_Compare1 (binT ha hb I h fun v u s2 x y H2 I2 rx ry q => ho pins s2 σ H2 x y v u Q I2 rx ry q) hm
/-- a reading of a value as a test -/
def tTest (t : TE) : TT := fun σ H Q => t σ H fun x H' => ∃ k, x = .bl k ∧ Q k H'
theorem pt_cmpR {op : CmpOp} {r : R2} (ho : OpR X (compareOp op) r) (ha : PE X a ta) (hb : PE X b tb) (hm : behindInMarks op b = false) : PT X (.Compare a [op] [b] pos) (tTest (tOp r ta tb)) := by
  intro pins s σ H Q I h
  refine wpAny_isTrue_Compare1 (thn (ha pins s σ H _ I h) fun v s1 ⟨x, H1, I1, r1, q1⟩ => thn (hb pins s1 σ H1 _ I1 q1) fun u s2 ⟨y, H2, I2, r2, q2⟩ =>
    thn (ho pins s2 σ H2 x y v u _ I2 r1 r2 q2) fun c s3 ⟨z, H3, I3, r3, k, e, q3⟩ => ?_) hm
  subst e
  cases r3
  exact wpAny_truthy_bool ⟨H3, I3, q3⟩
/-- a op1 b op2 c -/
def tChain (r r' : R2) (ta tb tc : TE) : TE := fun σ H Q => ta σ H fun x H1 => tb σ H1 fun y H2 => r x y H2 fun z H3 => ∃ k, z = .bl k ∧
  (if k = true then tc σ H3 fun w' H4 => r' y w' H4 Q else Q (.bl false) H3)
theorem pe_chain {op op' : CmpOp} {r r' : R2} (ho : OpR X (compareOp op) r) (ho' : OpR X (compareOp op') r') (ha : PE X a ta) (hb : PE X b tb) (hc : PE X c tc)
    (hm : lastMarks [op, op'] [b, c] = false := by with_unfolding_all rfl) : PE X (.Compare a [op, op'] [b, c] pos) (tChain r r' ta tb tc) := by
  intro pins s σ H Q I h
  refine Compare_chain (thn (ha pins s σ H _ I h) fun v s1 ⟨x, H1, I1, r1, q1⟩ => chain_link (thn (hb pins s1 σ H1 _ I1 q1) fun u s2 ⟨y, H2, I2, r2, q2⟩ =>
    thn (ho pins s2 σ H2 x y v u _ I2 r1 r2 q2) fun d s3 ⟨z, H3, I3, r3, k, e, q3⟩ => ?_)) hm
  subst e
  cases r3
  refine wpAny_truthy_bool ?_
  cases k with
  | false => exact ite_ff ⟨.bl false, H3, I3, rfl, q3⟩
  | true => exact ite_tt (chain_last (thn (hc pins s3 σ H3 _ I3 q3) fun w' s4 ⟨z', H4, I4, r4, q4⟩ => ho' pins s4 σ H4 y z' u w' Q I4 r2 r4 q4))

/-! ### truth -/
theorem line63 : (sizeLine : Nat) < 2 ^ 63 := by rw [sizeLine_eq]; decide

/-! ### strs and bytes -/


/-! ### scalar builtins, by CallR -/
theorem vals1 {x : V} {us : List Value} (r : Vals [x] us) : ∃ u, us = [u] ∧ RelV x u := by
  cases r with
  | cons r1 r2 => cases r2; exact ⟨_, rfl, r1⟩
theorem vals2 {x y : V} {us : List Value} (r : Vals [x, y] us) : ∃ u w', us = [u, w'] ∧ RelV x u ∧ RelV y w' := by
  cases r with
  | cons r1 r2 =>
    cases r2 with
    | cons r3 r4 => cases r4; exact ⟨_, _, rfl, r1, r3⟩
theorem call_min2 (hc : X.calm = true) : CallR X (.builtin "min") (fun xs H Q => ∃ i j, xs = [.int i, .int j] ∧ Q (.int (if j < i then j else i)) H) := by
  intro pins s σ H xs us Q I r h
  obtain ⟨i, j, rfl, q⟩ := h
  obtain ⟨u, w', rfl, ⟨t, rfl⟩, ⟨t', rfl⟩⟩ := vals2 r
  refine min_two_ints (I.ok.hd hc) fun h' tk k => ⟨_, H, I.kept k, ?_, q⟩
  by_cases hj : j < i
  · rw [if_pos hj, if_pos hj]; exact ⟨_, rfl⟩
  · rw [if_neg hj, if_neg hj]; exact ⟨_, rfl⟩
end
end L2

namespace L2
open PySem PySem.Spec PyProof.Rows

/-! ### an instance, its attributes a map -/
structure ObjM (h : Heap) (x dx C : Addr) (mA : Str → Option Value) : Prop where
  obj : h.get? x = some (PySem.W.instObj C dx)
  ns : h.Ns1 dx mA
  ne : dx ≠ x

theorem lookIn_ns {h : Heap} {dx : Addr} {mA : Str → Option Value} (n : h.Ns1 dx mA) : ∃ od, h.get? dx = some od ∧ ∀ name, PySem.W.lookIn name od = some (mA name) := by
  obtain ⟨o, es, ep, ho, hd, hk, _, hm⟩ := n
  refine ⟨o, ho, fun name => ?_⟩
  have e := hm name
  unfold nsFind findBy at e
  rw [← Array.find?_toList] at e
  unfold PySem.W.lookIn
  rw [hd]
  dsimp only
  split
  · rename_i y q
    rw [q] at e
    exact congrArg some e
  · rename_i q
    rw [q] at e
    have a : es.toList.any (·.refKey) = false := by
      rw [List.any_eq_false]
      intro y hy
      obtain ⟨z, t, hkey⟩ := hk y (Array.mem_toList_iff.mp hy)
      simp [DictEntry.refKey, hkey]
    have a' : ¬ es.toList.any (·.refKey) = true := by rw [a]; exact Bool.false_ne_true
    rw [if_neg a']
    exact congrArg some e

theorem ObjM.look {h : Heap} {x dx C : Addr} {mA : Str → Option Value} (I : ObjM h x dx C mA) : ∃ od, PySem.W.InstAt h x (PySem.W.instObj C dx) C (some od) ∧ ∀ name, PySem.W.lookIn name od = some (mA name) :=
  let ⟨od, ho, hl⟩ := lookIn_ns I.ns
  ⟨od, ⟨I.obj, rfl, rfl, ho⟩, hl⟩

section
variable {prog : Program} {w : World} {A : Around} {E : Value → Shared → Prop} {s : Shared} {K : PySem.W.Frag} {x dx C f : Addr} {mA : Str → Option Value} {name : Str} {v : Value}

theorem get_map {expr : Bool} {Q : Value → Shared → Prop} (X : K.In s.heap) (I : ObjM s.heap x dx C mA) (hg : PySem.W.plainGet K C name = true) (hh : PySem.W.hasDictIn K C = true)
    (ha : PySem.W.findIn K (.ref C) name = some none) (hv : mA name = some v) (hv' : PySem.W.handedIn v = true) (h : Q v { s with toks := s.toks + 1 }) :
    wpAny (model prog w) A (getAttr (.ref x) name expr) Q E s := by
  obtain ⟨od, J, hl⟩ := I.look
  exact PySem.W.get_value X J (PySem.W.plainGet_of hg).1 (PySem.W.findObj_own hh ha rfl (by rw [hl, hv])) hv' h


theorem get_meth {pl : Sem Bool} {Q : Value × List Value → Shared → Prop} (X : K.In s.heap) (I : ObjM s.heap x dx C mA) (hg : PySem.W.plainGet K C name = true)
    (hf : PySem.W.findIn K (.ref C) name = some (some (.ref f))) (ht : PySem.W.isFn K (.ref f) = true) (hv : mA name = none) (h : Q (.ref f, [.ref x]) s) :
    wpAny (model prog w) A (getMethod (.ref x) name pl) Q E s := by
  obtain ⟨od, J, hl⟩ := I.look
  exact PySem.W.method_fn X J (PySem.W.plainGet_of hg).1 (PySem.W.plainGet_of hg).2 hf (beq_iff_eq.mp ht) (by show (PySem.W.lookIn name od).map (·.isSome) = some false; rw [hl, hv]; rfl) h

theorem set_map {ns : List Str} {Q : Unit → Shared → Prop} (X : K.In s.heap) (I : ObjM s.heap x dx C mA)
    (hs : PySem.W.findIn K (.ref C) "__setattr__" = some (some (.builtin "object.__setattr__"))) (hp : PySem.W.plainOver K C = true) (ht : PySem.W.takerIn K C name = some none) (hh : PySem.W.hasDictIn K C = true)
    (hw : PySem.Within mA ns) (hsz : ns.length ≤ sizeLine)
    (h : ∀ h', ObjM h' x dx C (fun y => if y = name then some v else mA y) → Heap.SameBut dx s.heap h' → Q () { s with heap := h', toks := s.toks + 2 }) :
    wpAny (model prog w) A (setAttr (.ref x) name v) Q E s := by
  obtain ⟨od, J, hl⟩ := I.look
  refine PySem.W.set_plain X J hs (PySem.W.osa_open (s := { s with toks := s.toks + 1 }) (r := none) X J hp ht fun b => ?_)
  obtain ⟨cd, hc, hd'⟩ := PySem.W.any_some hh
  have hx : s.heap.get? x = some ⟨.ref C, some dx, .plain, #[]⟩ := I.obj
  refine wpAny_bind (wpAny_pure (wpAny_bind (wpAny_bind (wpAny_loadPart hx (wpAny_bind (PySem.W.Looks.here (s := { s with toks := s.toks + 1 }) (PySem.W.looks_clsIn X hc) ?_))))))
  rw [hd']
  refine wpAny_pure (a := some dx) (wpAny_bind (wpAny_pure (wpAny_bind ?_)))
  refine wpAny_nsSet1 (s := { s with toks := s.toks + 1 }) I.ns fun h' hn2 hs2 => ?_
  obtain ⟨oD, esD, epD, hoD, hdD, hcD⟩ := hn2.count (PySem.Within.cons name v hw)
  refine wpAny_bind (wpAny_lookBehind hoD (by rw [hdD]; exact pastItsLine_dict (Nat.le_trans hcD (by rw [List.length_cons]; omega))) ?_)
  exact wpAny_pure (h _ ⟨(hs2.2 _ (Ne.symm I.ne)).trans I.obj, hn2, I.ne⟩ hs2)

/-- C(..): the dict at the heap's end, the instance behind it; then its __init__ -/
theorem make_map {R : Result → Shared → Prop} {vs : List Value} {kw : List (Str × Value)} (X : K.In s.heap) (hm : PySem.W.makesIn K C = true)
    (hi : PySem.W.findIn K (.ref C) "__init__" = some (some (.ref f))) (hf : PySem.W.typeIn K (.ref f) = some (.type "function"))
    (h : codeAny (model prog w) (A.under (.builtin "type.__call__" ⟨.ref C :: vs, kw⟩)) (.call (.ref f) ⟨.ref (s.heap.objs.size + 1) :: vs, kw⟩) (PySem.W.InitBack (s.heap.objs.size + 1) R)
      { s with heap := (s.heap.push PySem.W.emptyDict).push (PySem.W.instObj C s.heap.objs.size) }) :
    codeAny (model prog w) A (.call (.ref C) ⟨vs, kw⟩) R s := by
  obtain ⟨hh, g, d, t, os⟩ := s
  exact PySem.W.make_core (PySem.W.makes_of X hm) (PySem.W.looks_findIn X hi) (fun self => PySem.W.bind_fn X self hf) (.inl rfl) h
end

/-! ### the attributes as a list of pairs -/
def putF (f : Str) (v : V) : List (Str × V) → List (Str × V)
  | [] => [(f, v)]
  | (g, x) :: r => if g = f then (g, v) :: r else (g, x) :: putF f v r
theorem lookup_putF (f g : Str) (v : V) : ∀ fs : List (Str × V), (putF f v fs).lookup g = if g = f then some v else fs.lookup g
  | [] => by
    show List.lookup g [(f, v)] = _
    by_cases h : g = f
    · have hb : (g == f) = true := beq_iff_eq.mpr h
      simp only [List.lookup, hb, if_pos h]
    · have hb : (g == f) = false := beq_eq_false_iff_ne.mpr h
      simp only [List.lookup, hb, if_neg h]
  | (k, x) :: r => by
    have ih := lookup_putF f g v r
    rw [show putF f v ((k, x) :: r) = (if k = f then (k, v) :: r else (k, x) :: putF f v r) from rfl]
    by_cases hk : k = f
    · rw [if_pos hk]
      by_cases h : g = k
      · have hb : (g == k) = true := beq_iff_eq.mpr h
        simp only [List.lookup, hb, if_pos (h.trans hk)]
      · have hb : (g == k) = false := beq_eq_false_iff_ne.mpr h
        simp only [List.lookup, hb, if_neg (fun e : g = f => h (e.trans hk.symm))]
    · rw [if_neg hk]
      by_cases h : g = k
      · have hb : (g == k) = true := beq_iff_eq.mpr h
        simp only [List.lookup, hb, if_neg (fun e : g = f => hk (h.symm.trans e))]
      · have hb : (g == k) = false := beq_eq_false_iff_ne.mpr h
        simp only [List.lookup, hb]
        exact ih
theorem keys_putF (f : Str) (v : V) : ∀ fs : List (Str × V), f ∈ (putF f v fs).map (·.1) ∧ ∀ g, g ∈ fs.map (·.1) → g ∈ (putF f v fs).map (·.1)
  | [] => ⟨by simp [putF], fun g h => by simp at h⟩
  | (k, x) :: r => by
    obtain ⟨i1, i2⟩ := keys_putF f v r
    rw [show putF f v ((k, x) :: r) = (if k = f then (k, v) :: r else (k, x) :: putF f v r) from rfl]
    by_cases hk : k = f
    · rw [if_pos hk]
      subst hk
      exact ⟨by simp, fun g h => by simpa using h⟩
    · rw [if_neg hk]
      refine ⟨?_, fun g h => ?_⟩
      · rw [List.map_cons]
        exact List.mem_cons_of_mem _ i1
      · rw [List.map_cons] at h ⊢
        rcases List.mem_cons.mp h with e | e
        · exact List.mem_cons.mpr (.inl e)
        · exact List.mem_cons_of_mem _ (i2 g e)
theorem length_putF (f : Str) (v : V) : ∀ fs : List (Str × V), (putF f v fs).length ≤ fs.length + 1
  | [] => by simp [putF]
  | (k, x) :: r => by
    have ih := length_putF f v r
    rw [show putF f v ((k, x) :: r) = (if k = f then (k, v) :: r else (k, x) :: putF f v r) from rfl]
    by_cases hk : k = f
    · rw [if_pos hk, List.length_cons, List.length_cons]; omega
    · rw [if_neg hk, List.length_cons, List.length_cons]; omega

theorem RelO.some_of {v : V} {o : Option Value} (r : RelO (some v) o) : ∃ u, o = some u ∧ RelV v u := by
  cases o with
  | none => exact (show False from r).elim
  | some u => exact ⟨u, rfl, r⟩
theorem RelO.none_of {o : Option Value} (r : RelO none o) : o = none := by
  cases o with
  | none => rfl
  | some u => exact (show False from r).elim
theorem handed_of {v : V} {u : Value} (r : RelV v u) : PySem.W.handedIn u = true := by
  cases v with
  | non => cases (show u = Value.none from r); rfl
  | bl b => cases (show u = Value.bool b from r); rfl
  | int i => obtain ⟨t, e⟩ := (show ∃ t, u = Value.int i t from r); cases e; rfl
  | str x => obtain ⟨t, e⟩ := (show ∃ t, u = Value.str x t from r); cases e; rfl
  | byt b => obtain ⟨t, e⟩ := (show ∃ t, u = Value.bytes b t from r); cases e; rfl
  | flt b => obtain ⟨t, e⟩ := (show ∃ t, u = Value.float b t from r); cases e; rfl
  | ref a => cases (show u = Value.ref a from r); rfl
  | ty n => cases (show u = Value.type n from r); rfl

section
variable {P : Program} {w : World} {H H' : Hp} {h h' : Heap} {a C dx : Addr} {fs fs' : List (Str × V)}
theorem ins_get (hok : HOk P w H h) (e : H a = some (.ins C dx fs)) : ∃ mA, ObjM h a dx C mA ∧ (∀ f, RelO (fs.lookup f) (mA f)) ∧ PySem.Within mA (fs.map (·.1)) ∧ fs.length ≤ 1000 ∧ H dx = some (.own a) := by
  obtain ⟨d, z, ne, ob, mA, n, r, q⟩ := (show ObjOk P w H h a (.ins C dx fs) from hok a _ e)
  exact ⟨mA, ⟨ob, n, ne⟩, r, q, z, d⟩
end

/-! ### what of the text a class must have -/
structure Cls (K : PySem.W.Frag) (C : Addr) : Prop where
  pg : PySem.W.plainGet K C Str.empty = true
  hd : PySem.W.hasDictIn K C = true
  po : PySem.W.plainOver K C = true
  sa : PySem.W.findIn K (.ref C) "__setattr__" = some (some (.builtin "object.__setattr__"))
theorem Cls.get {K : PySem.W.Frag} {C : Addr} (c : Cls K C) (f : Str) : PySem.W.plainGet K C f = true := c.pg
/-- no class of it has the name -/
def NoAttr (K : PySem.W.Frag) (C : Addr) (f : Str) : Prop := PySem.W.findIn K (.ref C) f = some none
theorem NoAttr.taker {K : PySem.W.Frag} {C : Addr} {f : Str} (n : NoAttr K C f) : PySem.W.takerIn K C f = some none := by
  unfold PySem.W.takerIn
  rw [show PySem.W.findIn K (.ref C) f = some none from n]
  rfl
/-- a method: a plain def of the class or of one above it -/
structure Meth (K : PySem.W.Frag) (C : Addr) (m : Str) (f : Addr) : Prop where
  at_ : PySem.W.findIn K (.ref C) m = some (some (.ref f))
  fn : PySem.W.isFn K (.ref f) = true
  kp : PySem.W.keepIn K (.ref f) = true

section
variable {X : Cx} {pins : List (Addr × Obj)} {σ : St} {H : Hp} {s : Shared} {a C dx : Addr} {fs : List (Str × V)} {f : Str} {v : V} {A : Around} {E : Value → Shared → Prop}

theorem getattr_ok {b : Bool} {Q : Value → Shared → Prop} (I : Inv X pins σ H s) (e : H a = some (.ins C dx fs)) (c : Cls X.K C) (n : NoAttr X.K C f) (l : fs.lookup f = some v)
    (h : ∀ u s', Inv X pins σ H s' → RelV v u → Q u s') : wpAny (model X.prog X.w) A (getAttr (.ref a) f b) Q E s := by
  obtain ⟨mA, O, r, _, _, _⟩ := ins_get I.hok e
  obtain ⟨u, hu, ru⟩ := RelO.some_of (v := v) (o := mA f) (by rw [← l]; exact r f)
  exact get_map I.kIn O (c.get f) c.hd n hu (handed_of ru) (h u _ (I.tok _) ru)


theorem getmeth_ok {m : Str} {g : Addr} {pl : Sem Bool} {Q : Value × List Value → Shared → Prop} (I : Inv X pins σ H s) (e : H a = some (.ins C dx fs)) (c : Cls X.K C) (k : Meth X.K C m g) (l : fs.lookup m = none)
    (h : Q (.ref g, [.ref a]) s) : wpAny (model X.prog X.w) A (getMethod (.ref a) m pl) Q E s := by
  obtain ⟨mA, O, r, _, _, _⟩ := ins_get I.hok e
  have hn : mA m = none := RelO.none_of (by rw [← l]; exact r m)
  exact get_meth I.kIn O (c.get m) k.at_ k.fn hn h

theorem setattr_ok {y : V} {u : Value} {Q : Unit → Shared → Prop} (I : Inv X pins σ H s) (e : H a = some (.ins C dx fs)) (c : Cls X.K C) (n : NoAttr X.K C f) (hl : fs.length < 1000) (ry : RelV y u)
    (h : ∀ s', Inv X pins σ (upd H a (.ins C dx (putF f y fs))) s' → Q () s') : wpAny (model X.prog X.w) A (setAttr (.ref a) f u) Q E s := by
  obtain ⟨mA, O, r, wi, _, ho⟩ := ins_get I.hok e
  have hz : (fs.map (·.1)).length ≤ sizeLine := by rw [List.length_map, sizeLine_eq]; omega
  refine set_map I.kIn O c.sa c.po n.taker c.hd wi hz fun h' O' sb => h _ ?_
  have hd : ∃ o, h'.get? dx = some o := let ⟨o, _, _, e', _⟩ := O'.ns; ⟨o, e'⟩
  refine I.write (x := a) (e := dx) (by rw [e]; exact True.intro) (.inr ho) (fun b q hb z => (sb.2 b hb).trans z) hd ?_
  refine ⟨by rw [upd_ne O.ne]; exact ho, ?_, O.ne, O'.obj, _, O'.ns, fun g => ?_, fun g hg => ?_⟩
  · have := length_putF f y fs; omega
  · show RelO ((putF f y fs).lookup g) (if g = f then some u else mA g)
    rw [lookup_putF]
    by_cases q : g = f
    · rw [if_pos q, if_pos q]; exact ry
    · rw [if_neg q, if_neg q]; exact r g
  · by_cases q : g = f
    · rw [q]; exact (keys_putF f y fs).1
    · refine (keys_putF f y fs).2 g (wi g fun z => hg ?_)
      show (if g = f then some u else mA g) = none
      rw [if_neg q]; exact z

/-- a new instance, tracked, without attributes -/
theorem Inv.made (I : Inv X pins σ H s) : Inv X pins σ (upd (upd H s.heap.objs.size (.own (s.heap.objs.size + 1))) (s.heap.objs.size + 1) (.ins C s.heap.objs.size []))
    { s with heap := (s.heap.push PySem.W.emptyDict).push (PySem.W.instObj C s.heap.objs.size) } := by
  have e1 : (s.heap.push PySem.W.emptyDict).get? s.heap.objs.size = some PySem.W.emptyDict := Heap.get?_push_size s.heap rfl
  have e2 : ((s.heap.push PySem.W.emptyDict).push (PySem.W.instObj C s.heap.objs.size)).get? (s.heap.objs.size + 1) = some (PySem.W.instObj C s.heap.objs.size) := by
    have := Heap.get?_push_size (s.heap.push PySem.W.emptyDict) (o := PySem.W.instObj C s.heap.objs.size) rfl
    rwa [Heap.size_push] at this
  have e3 : (s.heap.push PySem.W.emptyDict).Ns s.heap.objs.size (fun _ => none) := ⟨PySem.W.emptyDict, #[], _, e1, rfl, (fun e he => absurd he (by simp)), fun _ => rfl⟩
  have I1 := I.laid (a := s.heap.objs.size) (o := .own (s.heap.objs.size + 1)) (h' := s.heap.push PySem.W.emptyDict) (t' := s.toks) (fun b u q => Heap.get?_push_of_some _ q) (Nat.le_refl _) ⟨_, e1⟩
  refine I1.laid (a := s.heap.objs.size + 1) (o := .ins C s.heap.objs.size []) (t' := s.toks) (fun b u q => Heap.get?_push_of_some _ q) (Nat.le_of_eq (Heap.size_push _ _)) ?_
  have ne : s.heap.objs.size ≠ s.heap.objs.size + 1 := Nat.ne_of_lt (Nat.lt_succ_self _)
  refine ⟨by rw [upd_ne ne, upd_same], Nat.zero_le _, ne, e2, fun _ => none, (Heap.Ns1.of_empty e3).at fun o q => Heap.get?_push_of_some _ q, fun _ => True.intro, fun y hy => absurd rfl hy⟩

/-- e.f where nothing but the object is asked: through attributeBase (super) and the last hold -/
theorem attr_of {prog : Program} {w : World} {env : Env} {e : Expr} {f : Str} {pos : Pos} {s : Shared} {Q : Value → Shared → Prop} (hb : attributeBase e f env (eval e env) = eval e env)
    (h : wpAny (model prog w) A (eval e env) (fun o s₁ => wpAny (model prog w) A (getAttr o f true) Q E s₁) E s) : wpAny (model prog w) A (eval (.Attribute e f pos) env) Q E s :=
  Attribute_any_ h (by rw [arm_eval_Attribute, hb])
end

/-! ### readings and rules -/
/-- e.f, an attribute of the instance -/
def tFld (K : PySem.W.Frag) (ta : TE) (f : Str) : TE := fun σ H Q => ta σ H fun x H1 => ∃ a C dx fs v, x = .ref a ∧ H1 a = some (.ins C dx fs) ∧ Cls K C ∧ NoAttr K C f ∧ fs.lookup f = some v ∧ Q v H1
/-- e.f = value -/
def sFld (K : PySem.W.Frag) (ta tv : TE) (f : Str) : TS := fun D σ H => tv σ H fun y H1 => ta σ H1 fun x H2 => ∃ a C dx fs, x = .ref a ∧ H2 a = some (.ins C dx fs) ∧ Cls K C ∧ NoAttr K C f ∧ fs.length < 1000 ∧
  D.nx σ (upd H2 a (.ins C dx (putF f y fs)))
/-- an augmented operator on two values -/
def InOp (X : Cx) (op : Operator) (rd : V → V → Hp → VK → Prop) : Prop :=
  ∀ (pins : List (Addr × Obj)) (s : Shared) (σ : St) (H : Hp) (x y : V) (u v : Value) (Q : VK), Inv X pins σ H s → RelV x u → RelV y v → rd x y H Q → wpAny (model X.prog X.w) X.A (inplaceOp op u v) (EP X pins σ Q) X.xe s
/-- e.f op= value -/
def sFldAug (K : PySem.W.Frag) (ta tv : TE) (rd : V → V → Hp → VK → Prop) (f : Str) : TS := fun D σ H => ta σ H fun x H1 => ∃ a C dx fs v, x = .ref a ∧ H1 a = some (.ins C dx fs) ∧ Cls K C ∧ NoAttr K C f ∧ fs.lookup f = some v ∧
  tv σ H1 fun y H2 => rd v y H2 fun z H3 => ∃ dx' fs', H3 a = some (.ins C dx' fs') ∧ fs'.length < 1000 ∧ D.nx σ (upd H3 a (.ins C dx' (putF f z fs')))

section
variable {X : Cx} {o e value : Expr} {f : Str} {pos pos' tpos : Pos} {ta tv : TE}
theorem pe_fld (he : PE X e ta) (hb : attributeBase e f X.env (eval e X.env) = eval e X.env) : PE X (.Attribute e f pos) (tFld X.K ta f) := by
  intro pins s σ H Q I h
  refine attr_of hb (thn (he pins s σ H _ I h) fun u s1 ⟨x, H1, I1, rx, a, C, dx, fs, v, ex, ea, c, n, l, q⟩ => ?_)
  subst ex
  obtain rfl : u = Value.ref a := rx
  exact getattr_ok I1 ea c n l fun u' s2 I2 ru => ⟨v, H1, I2, ru, q⟩
theorem ps_fld (ha : PE X o ta) (hv : PE X value tv) (hs : swapsWith value (some (.Attribute o f pos')) pos.line X.env = pure false) : PS X (.Assign [.Attribute o f pos'] value pos) (sFld X.K ta tv f) := by
  intro pins s σ H D I h
  refine plainObj_wpAny_Assign_Attribute (thn (hv pins s σ H _ I h) fun u s1 ⟨y, H1, I1, ry, q⟩ => thn (ha pins s1 σ H1 _ I1 q) fun ov s2 ⟨x, H2, I2, rx, a, C, dx, fs, ex, ea, c, n, l, q2⟩ => ?_) hs
  subst ex
  obtain rfl : ov = Value.ref a := rx
  exact setattr_ok I2 ea c n l ry fun s3 I3 => ⟨σ, _, I3, q2⟩
theorem ps_fldaug {op : Operator} {rd : V → V → Hp → VK → Prop} (ha : PE X o ta) (hv : PE X value tv) (hop : InOp X op rd) : PS X (.AugAssign (.Attribute o f tpos) op value pos) (sFldAug X.K ta tv rd f) := by
  intro pins s σ H D I h
  refine wpAny_AugAssign_AttributeAny (thn (ha pins s σ H _ I h) fun ov s1 ⟨x, H1, I1, rx, a, C, dx, fs, v, ex, ea, c, n, l, q⟩ => ?_)
  subst ex
  obtain rfl : ov = Value.ref a := rx
  refine getattr_ok I1 ea c n l fun u s2 I2 ru => thn (hv pins s2 σ H1 _ I2 q) fun w3 s3 ⟨y, H2, I3, ry, q3⟩ => thn (hop pins s3 σ H2 v y u w3 _ I3 ru ry q3) fun w4 s4 ⟨z, H3, I4, rz, dx', fs', ea', l', q4⟩ => ?_
  exact setattr_ok I4 ea' c n l' rz fun s5 I5 => ⟨σ, _, I5, q4⟩
def rAdd : V → V → Hp → VK → Prop := fun x y H Q => ∃ i j, x = .int i ∧ y = .int j ∧ Q (.int (i + j)) H
theorem in_add : InOp X .Add rAdd := by
  rintro pins s σ H x y u v Q I rx ry ⟨i, j, rfl, rfl, q⟩
  obtain ⟨t, rfl⟩ := (show ∃ t, u = Value.int i t from rx)
  obtain ⟨t', rfl⟩ := (show ∃ t', v = Value.int j t' from ry)
  exact PyProof.Rows.iadd_int ⟨.int (i + j), H, I.tok _, ⟨_, rfl⟩, q⟩

end

/-! ### isinstance -/
section
variable {X : Cx} {pins : List (Addr × Obj)} {σ : St} {H : Hp} {s : Shared} {A : Around} {E : Value → Shared → Prop} {Q : Value → Shared → Prop} {c : Value} {b : Bool}
/-- the type of a value, as the fragment's deciders take it; for an instance its class -/
inductive TyOf (K : PySem.W.Frag) (H : Hp) : V → Value → Prop where
  | non : TyOf K H .non (.type "NoneType")
  | bl (x : Bool) : TyOf K H (.bl x) (.type "bool")
  | int (i : Int) : TyOf K H (.int i) (.type "int")
  | str (x : Str) : TyOf K H (.str x) (.type "str")
  | flt (x : UInt64) : TyOf K H (.flt x) (.type "float")
  | lst {a : Addr} {xs : List V} (e : H a = some (.lst xs)) : TyOf K H (.ref a) (.type "list")
  | frz {a : Addr} {o : Obj} {xs : List V} (e : H a = some (.frz o (.lst xs))) : TyOf K H (.ref a) (.type "list")
  | tup {a : Addr} {xs : List V} (e : H a = some (.tup xs)) : TyOf K H (.ref a) (.type "tuple")
  | dK {a : Addr} {kvs : List (Key × V)} (e : H a = some (.dK kvs)) : TyOf K H (.ref a) (.type "dict")
  | dT {a : Addr} {kvs : List (List Key × V)} (e : H a = some (.dT kvs)) : TyOf K H (.ref a) (.type "dict")
  | ins {a C dx : Addr} {fs : List (Str × V)} (e : H a = some (.ins C dx fs)) (cl : Cls K C) (ha : PySem.W.findIn K (.ref C) "__class__" = some (some (.builtin "object.__class__")))
      (hn : PySem.W.specialIn K (.builtin "object.__class__") "__get__" = some (some (.builtin "getset_descriptor.__get__"))) (htk : PySem.W.takesIn K (.builtin "object.__class__") = some true)
      (hm : PySem.W.mroIn K C (.type "object") = some true) : TyOf K H (.ref a) (.ref C)
/-- isinstance(x, c) for one class c, a built-in or an own one: kitOne's answer -/
theorem isinst_ok {x : V} {u t : Value} (I : Inv X pins σ H s) (rx : RelV x u) (ty : TyOf X.K H x t) (e : PySem.W.kitOne X.K t c = some b) (h : ∀ tk, Q (.bool b) { s with toks := tk }) :
    wpAny (model X.prog X.w) A (call (.builtin "isinstance") [u, c]) Q E s := by
  cases ty with
  | non => cases (show u = Value.none from rx); exact PySem.W.kia_one PySem.W.kitx_none I.kIn True.intro e (fun z => nomatch z) h
  | bl y => cases (show u = Value.bool y from rx); exact PySem.W.kia_one PySem.W.kitx_bool I.kIn True.intro e (fun z => nomatch z) h
  | int i => obtain ⟨t, q⟩ := (show ∃ t, u = Value.int i t from rx); cases q; exact PySem.W.kia_one PySem.W.kitx_int I.kIn True.intro e (fun z => nomatch z) h
  | str y => obtain ⟨t, q⟩ := (show ∃ t, u = Value.str y t from rx); cases q; exact PySem.W.kia_one PySem.W.kitx_str I.kIn True.intro e (fun z => nomatch z) h
  | flt y => obtain ⟨t, q⟩ := (show ∃ t, u = Value.float y t from rx); cases q; exact PySem.W.kia_one PySem.W.kitx_float I.kIn True.intro e (fun z => nomatch z) h
  | @lst a xs ea =>
    cases (show u = Value.ref a from rx)
    obtain ⟨_, _, n, _, h1⟩ := (show ObjOk X.prog X.w H s.heap a (.lst xs) from I.hok a _ ea)
    exact PySem.W.kia_one PySem.W.kitx_list I.kIn ⟨_, h1, rfl⟩ e (fun z => nomatch z) h
  | @frz a ob xs ea =>
    cases (show u = Value.ref a from rx)
    obtain ⟨_, _, _, n, _, h1⟩ := (show ObjOk X.prog X.w H s.heap a (.frz ob (.lst xs)) from I.hok a _ ea)
    exact PySem.W.kia_one PySem.W.kitx_list I.kIn ⟨_, h1, rfl⟩ e (fun z => nomatch z) h
  | @tup a xs ea =>
    cases (show u = Value.ref a from rx)
    obtain ⟨_, _, _, p⟩ := (show ObjOk X.prog X.w H s.heap a (.tup xs) from I.hok a _ ea)
    obtain ⟨o, h1, h2, _⟩ := p
    exact PySem.W.kia_one PySem.W.kitx_tuple I.kIn ⟨o, h1, h2⟩ e (fun z => nomatch z) h
  | @dK a kvs ea =>
    cases (show u = Value.ref a from rx)
    obtain ⟨_, _, vs, _, p⟩ := (show ObjOk X.prog X.w H s.heap a (.dK kvs) from I.hok a _ ea)
    obtain ⟨o, es, ep, h1, h2, _⟩ := p
    exact PySem.W.kia_one PySem.W.kitx_dict I.kIn ⟨o, h1, h2.1⟩ e (fun z => nomatch z) h
  | @dT a kvs ea =>
    cases (show u = Value.ref a from rx)
    obtain ⟨_, _, xs, _, o, es, ep, h1, h2, _⟩ := (show ObjOk X.prog X.w H s.heap a (.dT kvs) from I.hok a _ ea)
    exact PySem.W.kia_one PySem.W.kitx_dict I.kIn ⟨o, h1, h2.1⟩ e (fun z => nomatch z) h
  | @ins a C dx fs ea cl ha hn htk hm =>
    cases (show u = Value.ref a from rx)
    obtain ⟨mA, O, _⟩ := ins_get I.hok ea
    obtain ⟨od, J, _⟩ := O.look
    exact PySem.W.kia_one (PySem.W.kitx_own (cl.get _) cl.hd ha hn htk hm) I.kIn J e (fun z => nomatch z) h
end
end L2

namespace L2
open PySem PySem.Spec PyProof.Rows

/-! ### room -/
structure Room (k : Nat) (A : Around) : Prop where
  hd : A.handled = none
  dp : A.depth + 3 * k + 5 < recursionLimit
  un : A.units + 16 * k + 200 < cLine
theorem Room.mono {j k : Nat} {A : Around} (r : Room k A) (h : j ≤ k) : Room j A := ⟨r.hd, by have := r.dp; omega, by have := r.un; omega⟩
theorem Room.deeper {k : Nat} {A : Around} (r : Room (k + 1) A) (env : Env) : Room k (A.deeper env) :=
  ⟨r.hd, by have := r.dp; show A.depth + 1 + 3 * k + 5 < _; omega, by have := r.un; show A.units + 3 + 16 * k + 200 < _; omega⟩
theorem make_depth {A : Around} {C : Addr} {us : List Value} {kw : List (Str × Value)} : (A.under (.builtin "type.__call__" ⟨.ref C :: us, kw⟩)).depth = A.depth + 1 := by
  first | rfl | simp [Around.under, Code.weight, Code.isCreation, Code.isGuard, Code.isCaller, Code.frames, Code.isFrame, guardIds]
theorem make_units {A : Around} {C : Addr} {us : List Value} {kw : List (Str × Value)} : (A.under (.builtin "type.__call__" ⟨.ref C :: us, kw⟩)).units = A.units + 1 := by
  first | rfl | simp [Around.under, Code.cUnits, Code.frames, Code.isFrame]
theorem Room.make {k : Nat} {A : Around} (r : Room (k + 1) A) (C : Addr) (us : List Value) (kw : List (Str × Value)) : Room k (A.under (.builtin "type.__call__" ⟨.ref C :: us, kw⟩)) :=
  ⟨r.hd, by have := r.dp; rw [make_depth]; omega, by have := r.un; rw [make_units]; omega⟩
theorem Room.depth {k : Nat} {A : Around} (r : Room k A) : A.depth < recursionLimit := by have := r.dp; omega
theorem Room.units {k : Nat} {A : Around} (r : Room k A) : A.units + 64 < cLine := by have := r.un; omega
theorem Room.units0 {k : Nat} {A : Around} (r : Room k A) : A.units < cLine := by have := r.un; omega

/-! ### argument lists and displays -/
def tNil : TA := fun _ H Q => Q [] H
def tCons (ta : TE) (tr : TA) : TA := fun σ H Q => ta σ H fun x H1 => tr σ H1 fun xs H2 => Q (x :: xs) H2
section
variable {X : Cx} {e : Expr} {es : List Expr} {te : TE} {t : TA} {pos : Pos}
theorem pa_nil : PA X [] tNil := fun _ _ _ _ H Q I h => Calls.spliced_nil ⟨[], H, I, .nil, h⟩
theorem pa_cons (ha : PE X e te) (hr : PA X es t) (hs : starEach (e :: es) X.env = (false, eval e X.env) :: starEach es X.env := by rfl) : PA X (e :: es) (tCons te t) := by
  intro pos pins s σ H Q I h
  rw [hs]
  show wpAny _ _ (spliced ((false, eval e X.env) :: backTo pos (starEach es X.env))) _ _ s
  refine Calls.spliced_cons (thn (ha pins s σ H _ I h) fun u s1 ⟨x, H1, I1, r1, q1⟩ => ?_)
  exact thn (hr pos pins s1 σ H1 _ I1 q1) fun us s2 ⟨xs, H2, I2, r2, q2⟩ => ⟨x :: xs, H2, I2, .cons r1 r2, q2⟩

/-- a tuple, a list of written items -/
def tTup (t : TA) : TE := fun σ H Q => t σ H fun xs H1 => xs.length ≤ sizeLine ∧ ∀ p, H1 p = none → Q (.ref p) (upd H1 p (.tup xs))
def tLst (t : TA) : TE := fun σ H Q => t σ H fun xs H1 => xs.length ≤ sizeLine ∧ ∀ p, H1 p = none → Q (.ref p) (upd H1 p (.lst xs))
theorem pe_tup {x1} (h : PA X es t) : PE X (.Tuple es x1 pos) (tTup t) := by
  intro pins s σ H Q I hq
  refine wpAny_Tuple_spliced (thn (h pos pins s σ H _ I hq) fun us s1 ⟨xs, H1, I1, r, z, q⟩ => ⟨by rw [← r.length]; exact z, ?_⟩)
  have hf : H1 s1.heap.objs.size = none := I1.hok.fresh (Nat.le_refl _)
  refine ⟨.ref s1.heap.objs.size, upd H1 s1.heap.objs.size (.tup xs), I1.laid (t' := s1.toks) (fun b u e => Heap.get?_push_of_some _ e) (Nat.le_refl _) ?_, rfl, q _ hf⟩
  exact ⟨z, us, r, ⟨_, Heap.get?_push_size _ rfl, rfl, _, rfl⟩⟩
theorem pe_lst (h : PA X es t) : PE X (.List es pos) (tLst t) := by
  intro pins s σ H Q I hq
  refine wpAny_List_spliced (thn (h pos pins s σ H _ I hq) fun us s1 ⟨xs, H1, I1, r, z, q⟩ => ⟨by rw [← r.length]; exact z, ?_⟩)
  have hf : H1 s1.heap.objs.size = none := I1.hok.fresh (Nat.le_refl _)
  refine ⟨.ref s1.heap.objs.size, upd H1 s1.heap.objs.size (.lst xs), I1.laid (t' := s1.toks) (fun b u e => Heap.get?_push_of_some _ e) (Nat.le_refl _) ?_, rfl, q _ hf⟩
  exact ⟨z, us, 0, r, Heap.get?_push_size _ rfl⟩
end

/-! ### what a def promises -/
/-- a def's promise: the bound arguments in the parameters' order, the heap, the wanted end, the wanted exception -/
abbrev Sp := List V → Hp → VK → XK → Prop
/-- how an exception lies behind a call (file 08 gives it): the callers' frames, abstract heap and state ahead of the call, the wish, the exception, the state -/
abbrev CXT := List Env → Hp → Shared → XK → Value → Shared → Prop

/-- the state at a call -/
structure Env0 (P : Program) (w : World) (K : PySem.W.Frag) (mg : Str → Option Value) (base : Heap) (A : Around) (outer : List Env) (s : Shared) (H : Hp) : Prop where
  frames : A.frames = some outer
  mod : Mod K mg base
  bs : ∀ b o, base.get? b = some o → s.heap.get? b = some o ∧ H b = none
  bsz : base.objs.size ≤ s.heap.objs.size
  funs : s.heap.FunFrames base outer
  frf : ∀ b ∈ frs outer, H b = none
  hok : HOk P w H s.heap
  bare : AllBare s.gens
/-- a call's end -/
def CE (outer : List Env) (P : Program) (w : World) (H : Hp) (s : Shared) (Q : VK) (u : Value) (s' : Shared) : Prop :=
  ∃ v H', s'.os = s.os ∧ AllBare s'.gens ∧ Un (frs outer) [] H H' s.heap s'.heap ∧ HOk P w H' s'.heap ∧ RelV v u ∧ Q v H'
def CR (CX : CXT) (outer : List Env) (P : Program) (w : World) (H : Hp) (s : Shared) (Q : VK) (E : XK) (r : Result) (s' : Shared) : Prop :=
  match r with
  | .ok (.ret u) => CE outer P w H s Q u s'
  | .ok _ => False
  | .error e => CX outer H s E e s'
structure FnOk (P : Program) (w : World) (K : PySem.W.Frag) (mg : Str → Option Value) (base : Heap) (CX : CXT) (k : Nat) (f : Addr) (fd : FuncData) (ps : List Str) (sp : Sp) : Prop where
  len : ∀ vs H Q E, sp vs H Q E → vs.length = ps.length
  run : ∀ (A : Around) (outer : List Env) (s : Shared) (H : Hp) (args : Args) (us : List Value) (vs : List V) (Q : VK) (E : XK), Room k A → Env0 P w K mg base A outer s H → BindsTo s fd args (ps.zip us) → Vals vs us → sp vs H Q E →
    codeAny (model P w) A (.call (.ref f) args) (CR CX outer P w H s Q E) s

theorem Env0.make {P : Program} {w : World} {K : PySem.W.Frag} {mg : Str → Option Value} {base : Heap} {A : Around} {outer : List Env} {s : Shared} {H : Hp} (e : Env0 P w K mg base A outer s H) (C : Addr) (us : List Value) (kw : List (Str × Value)) :
    Env0 P w K mg base (A.under (.builtin "type.__call__" ⟨.ref C :: us, kw⟩)) outer s H := ⟨by first | exact e.frames | (simpa [Around.under, Code.envs, Code.isFrame, pushEnvs] using e.frames), e.mod, e.bs, e.bsz, e.funs, e.frf, e.hok, e.bare⟩

section
variable {X : Cx} {pins : List (Addr × Obj)} {σ : St} {H : Hp} {s s' : Shared}
/-- from a body: what a callee wants -/
theorem Inv.env0 (I : Inv X pins σ H s) : Env0 X.prog X.w X.K X.mg X.base X.A X.stack s H :=
  ⟨I.ok.frames, I.ok.mod, I.bs, Nat.le_trans I.ok.bsz I.sz, I.stack, I.stkFree, I.hok, I.bare⟩
/-- behind a call -/
theorem Inv.after {Q : VK} {u : Value} (I : Inv X pins σ H s) (h : CE X.stack X.prog X.w H s Q u s') : EP X pins σ Q u s' := by
  obtain ⟨v, H', os, bare, un, hok, r, q⟩ := h
  obtain ⟨hh, g, d, t, os'⟩ := s'
  obtain rfl : os' = s.os := os
  exact ⟨v, H', I.call (h' := hh) (g' := g) (d' := d) (t' := t) (ch := []) un hok bare (fun b z => absurd z (by simp)), r, q⟩
end

/-! ### calls -/
/-- f(..): the written arguments, then the defaults dvs; E: what is wanted of an exception -/
def tCall (sp : Sp) (dvs : List V) (E : XK) (t : TA) : TE := fun σ H Q => t σ H fun vs H1 => sp (vs ++ dvs) H1 Q E
/-- o.m(..) of an instance of the class at C -/
def tMeth (C : Addr) (m : Str) (sp : Sp) (dvs : List V) (E : XK) (ta : TE) (t : TA) : TE := fun σ H Q => ta σ H fun x H1 => ∃ a dx fs, x = .ref a ∧ H1 a = some (.ins C dx fs) ∧ fs.lookup m = none ∧
  t σ H1 fun vs H2 => sp (x :: (vs ++ dvs)) H2 Q E
/-- C(..): a new instance and its dict, then __init__ -/
def tMake (C : Addr) (sp : Sp) (dvs : List V) (E : XK) (t : TA) : TE := fun σ H Q => t σ H fun vs H1 => ∀ x dx, H1 x = none → H1 dx = none → dx ≠ x →
  sp (.ref x :: (vs ++ dvs)) (upd (upd H1 dx (.own x)) x (.ins C dx [])) (fun v H2 => v = .non ∧ Q (.ref x) H2) E

/-- how the parameters are bound: us the positional arguments, kw the keywords' values by name, ds the defaults that fill up -/
def Binds (K : PySem.W.Frag) (fd : FuncData) (ps : List Str) (ds : List Value) : Prop :=
  ∀ (s : Shared) (us : List Value), K.In s.heap → (us ++ ds).length = ps.length → BindsTo s fd ⟨us, []⟩ (ps.zip (us ++ ds))
/-- every parameter is given -/
theorem Binds.all {K : PySem.W.Frag} {fd : FuncData} {ps : List Str} (h : ∀ us : List Value, us.length = ps.length → bindArgs fd ⟨us, []⟩ = pure (ps.zip us)) : Binds K fd ps [] := fun s us _ hl => by
  rw [List.append_nil] at hl ⊢
  exact .of_eq (h us hl)

/-- an exception of a callee reaches what this body wants of exceptions -/
def Passes (CX : CXT) (X : Cx) (E : XK) : Prop := ∀ (pins : List (Addr × Obj)) (σ : St) (H : Hp) (s : Shared) (e : Value) (s' : Shared), Inv X pins σ H s → CX X.stack H s E e s' → X.xe e s'

section
variable {X : Cx} {CX : CXT} {k : Nat} {f C : Addr} {fd : FuncData} {ps : List Str} {sp : Sp} {dvs : List V} {ds : List Value} {E : XK} {x m : Str} {p pos apos : Pos} {e o : Expr} {es : List Expr} {ta : TE} {t : TA}

/-- the callee runs -/
theorem run_fn {pins : List (Addr × Obj)} {σ : St} {H : Hp} {s : Shared} {Q : VK} {us : List Value} {vs : List V} (F : FnOk X.prog X.w X.K X.mg X.base CX k f fd ps sp) (hr : Room k X.A) (hb : Binds X.K fd ps ds) (hd : Vals dvs ds) (hx : Passes CX X E)
    (I : Inv X pins σ H s) (r : Vals vs us) (h : sp (vs ++ dvs) H Q E) : wpAny (model X.prog X.w) X.A (call (.ref f) us) (EP X pins σ Q) X.xe s := by
  have r2 : Vals (vs ++ dvs) (us ++ ds) := r.append hd
  have hl : (us ++ ds).length = ps.length := by rw [← r2.length]; exact F.len _ _ _ _ h
  refine wpAny_call (codeAny_mono (F.run X.A X.stack s H ⟨us, []⟩ (us ++ ds) (vs ++ dvs) Q E hr I.env0 (hb s us I.kIn hl) r2 h) fun r s' hq => ?_)
  cases r with
  | error e => exact hx pins σ H s e s' I hq
  | ok fl =>
    cases fl with
    | ret u => exact I.after hq
    | next => exact False.elim hq
    | brk => exact False.elim hq
    | cont => exact False.elim hq

theorem pe_call (F : FnOk X.prog X.w X.K X.mg X.base CX k f fd ps sp) (hr : Room k X.A) (hg : Gl X x) (hm : X.mg x = some (.ref f)) (hk : PySem.W.keepIn X.K (.ref f) = true) (hb : Binds X.K fd ps ds) (hd : Vals dvs ds) (hx : Passes CX X E)
    (ha : PA X (e :: es) t) (hdb : (x == ("__debug__" : Str)) = false := by decide) (he : starEach (e :: es) X.env = (false, eval e X.env) :: starEach es X.env := by rfl) (hpl : (backTo pos (starEach es X.env)).any (·.1) = false := by rfl) :
    PE X (.Call (.Name x p) (e :: es) [] pos) (tCall sp dvs E t) := by
  intro pins s σ H Q I h
  refine wpAny_Call_Name_kw (ld_glob I hg hm ?_ hdb)
  refine PySem.W.callWith_K (h₀ := X.base) I.ok.mod.kin hk (thn (ha pos pins s σ H _ I h) fun us s1 ⟨vs, H1, I1, r, q⟩ => ⟨I1.kIn, ?_⟩) he hpl
  exact run_fn F hr hb hd hx I1 r q

/-- o.m(e, ..) -/
theorem pe_meth {pl : Sem Bool} (he : PE X o ta) (c : Cls X.K C) (hm : Meth X.K C m f) (F : FnOk X.prog X.w X.K X.mg X.base CX k f fd ps sp) (hr : Room k X.A) (hb : Binds X.K fd ps ds) (hd : Vals dvs ds) (hx : Passes CX X E) (ha : PA X (e :: es) t)
    (hst : starEach (e :: es) X.env = (false, eval e X.env) :: starEach es X.env := by rfl) (hpl : (backTo pos (starEach es X.env)).any (·.1) = false := by rfl)
    (ht : eval (.Call (.Attribute o m apos) (e :: es) [] pos) X.env = (do
      let ov ← eval o X.env
      standAt apos.atName
      let (f, first) ← holding [ov] (getMethod ov m pl)
      callWith pos f first (backTo pos (starEach (e :: es) X.env)) (backToKw pos (keywordEach [] X.env))) := by rfl) :
    PE X (.Call (.Attribute o m apos) (e :: es) [] pos) (tMeth C m sp dvs E ta t) := by
  intro pins s σ H Q I h
  refine PySem.W.methodCall_KW (pl := pl) (thn (he pins s σ H _ I h) fun u s1 ⟨x, H1, I1, rx, a, dx, fs, ex, ea, l, q⟩ => ?_) ht
  subst ex
  obtain rfl : u = Value.ref a := rx
  refine getmeth_ok I1 ea c hm l ?_
  refine PySem.W.callWith_K (first := [.ref a]) (h₀ := X.base) I.ok.mod.kin hm.kp (thn (ha pos pins s1 σ H1 _ I1 q) fun us s2 ⟨vs, H2, I2, r, q2⟩ => ⟨I2.kIn, ?_⟩) hst hpl
  exact run_fn (us := .ref a :: us) (vs := .ref a :: vs) F hr hb hd hx I2 (.cons rfl r) q2
/-- o.m() -/
theorem pe_meth0 {pl : Sem Bool} (he : PE X o ta) (c : Cls X.K C) (hm : Meth X.K C m f) (F : FnOk X.prog X.w X.K X.mg X.base CX k f fd ps sp) (hr : Room k X.A) (hb : Binds X.K fd ps ds) (hd : Vals dvs ds) (hx : Passes CX X E)
    (ht : eval (.Call (.Attribute o m apos) [] [] pos) X.env = (do
      let ov ← eval o X.env
      standAt apos.atName
      let (f, first) ← holding [ov] (getMethod ov m pl)
      callWith pos f first (backTo pos (starEach [] X.env)) (backToKw pos (keywordEach [] X.env))) := by rfl) :
    PE X (.Call (.Attribute o m apos) [] [] pos) (tMeth C m sp dvs E ta tNil) := by
  intro pins s σ H Q I h
  refine PySem.W.methodCall_KW (pl := pl) (thn (he pins s σ H _ I h) fun u s1 ⟨x, H1, I1, rx, a, dx, fs, ex, ea, l, q⟩ => ?_) ht
  subst ex
  obtain rfl : u = Value.ref a := rx
  refine getmeth_ok I1 ea c hm l ?_
  exact PySem.W.callWith_K0 (first := [.ref a]) I1.kIn hm.kp (run_fn (us := [.ref a]) (vs := [.ref a]) F hr hb hd hx I1 (.cons rfl .nil) q)

/-- what a class must have to be made -/
structure Mk (K : PySem.W.Frag) (C f : Addr) : Prop where
  makes : PySem.W.makesIn K C = true
  init : PySem.W.findIn K (.ref C) "__init__" = some (some (.ref f))
  fn : PySem.W.isFn K (.ref f) = true
  kp : PySem.W.keepIn K (.ref C) = true

theorem run_make {pins : List (Addr × Obj)} {σ : St} {H : Hp} {s : Shared} {Q : VK} {us : List Value} {vs : List V} (M : Mk X.K C f) (F : FnOk X.prog X.w X.K X.mg X.base CX k f fd ps sp) (hr : Room (k + 1) X.A) (hb : Binds X.K fd ps ds) (hd : Vals dvs ds)
    (hx : Passes CX X E) (I : Inv X pins σ H s) (r : Vals vs us)
    (h : ∀ x dx, H x = none → H dx = none → dx ≠ x → sp (.ref x :: (vs ++ dvs)) (upd (upd H dx (.own x)) x (.ins C dx [])) (fun v H2 => v = .non ∧ Q (.ref x) H2) E) :
    wpAny (model X.prog X.w) X.A (call (.ref C) us) (EP X pins σ Q) X.xe s := by
  have hq := h (s.heap.objs.size + 1) s.heap.objs.size (I.hok.fresh (Nat.le_succ _)) (I.hok.fresh (Nat.le_refl _)) (Nat.ne_of_lt (Nat.lt_succ_self _))
  have I2 := Inv.made (C := C) I
  have r2 : Vals (V.ref (s.heap.objs.size + 1) :: (vs ++ dvs)) (Value.ref (s.heap.objs.size + 1) :: (us ++ ds)) := .cons rfl (r.append hd)
  have hl : (Value.ref (s.heap.objs.size + 1) :: us ++ ds).length = ps.length := by
    have e := r2.length
    rw [F.len _ _ _ _ hq] at e
    exact e.symm
  refine wpAny_call (make_map (f := f) I.kIn M.makes M.init (beq_iff_eq.mp M.fn) (codeAny_mono (F.run _ X.stack _ _ ⟨Value.ref (s.heap.objs.size + 1) :: us, []⟩ (Value.ref (s.heap.objs.size + 1) :: (us ++ ds)) _ _ E (hr.make C us [])
    (I2.env0.make C us []) (hb _ (Value.ref (s.heap.objs.size + 1) :: us) I2.kIn hl) r2 hq) fun r s' hq' => ?_))
  cases r with
  | error e => exact hx pins σ _ _ e s' I2 hq'
  | ok fl =>
    cases fl with
    | ret u =>
      obtain ⟨v, H', I3, rv, ev, q3⟩ := I2.after hq'
      subst ev
      exact ⟨rv, ⟨V.ref (s.heap.objs.size + 1), H', I3, rfl, q3⟩⟩
    | next => exact False.elim hq'
    | brk => exact False.elim hq'
    | cont => exact False.elim hq'
theorem pe_make (M : Mk X.K C f) (F : FnOk X.prog X.w X.K X.mg X.base CX k f fd ps sp) (hr : Room (k + 1) X.A) (hg : Gl X x) (hm : X.mg x = some (.ref C)) (hb : Binds X.K fd ps ds) (hd : Vals dvs ds) (hx : Passes CX X E)
    (ha : PA X (e :: es) t) (hdb : (x == ("__debug__" : Str)) = false := by decide) (he : starEach (e :: es) X.env = (false, eval e X.env) :: starEach es X.env := by rfl) (hpl : (backTo pos (starEach es X.env)).any (·.1) = false := by rfl) :
    PE X (.Call (.Name x p) (e :: es) [] pos) (tMake C sp dvs E t) := by
  intro pins s σ H Q I h
  refine wpAny_Call_Name_kw (ld_glob I hg hm ?_ hdb)
  refine PySem.W.callWith_K (h₀ := X.base) I.ok.mod.kin M.kp (thn (ha pos pins s σ H _ I h) fun us s1 ⟨vs, H1, I1, r, q⟩ => ⟨I1.kIn, ?_⟩) he hpl
  exact run_make M F hr hb hd hx I1 r q
end

/-! ### keywords -/
/-- the values of the keywords, from the left -/
def PK (X : Cx) (kws : List Keyword) (t : TA) : Prop :=
  ∀ (pos : Pos) (pins : List (Addr × Obj)) (s : Shared) (σ : St) (H : Hp) (Q : List V → Hp → Prop), Inv X pins σ H s → t σ H Q → wpAny (model X.prog X.w) X.A (evalAll ((backToKw pos (keywordEach kws X.env)).map (·.2))) (AP X pins σ Q) X.xe s
section
variable {X : Cx} {CX : CXT} {k : Nat} {f C : Addr} {fd : FuncData} {ps ks : List Str} {sp : Sp} {E : XK} {x m : Str} {p pos apos kpos : Pos} {e o : Expr} {es : List Expr} {kws : List Keyword} {te ta : TE} {t tk : TA} {nm : Option Str}

variable {g : List Value → List Value → List Value} {gV : List V → List V → List V}
end

/-! ### a def's body keeps its promise -/
/-- names: the parameters first -/
structure FnScope (N P : List Str) (sc : Scope) : Prop where
  kind : sc.kind = .function
  co : sc.isCoroutine = false
  gen : sc.isGenerator = false
  nd : N.Nodup
  pre : N.take P.length = P
  par : ∀ x ∈ P, sc.names.lookup x = some .local ∨ sc.names.lookup x = some .cell
  nofree : ∀ y ∈ sc.names, y.2 ≠ .free

theorem bindL_out {kindOf : Str → Option NameKind} {x : Str} : ∀ {binds : List (Str × Value)} {m : Str → Option Value}, (∀ v, (x, v) ∉ binds) → bindL kindOf binds m x = m x
  | [], _, _ => rfl
  | (n, v) :: r, m, h => by
    unfold bindL
    rw [bindL_out fun w hw => h w (List.mem_cons_of_mem _ hw)]
    split
    · have : x ≠ n := by rintro rfl; exact h v List.mem_cons_self
      simp [this]
    · rfl
theorem bindC_out {kindOf : Str → Option NameKind} {x : Str} : ∀ {binds : List (Str × Value)} {m : Str → Option Value}, (∀ v, (x, v) ∉ binds) → bindC kindOf binds m x = m x
  | [], _, _ => rfl
  | (n, v) :: r, m, h => by
    unfold bindC
    rw [bindC_out fun w hw => h w (List.mem_cons_of_mem _ hw)]
    split
    · rfl
    · have : x ≠ n := by rintro rfl; exact h v List.mem_cons_self
      simp [this]
theorem bindL_get {kindOf : Str → Option NameKind} {x : Str} {v : Value} : ∀ {P : List Str} {vs : List Value} {i : Nat} {m : Str → Option Value}, P.Nodup → P[i]? = some x → vs[i]? = some v → kindOf x = some .local →
    bindL kindOf (P.zip vs) m x = some v
  | [], _, _, _, _, h, _, _ => by simp at h
  | _ :: _, [], _, _, _, _, h, _ => by simp at h
  | p :: P, w :: vs, 0, m, nd, h1, h2, hk => by
    simp at h1 h2; subst h1; subst h2
    show bindL kindOf ((p, w) :: P.zip vs) m p = _
    unfold bindL
    rw [bindL_out fun v hv => (List.nodup_cons.mp nd).1 (List.of_mem_zip hv).1, if_pos hk]
    simp
  | p :: P, w :: vs, i + 1, m, nd, h1, h2, hk => by
    show bindL kindOf ((p, w) :: P.zip vs) m x = _
    unfold bindL
    exact bindL_get (i := i) (List.nodup_cons.mp nd).2 (by simpa using h1) (by simpa using h2) hk
theorem bindC_get {kindOf : Str → Option NameKind} {x : Str} {v : Value} : ∀ {P : List Str} {vs : List Value} {i : Nat} {m : Str → Option Value}, P.Nodup → P[i]? = some x → vs[i]? = some v → kindOf x ≠ some .local →
    bindC kindOf (P.zip vs) m x = some v
  | [], _, _, _, _, h, _, _ => by simp at h
  | _ :: _, [], _, _, _, _, h, _ => by simp at h
  | p :: P, w :: vs, 0, m, nd, h1, h2, hk => by
    simp at h1 h2; subst h1; subst h2
    show bindC kindOf ((p, w) :: P.zip vs) m p = _
    unfold bindC
    rw [bindC_out fun v hv => (List.nodup_cons.mp nd).1 (List.of_mem_zip hv).1, if_neg hk]
    simp
  | p :: P, w :: vs, i + 1, m, nd, h1, h2, hk => by
    show bindC kindOf ((p, w) :: P.zip vs) m x = _
    unfold bindC
    exact bindC_get (i := i) (List.nodup_cons.mp nd).2 (by simpa using h1) (by simpa using h2) hk

/-- the names' values at the entry -/
def start (N : List Str) (vs : List V) : St := vs.map some ++ List.replicate (N.length - vs.length) none

/-- the context of a def's body, at its entry; an exception leaves the frame, then lies as CX says -/
def cxOf (CX : CXT) (P : Program) (w : World) (K : PySem.W.Frag) (mg : Str → Option Value) (base : Heap) (N : List Str) (qual : Str) (scope : Scope) (f : Addr) (cd : Value) (A : Around) (outer : List Env) (s : Shared) (H : Hp) (E : XK) : Cx where
  prog := P
  w := w
  K := K
  mg := mg
  base := base
  A := A.deeper (envOfC qual scope s.heap.objs.size f cd)
  N := N
  s₀ := s
  H₀ := H
  env := envOfC qual scope s.heap.objs.size f cd
  outer := outer
  stack := envOfC qual scope s.heap.objs.size f cd :: outer
  ex := []
  calm := true
  fn := fun _ => true
  pn := []
  xe := fun e s' => wpAny (model P w) (A.deeper (envOfC qual scope s.heap.objs.size f cd)) (leaving (envOfC qual scope s.heap.objs.size f cd) e) (fun _ s'' => CX outer H s E e s'') (fun e' s'' => CX outer H s E e' s'') s'

theorem cell_has {sc : Scope} {n : Nat} {x : Str} (h : sc.names.lookup x = some .cell) : ∃ c, (cellsFrom n sc.names []).lookup x = some c := by
  have q := PySem.W.cellsFrom_some sc.names n [] (.inl h)
  exact Option.isSome_iff_exists.mp q

theorem inv_start {CX : CXT} {P : Program} {w : World} {K : PySem.W.Frag} {mg : Str → Option Value} {base : Heap} {N ps : List Str} {qual : Str} {scope : Scope} {f : Addr} {cd : Value} {A : Around} {outer : List Env} {s s1 : Shared} {H : Hp} {E : XK} {us : List Value} {vs : List V}
    (S : FnScope N ps scope) (hd : A.handled = none) (e0 : Env0 P w K mg base A outer s H) (hl : vs.length = ps.length) (r : Vals vs us)
    (x : InCallC s s.heap.objs.size (bindL (envOfC qual scope s.heap.objs.size f cd).kindOf (ps.zip us) fun _ => none) (cellsFrom (s.heap.objs.size + 1) scope.names []) (bindC (envOfC qual scope s.heap.objs.size f cd).kindOf (ps.zip us) fun _ => none) s1) :
    Inv (cxOf CX P w K mg base N qual scope f cd A outer s H E) [] (start N vs) H s1 := by
  have hpl : ps.length ≤ N.length := by have := congrArg List.length S.pre; rw [List.length_take] at this; omega
  obtain ⟨h1, tk, rfl, hk⟩ := x.done
  have noA : ∀ b : Addr, b ∉ (cxOf CX P w K mg base N qual scope f cd A outer s H E).ex := fun b z => absurd (show b ∈ ([] : List Addr) from z) (by simp)
  refine ⟨⟨e0.mod, S.kind, rfl, rfl, Nat.le_refl _, fun y z c h1 h2 => ?_, fun y hy => ?_, fun y c _ h => ?_, fun _ => hd, Around.frames_deeper e0.frames, .inr ⟨rfl, rfl⟩, fun b z => absurd z (noA b), e0.bs, e0.bsz, fun b _ _ => noA b, fun b z => absurd z (noA b), e0.funs, e0.frf⟩,
    rfl, e0.bare, Un.kept hk, ⟨_, x.toInCall.ns, fun i y v h1 h2 h3 => ?_⟩, fun y c h => ⟨_, x.cell y c h⟩, e0.hok.fresh (Nat.le_refl _), fun y c h => ?_, fun p hp => absurd (show p ∈ ([] : List (Addr × Obj)) from hp) (by simp), e0.hok.kept hk, ?_⟩
  · exact name_of_addr x.apart (PySem.mem_of_lookup h1) (PySem.mem_of_lookup h2)
  · have hy : scope.names.lookup y = some .cell ∨ scope.names.lookup y = some .free := hy
    rcases hy with hy | hy
    · exact cell_has hy
    · exact absurd rfl (S.nofree _ (PySem.mem_of_lookup hy))
  · exact Nat.le_of_lt (x.above y c (PySem.mem_of_lookup h))
  · have hi : i < vs.length := by
      unfold start at h2
      by_cases hi : i < vs.length
      · exact hi
      · rw [List.getElem?_append_right (by simpa using hi)] at h2
        rw [List.getElem?_replicate] at h2
        split at h2 <;> cases h2
    have ha : vs[i]? = some v := by
      unfold start at h2
      rw [List.getElem?_append_left (by simpa using hi), List.getElem?_map] at h2
      cases e : vs[i]? with
      | none => rw [e] at h2; cases h2
      | some a => rw [e] at h2; cases h2; rfl
    obtain ⟨u, hu, rv⟩ := r.get ha
    have hp : ps[i]? = some y := by
      rw [← S.pre, List.getElem?_take_of_lt (by omega)]; exact h1
    have ndP : ps.Nodup := by rw [← S.pre]; exact S.nd.sublist (List.take_sublist _ _)
    refine ⟨u, rv, ?_⟩
    rcases S.par y (List.mem_of_getElem? hp) with k | k
    · exact .inl ⟨k, bindL_get ndP hp hu k⟩
    · obtain ⟨c, e⟩ := cell_has (n := s.heap.objs.size + 1) k
      refine .inr ⟨.inl k, c, e, ?_⟩
      have q := x.cell y c e
      rw [bindC_get ndP hp hu (by show scope.names.lookup y ≠ _; rw [k]; decide)] at q
      exact q
  · exact e0.hok.fresh (Nat.le_of_lt (x.above y c (PySem.mem_of_lookup h)))
  · unfold start
    show _ = N.length
    rw [List.length_append, List.length_map, List.length_replicate]
    omega

/-- THE RULE: a def (or a method) of the text, by its body. The body's reading t is chosen for each entry; it is run at the parameters' values -/
theorem fn_of {CX : CXT} {P : Program} {w : World} {K : PySem.W.Frag} {mg : Str → Option Value} {base : Heap} {k : Nat} {f : Addr} {name qual : Str} {params : Arguments} {body : List Stmt} {scope : Scope} {dV kV doc pm cdv ct oc : Value} {an od : Option Addr}
    {osl : Array (Option Value)} {N ps : List Str} {sp : Sp} (lk : K.lookup f = some ⟨oc, od, .func (PySem.W.fnOf name qual params body scope dV kV doc pm an cdv ct), osl⟩) (hcd : PySem.W.codeIn K cdv qual = true) (S : FnScope N ps scope)
    (len : ∀ vs H Q E, sp vs H Q E → vs.length = ps.length)
    (hbody : ∀ (A : Around) (outer : List Env) (s : Shared) (H : Hp) (vs : List V) (Q : VK) (E : XK), Room k (A.deeper (envOfC qual scope s.heap.objs.size f cdv)) → sp vs H Q E →
      ∃ t, PSs (cxOf CX P w K mg base N qual scope f cdv A outer s H E) body t ∧ t { nx := fun _ H' => Q .non H', rt := Q } (start N vs) H) :
    FnOk P w K mg base CX (k + 1) f (PySem.W.fnOf name qual params body scope dV kV doc pm an cdv ct) ps sp := by
  refine ⟨len, fun A outer s H args us vs Q E hr e0 hb r hsp => ?_⟩
  have hl := len _ _ _ _ hsp
  have KX : K.In s.heap := e0.mod.kin.keeps fun b o e => (e0.bs b o e).1
  have lim : s.heap.NoLimit := e0.mod.nolimit.keeps fun b o e => (e0.bs b o e).1
  have hkind : ∀ y ∈ ps.zip us, scope.names.lookup y.1 = some .local ∨ (scope.names.lookup y.1 = some .cell ∧ ((cellsFrom (s.heap.objs.size + 1) scope.names []).lookup y.1).isSome = true) := fun ⟨n, v⟩ hy => by
    rcases S.par n (List.of_mem_zip hy).1 with q | q
    · exact .inl q
    · exact .inr ⟨q, PySem.W.cellsFrom_some _ _ _ (.inl q)⟩
  refine codeAny_call_function hr.depth (KX _ _ lk) rfl S.co S.gen rfl (PySem.W.codeRec_of KX hcd) (hb _ _ _ _ ?_)
  refine wpAny_newFunctionEnv_cells S.kind hkind fun env he s1 x => ?_
  subst he
  refine ⟨lim.keeps x.toInCall.keep, codeAny_func ?_⟩
  obtain ⟨t, ht, hq⟩ := hbody A outer s H vs Q E (hr.deeper _) hsp
  have I : Inv (cxOf CX P w K mg base N qual scope f cdv A outer s H E) [] (start N vs) H s1 := inv_start S hr.hd e0 hl r x
  refine wpAny_mono (ht [] s1 (start N vs) H _ I hq) (fun fl s' hs => ?_) fun e s' hs => hs
  have fin : ∀ {σ' : St} {H' : Hp} {v : V} {u : Value}, Inv (cxOf CX P w K mg base N qual scope f cdv A outer s H E) [] σ' H' s' → RelV v u → Q v H' → CE outer P w H s Q u s' :=
    fun {σ' H' v u} J rv q => ⟨v, H', J.os, J.bare, J.base, J.hok, rv, q⟩
  cases fl with
  | ret u =>
    obtain ⟨v, σ', H', J, rv, q⟩ := hs
    exact fin J rv q
  | next =>
    obtain ⟨σ', H', J, q⟩ := hs
    exact fin (v := V.non) (u := Value.none) J rfl q
  | brk =>
    obtain ⟨_, _, _, q⟩ := hs
    exact False.elim q
  | cont =>
    obtain ⟨_, _, _, q⟩ := hs
    exact False.elim q
end L2

namespace L2
open PySem PySem.Spec PyProof.Rows
section
variable {X : Cx} {x : Str} {p pos : Pos} {e : Expr} {es : List Expr} {t : TA} {id T : String} {r : List V → Hp → VK → Prop}

def tCB (r : List V → Hp → VK → Prop) (t : TA) : TE := fun σ H Q => t σ H fun vs H1 => r vs H1 Q
/-- f(e, ..), f a built-in function -/
theorem pe_callB (hc : CallR X (.builtin id) r) (hg : Gl X x) (hm : X.mg x = none) (hv : bootBuiltins x = some (.builtin id)) (ha : PA X (e :: es) t) (hn : x ≠ "__name__" := by decide) (hdb : (x == ("__debug__" : Str)) = false := by decide)
    (he : starEach (e :: es) X.env = (false, eval e X.env) :: starEach es X.env := by rfl) (hpl : (backTo pos (starEach es X.env)).any (·.1) = false := by rfl) : PE X (.Call (.Name x p) (e :: es) [] pos) (tCB r t) := by
  intro pins s σ H Q I h
  refine wpAny_Call_Name_kw (ld_blt I hg hm hv ?_ hn hdb)
  exact PyProof.Rows.callWith_builtin1 (thn (ha pos pins s σ H _ I h) fun us s1 ⟨vs, H1, I1, r1, q1⟩ => hc pins s1 σ H1 vs us Q I1 r1 q1) he hpl
/-- T(e, ..), T a built-in type -/
theorem pe_callTy (hc : CallR X (.type T) r) (hg : Gl X x) (hm : X.mg x = none) (hv : bootBuiltins x = some (.type T)) (ha : PA X (e :: es) t) (hn : x ≠ "__name__" := by decide) (hdb : (x == ("__debug__" : Str)) = false := by decide)
    (he : starEach (e :: es) X.env = (false, eval e X.env) :: starEach es X.env := by rfl) (hpl : (backTo pos (starEach es X.env)).any (·.1) = false := by rfl) : PE X (.Call (.Name x p) (e :: es) [] pos) (tCB r t) := by
  intro pins s σ H Q I h
  refine wpAny_Call_Name_kw (ld_blt I hg hm hv ?_ hn hdb)
  exact PyProof.Rows.callWith_type1 (thn (ha pos pins s σ H _ I h) fun us s1 ⟨vs, H1, I1, r1, q1⟩ => hc pins s1 σ H1 vs us Q I1 r1 q1) he hpl
end
end L2

namespace HT
open PySem PyProof.Rows



section
open PySem.SeqAt
open PySem.AutoSeq1 (wpAny_loadPart')
open PySem.MeetsSeq PySem.MeetsSeq2 PySem.MeetsSeq3

end

section
variable {prog : Program} {w : World} {A : Around} {E : Value → Shared → Prop} {s : Shared}


/-- t + u, t not empty -/
theorem cat_tup {t b : Addr} {vs ws : List Value} {Q : Value → Shared → Prop} (ht : IsTup s.heap t vs.toArray) (hb : IsTup s.heap b ws.toArray) (hv : vs ≠ [])
    (h1 : ws = [] → Q (.ref t) s) (h2 : ws ≠ [] → Q (.ref s.heap.objs.size) { s with heap := s.heap.push { cls := .type "tuple", data := .seq (vs ++ ws).toArray } })
    (hsz : vs.length + ws.length ≤ sizeLine) : wpAny (model prog w) A (binaryOp .Add (.ref t) (.ref b)) Q E s := by
  obtain ⟨⟨cls, dd, data, sl⟩, ho, hc, n, hd⟩ := id ht
  obtain ⟨⟨cls2, dd2, data2, sl2⟩, ho2, hc2, n2, hd2⟩ := id hb
  simp only at hc hd hc2 hd2
  subst hc hd hc2 hd2
  have e : vs.toArray ++ ws.toArray = (vs ++ ws).toArray := by simp
  by_cases hw : ws = []
  · exact concat_meets ⟨_, ho, rfl⟩ ⟨_, ho2, rfl⟩ noFill_tuple_add seq_tuple_add PySem.F.slot_tuple_add PySem.F.entry_tuple_add (PySem.F.args_tuple_add_2 _ _)
      (tuple_addW1 t b vs.toArray ws.toArray n n2 dd dd2 sl sl2 (by simpa using hv) (by simp [hw])) ⟨ho, ho2, h1 hw⟩
  · refine concat_meets ⟨_, ho, rfl⟩ ⟨_, ho2, rfl⟩ noFill_tuple_add seq_tuple_add PySem.F.slot_tuple_add PySem.F.entry_tuple_add (PySem.F.args_tuple_add_2 _ _)
      (tuple_addW2 t b vs.toArray ws.toArray n n2 dd dd2 sl sl2 (by simpa using hv) (by simpa using hw) (by rw [List.size_toArray, List.size_toArray]; exact hsz)) ⟨ho, ho2, ?_⟩
    rw [e]
    exact h2 hw

/-! ### t[a:b], not the whole -/
/-- a slice's bound as a place among n (d where it is left out) -/
def sIx (n d : Nat) : Option Int → Nat
  | none => d
  | some v => if v < 0 then (v + (n : Int)).toNat else min v.toNat n
theorem sIx_nat (n d k : Nat) : sIx n d (some (k : Int)) = min k n := by
  show (if (k : Int) < 0 then ((k : Int) + (n : Int)).toNat else min (k : Int).toNat n) = min k n
  rw [if_neg (by omega), Int.toNat_natCast]
theorem sIx_le (n d : Nat) (hd : d ≤ n) (o : Option Int) : sIx n d o ≤ n := by
  cases o with
  | none => exact hd
  | some v =>
    show (if v < 0 then (v + (n : Int)).toNat else min v.toNat n) ≤ n
    by_cases hv : v < 0
    · rw [if_pos hv]; omega
    · rw [if_neg hv]; exact Nat.min_le_right _ _
theorem clip_eq (v : Int) (n d : Nat) : (if v < 0 then max (v + (n : Int)) 0 else min v (n : Int)) = ((sIx n d (some v) : Nat) : Int) := by
  show (if v < 0 then max (v + (n : Int)) 0 else min v (n : Int)) = (((if v < 0 then (v + (n : Int)).toNat else min v.toNat n) : Nat) : Int)
  by_cases hv : v < 0
  · simp only [if_pos hv]; omega
  · simp only [if_neg hv]; omega
theorem adjust_gen (lo hi : Option Int) (n : Nat) : Builtin.Slice.sliceAdjust lo hi 1 (n : Int) = (((sIx n 0 lo : Nat) : Int), ((sIx n n hi : Nat) : Int)) := by
  have h1 : ¬ ((1 : Int) < 0) := by omega
  unfold Builtin.Slice.sliceAdjust
  simp only [h1, if_false]
  refine Prod.ext ?_ ?_
  · cases lo with
    | none => rfl
    | some v => exact clip_eq v n 0
  · cases hi with
    | none => rfl
    | some v => exact clip_eq v n n
theorem places_gen (i j : Nat) : Builtin.Slice.slicePlaces (i : Int) (j : Int) 1 = j - i := by
  unfold Builtin.Slice.slicePlaces
  have h1 : (1 : Int) > 0 := by omega
  simp only [h1, if_true, Int.ediv_one]
  split <;> omega
theorem slicePart_ {v : Value} {o : Option Int} {Q : Option Int → Shared → Prop} (p : IsPart v o) (h : Q o s) : wpAny (model prog w) A (Builtin.Slice.slicePartIndex v) Q E s := by
  cases p with
  | none => exact slicePart_none h
  | int i t => exact slicePart_int h
theorem sliceApplied_gen {sl : Addr} {vl vu : Value} {lo hi : Option Int} {n : Nat} {Q : Int × Int × Nat → Shared → Prop} (hs : s.heap.IsSliceOf sl vl vu .none) (pl : IsPart vl lo) (pu : IsPart vu hi)
    (h : Q (((sIx n 0 lo : Nat) : Int), 1, sIx n n hi - sIx n 0 lo) s) : wpAny (model prog w) A (Builtin.Slice.sliceApplied (.ref sl) (pure (n : Int))) Q E s := by
  obtain ⟨os, hos, hcs, hds⟩ := id hs
  unfold Builtin.Slice.sliceApplied Builtin.Slice.sliceFields
  refine wpAny_bind (wpAny_bind (wpAny_field hos hds (x := vl) rfl (wpAny_bind (wpAny_field hos hds (x := vu) rfl (wpAny_bind (wpAny_field hos hds (x := .none) rfl (wpAny_pure ?_)))))))
  refine wpAny_bind (slicePart_none ?_)
  show wpAny _ _ (if ((1 : Int) == 0) = true then _ else _) _ _ s
  rw [if_neg (by decide)]
  refine wpAny_bind (slicePart_ pl (wpAny_bind (slicePart_ pu (wpAny_bind (wpAny_pure ?_)))))
  show wpAny _ _ (match Builtin.Slice.sliceAdjust lo hi 1 (n : Int) with | (lo, hi) => pure (lo, (1 : Int), Builtin.Slice.slicePlaces lo hi 1)) _ _ s
  rw [adjust_gen lo hi n]
  show wpAny _ _ (pure (((sIx n 0 lo : Nat) : Int), (1 : Int), Builtin.Slice.slicePlaces ((sIx n 0 lo : Nat) : Int) ((sIx n n hi : Nat) : Int) 1)) _ _ s
  rw [places_gen]
  exact wpAny_pure h
theorem pick_gen (xs : Array Value) (i k : Nat) : ((List.range k).filterMap fun (m : Nat) => xs[((i : Int) + (m : Int) * 1).toNat]?).toArray = ((xs.toList.drop i).take k).toArray := by
  have e : (fun (m : Nat) => xs[((i : Int) + (m : Int) * 1).toNat]?) = fun m => xs[i + m]? := by
    funext m
    have : ((i : Int) + (m : Int) * 1).toNat = i + m := by omega
    rw [this]
  rw [e]
  have := pick_run xs i k
  rw [List.filterMap_map] at this
  have e2 : ((fun x => xs[x]?) ∘ fun x => i + x) = fun m => xs[i + m]? := rfl
  rw [e2] at this
  rw [this]

theorem getItem_tuple_cut {t sl : Addr} {items : Array Value} {vl vu : Value} {lo hi : Option Int} {Q : Value → Shared → Prop} (ht : IsTup s.heap t items) (hs : s.heap.IsSliceOf sl vl vu .none) (pl : IsPart vl lo) (pu : IsPart vu hi)
    (hw : ¬ (sIx items.size 0 lo = 0 ∧ sIx items.size items.size hi = items.size))
    (h : Q (.ref s.heap.objs.size) { s with heap := s.heap.push { cls := .type "tuple", data := .seq ((items.toList.drop (sIx items.size 0 lo)).take (sIx items.size items.size hi - sIx items.size 0 lo)).toArray } })
    (hsz : items.size ≤ sizeLine) : wpAny (model prog w) A (getItem (.ref t) (.ref sl)) Q E s := by
  have htake : sizeOk (.seq ((items.toList.drop (sIx items.size 0 lo)).take (sIx items.size items.size hi - sIx items.size 0 lo)).toArray) := by
    show ((items.toList.drop (sIx items.size 0 lo)).take (sIx items.size items.size hi - sIx items.size 0 lo)).toArray.size ≤ sizeLine
    rw [List.size_toArray, List.length_take, List.length_drop, Array.length_toList]
    omega
  have hj : sIx items.size items.size hi ≤ items.size := sIx_le _ _ (Nat.le_refl _) hi
  obtain ⟨os, hos, hcs, hds⟩ := id hs
  have hTs : s.TypeIs (.ref sl) "slice" := ⟨os, hos, hcs⟩
  unfold getItem
  try with_reducible refine wpAny_holding ?_
  first | refine wpAny_bind (wpAny_pure ?_) | skip
  refine wpAny_bind (wpAny_sequenceKey ht.typeIs (by decide) ?_)
  refine wpAny_bind (wpAny_callSpecial?_slot (name := Str.ofString "__getitem__") ht.typeIs PyProof.Rows.slot_tuple_getitem
    (wpAny_call_entry PyProof.Rows.slot_tuple_getitem ht.typeIs entry_tuple_getitem ?_ (args_tuple_getitem _ _)))
  show wpAny _ _ (Builtin.Tuple.tupleItemsOf (.ref t) >>= _) _ _ s
  refine wpAny_bind (tupleItemsOf_ ht ?_)
  refine wpAny_bind (wpAny_typeOf hTs ?_)
  rw [if_pos (by decide)]
  refine wpAny_bind (sliceApplied_gen hs pl pu ?_)
  have hno : ¬ ((((sIx items.size 0 lo : Nat) : Int) == 0 && (1 : Int) == 1 && (sIx items.size items.size hi - sIx items.size 0 lo) == items.size) = true) := by
    intro q
    rw [Bool.and_eq_true, Bool.and_eq_true] at q
    have q1 : ((sIx items.size 0 lo : Nat) : Int) = 0 := eq_of_beq q.1.1
    have q2 : sIx items.size items.size hi - sIx items.size 0 lo = items.size := eq_of_beq q.2
    exact hw ⟨by omega, by omega⟩
  show wpAny _ _ (if (((sIx items.size 0 lo : Nat) : Int) == 0 && (1 : Int) == 1 && (sIx items.size items.size hi - sIx items.size 0 lo) == items.size) = true then _ else _) _ _ s
  rw [if_neg hno, pick_gen]
  first
    | exact wpAny_bind (m := Builtin.Tuple.tupleExact _) (wpAny_newObj_type (wpAny_pure ⟨_, rfl, wpAny_pure h⟩) htake)
    | exact wpAny_bind (m := Builtin.Tuple.tupleExact _) (wpAny_newObj_type (wpAny_bind (wpAny_pure (wpAny_pure ⟨_, rfl, wpAny_pure h⟩))) htake)
    | exact wpAny_bind (wpAny_bind (m := Builtin.Tuple.tupleExact _) (wpAny_newObj_type (wpAny_pure (wpAny_pure ⟨_, rfl, wpAny_pure h⟩)) htake))
    | exact wpAny_bind (wpAny_bind (m := Builtin.Tuple.tupleExact _) (wpAny_newObj_type (wpAny_pure ⟨_, rfl, wpAny_pure h⟩) htake))
end
end HT

namespace L2
open PySem PySem.Spec PyProof.Rows

/-! ### the parts of a slice -/
abbrev TO := St → Hp → (Option Int → Hp → Prop) → Prop
/-- a slice's part (left out, or an int) -/
def PO (X : Cx) (e : Option Expr) (t : TO) : Prop :=
  ∀ (pins : List (Addr × Obj)) (s : Shared) (σ : St) (H : Hp) (Q : Option Int → Hp → Prop), Inv X pins σ H s → t σ H Q →
    wpAny (model X.prog X.w) X.A (evalPart e X.env) (fun u s' => ∃ o H', Inv X pins σ H' s' ∧ IsPart u o ∧ Q o H') X.xe s
def tNoPart : TO := fun _ H Q => Q none H
def tPart (t : TE) : TO := fun σ H Q => t σ H fun x H1 => ∃ i, x = .int i ∧ Q (some i) H1


section
variable {X : Cx} {e : Expr} {te : TE} {lo hi : Option Expr} {tl th : TO} {pos p2 : Pos}

theorem po_none : PO X none tNoPart := by
  intro pins s σ H Q I h
  rw [evalPart_none]
  exact wpAny_pure ⟨none, H, I, .none, h⟩
theorem po_some (h : PE X e te) : PO X (some e) (tPart te) := by
  intro pins s σ H Q I hw
  rw [evalPart_some]
  refine thn (h pins s σ H _ I hw) fun u s1 ⟨x, H1, I1, r1, q1⟩ => ?_
  obtain ⟨i, rfl, q⟩ := q1
  obtain ⟨t, rfl⟩ := r1
  exact ⟨some i, H1, I1, .int i t, q⟩

/-- what a slice of a value is, by values: the slice object stands at sl -/
def SlR (X : Cx) (r : V → Option Int → Option Int → Hp → VK → Prop) : Prop :=
  ∀ (pins : List (Addr × Obj)) (s : Shared) (σ : St) (H : Hp) (x : V) (v vl vu : Value) (lo hi : Option Int) (sl : Addr) (Q : VK), Inv X pins σ H s → RelV x v → s.heap.IsSliceOf sl vl vu .none → IsPart vl lo → IsPart vu hi → r x lo hi H Q →
    ∃ T id, typeLookup (.type T) "__getitem__" = pure (some (.builtin id)) ∧ s.TypeIs v T ∧ wpAny (model X.prog X.w) X.A (getItem v (.ref sl)) (EP X pins σ Q) X.xe s
def tSl (r : V → Option Int → Option Int → Hp → VK → Prop) (te : TE) (tl th : TO) : TE := fun σ H Q => te σ H fun x H1 => tl σ H1 fun l H2 => th σ H2 fun u H3 => r x l u H3 Q
/-- a[lo:hi], any a -/
theorem pe_slice {r : V → Option Int → Option Int → Hp → VK → Prop} (hr : SlR X r) (he : PE X e te) (hl : PO X lo tl) (hu : PO X hi th) : PE X (.Subscript e (.Slice lo hi none p2) pos) (tSl r te tl th) := by
  intro pins s σ H Q I h
  refine Subscript_ (thn (he pins s σ H _ I h) fun v s1 ⟨x, H1, I1, r1, q1⟩ => ?_)
  refine wpAny_Slice (thn (hl pins s1 σ H1 _ I1 q1) fun vl s2 ⟨l, H2, I2, pl, q2⟩ => thn (hu pins s2 σ H2 _ I2 q2) fun vu s3 ⟨u, H3, I3, pu, q3⟩ => ?_)
  rw [evalPart_none]
  refine wpAny_pure ?_
  have I4 : Inv X pins σ H3 { s3 with heap := s3.heap.push { cls := .type "slice", data := .fields #[vl, vu, .none] } } := I3.kept (t' := s3.toks) fun b ob q => Heap.get?_push_of_some _ q
  obtain ⟨T, id, hT, ht, hg⟩ := hr pins { s3 with heap := s3.heap.push { cls := .type "slice", data := .fields #[vl, vu, .none] } } σ H3 x v vl vu l u s3.heap.objs.size Q I4 r1 (Heap.IsSliceOf.new ..) pl pu q3
  show wpAny (model X.prog X.w) X.A (subscriptTail e (.Slice lo hi none p2) v (.ref s3.heap.objs.size)) (EP X pins σ Q) X.xe { s3 with heap := s3.heap.push { cls := .type "slice", data := .fields #[vl, vu, .none] } }
  exact tail_any (ops := [.ref s3.heap.objs.size, v]) ht hT hg (by with_unfolding_all rfl)

/-- the items of xs[lo:hi] -/
def cutV (xs : List V) (lo hi : Option Int) : List V := (xs.drop (HT.sIx xs.length 0 lo)).take (HT.sIx xs.length xs.length hi - HT.sIx xs.length 0 lo)
theorem cutV_length (xs : List V) (lo hi : Option Int) : (cutV xs lo hi).length ≤ xs.length := by
  unfold cutV
  rw [List.length_take, List.length_drop]
  omega
/-- t[lo:hi], not the whole of it (the whole would be t itself) -/
def rSlT (K : PySem.W.Frag) : V → Option Int → Option Int → Hp → VK → Prop := fun x lo hi H Q => ∃ a xs, x = .ref a ∧ SqT K H a xs ∧
  ¬ (HT.sIx xs.length 0 lo = 0 ∧ HT.sIx xs.length xs.length hi = xs.length) ∧ ∀ p, H p = none → Q (.ref p) (upd H p (.tup (cutV xs lo hi)))
theorem sl_tup : SlR X (rSlT X.K) := by
  intro pins s σ H x v vl vu lo hi sl Q I rx hs pl pu h
  obtain ⟨a, xs, rfl, hx, hw, q⟩ := h
  cases rx
  obtain ⟨its, r, ht, hz⟩ := I.tuple hx
  have hlen : its.toArray.size = xs.length := by rw [List.size_toArray]; exact r.length.symm
  refine ⟨"tuple", _, PyProof.Rows.slot_tuple_getitem.lookup, ht.typeIs, ?_⟩
  refine HT.getItem_tuple_cut ht hs pl pu (by rw [hlen]; exact hw) ?_ (by rw [hlen]; exact hz)
  rw [hlen]
  refine ⟨.ref s.heap.objs.size, _, I.laid (t' := s.toks) (o := .tup (cutV xs lo hi)) (fun b ob q => Heap.get?_push_of_some _ q) (Nat.le_refl _) ?_, rfl, q _ (I.hok.fresh (Nat.le_refl _))⟩
  exact ⟨Nat.le_trans (cutV_length xs lo hi) hz, _, (r.drop (HT.sIx xs.length 0 lo)).take (HT.sIx xs.length xs.length hi - HT.sIx xs.length 0 lo), IsTup.new _ _⟩

/-! ### t < u, t + u -/
/-- t + u, t not empty: u empty gives t itself -/
def rCatT (K : PySem.W.Frag) : R2 := fun x y H Q => ∃ a b xs ys, x = .ref a ∧ y = .ref b ∧ SqT K H a xs ∧ SqT K H b ys ∧ xs ≠ [] ∧ xs.length + ys.length ≤ sizeLine ∧
  (ys = [] → Q (.ref a) H) ∧ (ys ≠ [] → ∀ p, H p = none → Q (.ref p) (upd H p (.tup (xs ++ ys))))
theorem Vals.nil_iff {xs : List V} {us : List Value} (r : Vals xs us) : us = [] ↔ xs = [] := by
  cases r with
  | nil => simp
  | cons _ _ => simp
theorem op_catT : OpR X (binaryOp .Add) (rCatT X.K) := by
  intro pins s σ H x y v u Q I rx ry h
  obtain ⟨a, b, xs, ys, rfl, rfl, ha, hb, hx, hz, q1, q2⟩ := h
  cases rx
  cases ry
  obtain ⟨its, r1, p1, _⟩ := I.tuple ha
  obtain ⟨its2, r2, p2, _⟩ := I.tuple hb
  refine HT.cat_tup p1 p2 (fun z => hx (r1.nil_iff.mp z)) (fun z => ⟨.ref a, H, I, rfl, q1 (r2.nil_iff.mp z)⟩) (fun z => ?_) (by rw [← r1.length, ← r2.length]; exact hz)
  refine ⟨.ref s.heap.objs.size, _, I.laid (t' := s.toks) (o := .tup (xs ++ ys)) (fun b ob q => Heap.get?_push_of_some _ q) (Nat.le_refl _) ?_, rfl, q2 (fun w => z (r2.nil_iff.mpr w)) _ (I.hok.fresh (Nat.le_refl _))⟩
  exact ⟨by rw [List.length_append]; exact hz, _, r1.append r2, IsTup.new _ _⟩
end
end L2

namespace L2
open PySem PySem.Spec PyProof.Rows

/-! ### places -/
/-- the place that an index of any sign means -/
def ixN (n : Nat) (i : Int) : Option Nat := if 0 ≤ i then (if i < n then some i.toNat else none) else if -(n : Int) ≤ i then some (i + n).toNat else none
def atI {α : Type} (xs : List α) (i : Int) : Option α := (ixN xs.length i).bind fun j => xs[j]?
theorem ixN_seq {n : Nat} {i : Int} {j : Nat} (h : ixN n i = some j) : seqIndex? i n = some j ∧ j < n ∧ -(n : Int) ≤ i ∧ i < n := by
  unfold ixN at h
  by_cases h0 : 0 ≤ i
  · rw [if_pos h0] at h
    by_cases h1 : i < n
    · rw [if_pos h1] at h
      have e : i.toNat = j := Option.some.inj h
      exact ⟨by rw [seqIndex_of h0 h1, e], by omega, by omega, h1⟩
    · rw [if_neg h1] at h; cases h
  · rw [if_neg h0] at h
    by_cases h1 : -(n : Int) ≤ i
    · rw [if_pos h1] at h
      have e : (i + n).toNat = j := Option.some.inj h
      exact ⟨by rw [seqIndex_neg (by omega) h1, e], by omega, h1, by omega⟩
    · rw [if_neg h1] at h; cases h
theorem atI_get {α : Type} {xs : List α} {i : Int} {v : α} (h : atI xs i = some v) : ∃ j, seqIndex? i xs.length = some j ∧ xs[j]? = some v ∧ j < xs.length ∧ -(xs.length : Int) ≤ i ∧ i < xs.length := by
  unfold atI at h
  cases e : ixN xs.length i with
  | none => rw [e] at h; cases h
  | some j =>
    rw [e] at h
    obtain ⟨h1, h2, h3, h4⟩ := ixN_seq e
    exact ⟨j, h1, h, h2, h3, h4⟩
theorem atI_nat {α : Type} {xs : List α} {j : Nat} {v : α} (h : xs[j]? = some v) : atI xs (j : Int) = some v := by
  have hj : j < xs.length := (List.getElem?_eq_some_iff.mp h).1
  have e : ixN xs.length (j : Int) = some j := by
    unfold ixN
    rw [if_pos (by omega), if_pos (by omega)]; simp
  unfold atI; rw [e]; exact h

/-! ### what may be subscripted -/
/-- what stands as an index of a plain subscript -/
def PlainIx (b : Expr) : Prop := ∀ o i, subscripted b false o i = operate [o, i] (getItem o i)
/-- a subscript by values -/
def IxR (X : Cx) (r : R2) : Prop :=
  ∀ (value slice : Expr) (pins : List (Addr × Obj)) (s : Shared) (σ : St) (H : Hp) (x y : V) (v u : Value) (Q : VK), Inv X pins σ H s → RelV x v → RelV y u → r x y H Q →
    subscripted slice false v u = operate [v, u] (getItem v u) → wpAny (model X.prog X.w) X.A (subscriptTail value slice v u) (EP X pins σ Q) X.xe s
/-- a call of a builtin's method by values: the receiver, the arguments -/
def MtR (X : Cx) (id : String) (r : V → List V → Hp → VK → Prop) : Prop :=
  ∀ (pins : List (Addr × Obj)) (s : Shared) (σ : St) (H : Hp) (x : V) (xs : List V) (v : Value) (us : List Value) (Q : VK), Inv X pins σ H s → RelV x v → Vals xs us → r x xs H Q →
    wpAny (model X.prog X.w) X.A (call (.builtin id) (v :: us)) (EP X pins σ Q) X.xe s
section
variable {X : Cx} {a b : Expr} {ta tb : TE} {pos : Pos}
/-- a[b] -/
theorem pe_ix {r : R2} (hr : IxR X r) (ha : PE X a ta) (hb : PE X b tb) (hs : PlainIx b) : PE X (.Subscript a b pos) (tOp r ta tb) := by
  intro pins s σ H Q I h
  exact Subscript_ (binT ha hb I h fun v u s2 x y H2 I2 rx ry q => hr a b pins s2 σ H2 x y v u Q I2 rx ry q (hs _ _))

def rIxL (K : PySem.W.Frag) : R2 := fun x y H Q => ∃ p xs i v, x = .ref p ∧ y = .int i ∧ SqL K H p xs ∧ atI xs i = some v ∧ Q v H
def rIxT (K : PySem.W.Frag) : R2 := fun x y H Q => ∃ p xs i v, x = .ref p ∧ y = .int i ∧ SqT K H p xs ∧ atI xs i = some v ∧ Q v H
def rIxS : R2 := fun x y H Q => ∃ z i c, x = .str z ∧ y = .int i ∧ z.length ≤ sizeLine ∧ atI z.cps.toList i = some c ∧ Q (.str ⟨#[c]⟩) H
theorem ix_list : IxR X (rIxL X.K) := by
  intro value slice pins s σ H x y v u Q I rx ry h hs
  obtain ⟨p, xs, i, z, rfl, rfl, hq, he, q⟩ := h
  cases rx
  obtain ⟨t, rfl⟩ := ry
  obtain ⟨its, r, pl, hz⟩ := I.list hq
  obtain ⟨j, h1, h2, h3, h4, h5⟩ := atI_get he
  obtain ⟨w, ew, rw'⟩ := r.get h2
  have hl := r.length
  have hn := line63
  have fin : EP X pins σ Q w s := ⟨z, H, I, rw', q⟩
  by_cases h0 : 0 ≤ i
  · have hj : i.toNat = j := by
      rw [seqIndex_of h0 h5] at h1
      exact Option.some.inj h1
    exact item_listR pl.isList h0 (by omega) (by rw [hj]; simpa using ew) fin hs
  · have hj : (i + (its.toArray.size : Int)).toNat = j := by
      rw [seqIndex_neg (by omega) h4] at h1
      rw [List.size_toArray, ← hl]
      exact Option.some.inj h1
    exact subscriptTail_builtinR (x := w) pl.isList.typeIs slot_list_getitem.lookup
      (wpAny_getItem_list_neg (Q := fun r s' => r = w ∧ EP X pins σ Q r s') pl.isList (by omega) (by rw [List.size_toArray] <;> omega) (by omega) (by rw [hj]; simpa using ew) ⟨rfl, fin⟩) hs
theorem ix_tup : IxR X (rIxT X.K) := by
  intro value slice pins s σ H x y v u Q I rx ry h hs
  obtain ⟨p, xs, i, z, rfl, rfl, hq, he, q⟩ := h
  cases rx
  obtain ⟨t, rfl⟩ := ry
  obtain ⟨its, r, pl, hz⟩ := I.tuple hq
  obtain ⟨j, h1, h2, h3, h4, h5⟩ := atI_get he
  obtain ⟨w, ew, rw'⟩ := r.get h2
  have hl := r.length
  have hn := line63
  have fin : EP X pins σ Q w s := ⟨z, H, I, rw', q⟩
  exact subscriptTail_builtinR (x := w) pl.typeIs slot_tuple_getitem.lookup
    (getItem_tuple (j := j) (Q := fun r s' => r = w ∧ EP X pins σ Q r s') pl (by omega) (by omega) (by rw [List.size_toArray, ← hl]; exact h1) (by simpa using ew) ⟨rfl, fin⟩) hs
theorem ix_str : IxR X rIxS := by
  intro value slice pins s σ H x y v u Q I rx ry h hs
  obtain ⟨z, i, c, rfl, rfl, hz, he, q⟩ := h
  obtain ⟨t, rfl⟩ := rx
  obtain ⟨t', rfl⟩ := ry
  obtain ⟨j, h1, h2, h3, h4, h5⟩ := atI_get he
  have hl : z.cps.toList.length = z.length := by simp [Str.length]
  rw [hl] at h1 h4 h5
  have hn := line63
  exact tail_any (typeIs_str s z t) slot_str_getitem.lookup (getItem_str (c := c) (by
    have e1 : decide (i < -(2 ^ 63 : Int)) = false := decide_eq_false (by omega)
    have e2 : decide (i ≥ 2 ^ 63) = false := decide_eq_false (by omega)
    rw [e1, e2, Bool.or_false]) (by rw [h1]; simpa using h2) ⟨.str ⟨#[c]⟩, H, I.tok _, ⟨_, rfl⟩, q⟩) hs

/-! ### xs[i] = v, any sign -/
/-- the list's object behind a store -/
theorem mapSeq_set (its : List Value) (n j : Nat) (u : Value) : Obj.mapSeq (·.setIfInBounds j u) { cls := .type "list", data := .seq its.toArray n } = { cls := .type "list", data := .seq (its.set j u).toArray n } := by
  simp [Obj.mapSeq]
theorem Inv.lst {pins : List (Addr × Obj)} {σ : St} {H : Hp} {s : Shared} {p : Addr} {xs : List V} (I : Inv X pins σ H s) (h : H p = some (.lst xs)) :
    ∃ (its : List Value) (n : Nat), Vals xs its ∧ s.heap.get? p = some { cls := .type "list", data := .seq its.toArray n } ∧ xs.length ≤ sizeLine := by
  obtain ⟨z, its, n, r, e⟩ := I.hok p _ h
  exact ⟨its, n, r, e, z⟩
/-- the list at p is written by an update of its object -/
theorem Inv.lstUpd {pins : List (Addr × Obj)} {σ : St} {H : Hp} {s : Shared} {p : Addr} {xs ys : List V} {its its' : List Value} {n n' : Nat} {f : Obj → Obj} (I : Inv X pins σ H s) (h : H p = some (.lst xs))
    (ho : s.heap.get? p = some { cls := .type "list", data := .seq its.toArray n }) (hf : f { cls := .type "list", data := .seq its.toArray n } = { cls := .type "list", data := .seq its'.toArray n' }) (r : Vals ys its') (hz : ys.length ≤ sizeLine) (t : Nat) :
    Inv X pins σ (upd H p (.lst ys)) { s with heap := s.heap.update p f, toks := t } := by
  have e : (s.heap.update p f).get? p = some { cls := .type "list", data := .seq its'.toArray n' } := by
    rw [Heap.get?_update_self f ho (by rw [hf] <;> rfl), hf]
  refine I.write (x := p) (e := p) (by rw [h]; trivial) (.inl rfl) (fun b u hb q => (Heap.get?_update_other _ _ (Ne.symm hb)).trans q) ⟨_, e⟩ ?_
  exact ⟨hz, its', n', r, e⟩
def rSetL : V → V → V → Hp → (Hp → Prop) → Prop := fun o i v H Q => ∃ p xs k j, o = .ref p ∧ i = .int k ∧ H p = some (.lst xs) ∧ ixN xs.length k = some j ∧ Q (upd H p (.lst (xs.set j v)))
theorem set_list : PSet X rSetL := by
  intro pins s σ H o i v ov iv u Q I ro ri rv h
  obtain ⟨p, xs, k, j, rfl, rfl, hp, hj, q⟩ := h
  cases ro
  obtain ⟨t, rfl⟩ := ri
  obtain ⟨its, n, r, ho, hz⟩ := I.lst hp
  obtain ⟨h1, h2, h3, h4⟩ := ixN_seq hj
  have hl := r.length
  have hn := line63
  have I' : Inv X pins σ (upd H p (.lst (xs.set j v))) { s with heap := s.heap.update p (Obj.mapSeq (·.setIfInBounds j u)) } :=
    I.lstUpd hp ho (mapSeq_set its n j u) (r.set rv j) (by rw [List.length_set]; exact hz) s.toks
  by_cases h0 : 0 ≤ k
  · have hk : k.toNat = j := by
      rw [seqIndex_of h0 h4] at h1
      exact Option.some.inj h1
    exact PySem.W.ki_setAt ho h0 (by omega) (by rw [List.size_toArray, ← hl]; exact h4) (by rw [hk]; exact ⟨_, I', q⟩)
  · have hk : (k + (its.toArray.size : Int)).toNat = j := by
      rw [seqIndex_neg (by omega) h3] at h1
      rw [List.size_toArray, ← hl]
      exact Option.some.inj h1
    exact PySem.W.ki_setBack ho (by omega) (by rw [List.size_toArray, ← hl]; exact h3) (by omega) (by rw [hk]; exact ⟨_, I', q⟩)

/-! ### slices -/
theorem slice_bounds (lo hi : Option Int) (n : Nat) : (sliceBounds lo hi none n).1 = ((HT.sIx n 0 lo : Nat) : Int) ∧ (sliceBounds lo hi none n).2.1 = ((HT.sIx n n hi : Nat) : Int) ∧ (sliceBounds lo hi none n).2.2 = 1 := by
  refine ⟨?_, ?_, rfl⟩
  · cases lo with
    | none => simp [sliceBounds, HT.sIx]
    | some i =>
      simp only [sliceBounds, HT.sIx, Option.getD_none, show (1 : Int) > 0 by decide, if_true]
      by_cases h : i < 0
      · simp only [h, if_true] <;> omega
      · simp only [h, if_false] <;> omega
  · cases hi with
    | none => simp [sliceBounds, HT.sIx]
    | some i =>
      simp only [sliceBounds, HT.sIx, Option.getD_none, show (1 : Int) > 0 by decide, if_true]
      by_cases h : i < 0
      · simp only [h, if_true] <;> omega
      · simp only [h, if_false] <;> omega
theorem slicePick_cut (its : List Value) (lo hi : Option Int) : slicePick its.toArray lo hi none = ((its.drop (HT.sIx its.length 0 lo)).take (HT.sIx its.length its.length hi - HT.sIx its.length 0 lo)).toArray := by
  obtain ⟨h1, h2, h3⟩ := slice_bounds lo hi its.toArray.size
  unfold slicePick
  rw [h1, h2, h3]
  simp only [sliceRange_one, pick_run, List.size_toArray] <;> rfl
/-- xs[lo:hi] of a list: a new list -/
def rSlL (K : PySem.W.Frag) : V → Option Int → Option Int → Hp → VK → Prop := fun x lo hi H Q => ∃ a xs, x = .ref a ∧ SqL K H a xs ∧ ∀ p, H p = none → Q (.ref p) (upd H p (.lst (cutV xs lo hi)))
theorem sl_list : SlR X (rSlL X.K) := by
  intro pins s σ H x v vl vu lo hi sl Q I rx hs pl pu h
  obtain ⟨a, xs, rfl, hx, q⟩ := h
  cases rx
  obtain ⟨its, r, ht, hz⟩ := I.list hx
  have hlen := r.length
  refine ⟨"list", _, slot_list_getitem.lookup, ht.isList.typeIs, ?_⟩
  refine wpAny_getItem_list_slice ht.isList hs pl pu .none (by simp) ?_ (by rw [List.size_toArray] <;> omega)
  rw [slicePick_cut, ← hlen]
  refine ⟨.ref s.heap.objs.size, _, I.laid (t' := s.toks) (o := .lst (cutV xs lo hi)) (fun b ob q => Heap.get?_push_of_some _ q) (Nat.le_refl _) ?_, rfl, q _ (I.hok.fresh (Nat.le_refl _))⟩
  exact ⟨Nat.le_trans (cutV_length xs lo hi) hz, _, 0, (r.drop (HT.sIx xs.length 0 lo)).take (HT.sIx xs.length xs.length hi - HT.sIx xs.length 0 lo), Heap.get?_push_size _ rfl⟩

/-! ### in, not in: flat items -/
def flatV : V → Bool
  | .non => true
  | .bl _ => true
  | .int _ => true
  | .str _ => true
  | _ => false
/-- == of flat values -/
def eqV : V → V → Bool
  | .non, .non => true
  | .bl a, .bl b => a == b
  | .bl a, .int b => (if a then 1 else 0) == b
  | .int a, .bl b => a == (if b then 1 else 0)
  | .int a, .int b => a == b
  | .str a, .str b => a == b
  | _, _ => false
theorem eqAt_V {A : Around} {s : Shared} {y x : V} {u v : Value} (ry : RelV y u) (rx : RelV x v) (fy : flatV y = true) (fx : flatV x = true) : SeqAt.EqAt A s u v (eqV y x) := by
  cases y with
  | non =>
    cases ry
    cases x with
    | non => cases rx; exact SeqAt.EqAt.same _
    | bl b => cases rx; exact SeqAt.EqAt.none_bool b
    | int b => obtain ⟨t, rfl⟩ := rx; exact SeqAt.EqAt.none_int b t
    | str b => obtain ⟨t, rfl⟩ := rx; exact SeqAt.EqAt.none_str b t
    | _ => exact absurd (show false = true from fx) Bool.false_ne_true
  | bl a =>
    cases ry
    cases x with
    | non => cases rx; exact SeqAt.EqAt.bool_none a
    | bl b => cases rx; exact SeqAt.EqAt.bool_bool a b
    | int b => obtain ⟨t, rfl⟩ := rx; exact SeqAt.EqAt.bool_int a b t
    | str b => obtain ⟨t, rfl⟩ := rx; exact SeqAt.EqAt.bool_str a b t
    | _ => exact absurd (show false = true from fx) Bool.false_ne_true
  | int a =>
    obtain ⟨t', rfl⟩ := ry
    cases x with
    | non => cases rx; exact SeqAt.EqAt.int_none a t'
    | bl b => cases rx; exact SeqAt.EqAt.int_bool a t' b
    | int b => obtain ⟨t, rfl⟩ := rx; exact SeqAt.EqAt.int_int a t' b t
    | str b => obtain ⟨t, rfl⟩ := rx; exact SeqAt.EqAt.int_str a t' b t
    | _ => exact absurd (show false = true from fx) Bool.false_ne_true
  | str a =>
    obtain ⟨t', rfl⟩ := ry
    cases x with
    | non => cases rx; exact SeqAt.EqAt.str_none a t'
    | bl b => cases rx; exact SeqAt.EqAt.str_bool a t' b
    | int b => obtain ⟨t, rfl⟩ := rx; exact SeqAt.EqAt.str_int a t' b t
    | str b => obtain ⟨t, rfl⟩ := rx; exact SeqAt.EqAt.str_str a t' b t
    | _ => exact absurd (show false = true from fx) Bool.false_ne_true
  | _ => exact absurd (show false = true from fy) Bool.false_ne_true

/-! ### len, list(x), tuple(x) of any list or tuple that is read -/
theorem call_len_seq : CallR X (.builtin "len") (fun xs H Q => ∃ p ys, xs = [.ref p] ∧ (SqL X.K H p ys ∨ SqT X.K H p ys) ∧ Q (.int ys.length) H) := by
  intro pins s σ H xs us Q I r h
  obtain ⟨p, ys, rfl, hq, q⟩ := h
  obtain ⟨u, rfl, rx⟩ := vals1 r
  cases rx
  have hn := line63
  rcases hq with hq | hq
  · obtain ⟨its, r', pl, hz⟩ := I.list hq
    have hlen := r'.length
    exact Calls.call_len_list pl.isList (by simp only [List.size_toArray] <;> omega) ⟨.int ys.length, H, I.tok _, ⟨s.toks + 1, by rw [List.size_toArray, hlen]⟩, q⟩
  · obtain ⟨its, r', pl, hz⟩ := I.tuple hq
    have hlen := r'.length
    exact len_tuple pl (by simp only [List.size_toArray] <;> omega) ⟨.int ys.length, H, I.tok _, ⟨s.toks + 1, by rw [List.size_toArray, hlen]⟩, q⟩
theorem call_list_of : CallR X (.type "list") (fun xs H Q => ∃ p ys, xs = [.ref p] ∧ (SqL X.K H p ys ∨ SqT X.K H p ys) ∧ ∀ l, H l = none → Q (.ref l) (upd H l (.lst ys))) := by
  intro pins s σ H xs us Q I r h
  obtain ⟨p, ys, rfl, hq, q⟩ := h
  obtain ⟨u, rfl, rx⟩ := vals1 r
  cases rx
  have fin : ∀ (its : List Value), Vals ys its → ys.length ≤ sizeLine → ∀ (h' : Heap) (c' : Nat), (∀ b o', s.heap.get? b = some o' → h'.get? b = some o') →
      h'.get? s.heap.objs.size = some { cls := .type "list", dict := none, data := .seq its.toArray c', slots := #[] } → EP X pins σ Q (.ref s.heap.objs.size) { s with heap := h' } := fun its r' hz h' c' kp e =>
    ⟨.ref s.heap.objs.size, _, I.laid (t' := s.toks) kp (Nat.le_refl _) (show ObjOk X.prog X.w _ h' _ (.lst ys) from ⟨hz, its, c', r', e⟩), rfl, q _ (I.hok.fresh (Nat.le_refl _))⟩
  rcases hq with hq | hq
  · obtain ⟨its, r', pl, hz⟩ := I.list hq
    have hlen := r'.length
    obtain ⟨o, ho, hc, n, hd⟩ := pl.isList
    exact call_list_seq p (.inl rfl) ho hc hd (fun h' c' kp e => fin its r' hz h' c' kp e) (by simp only [List.size_toArray] <;> omega)
  · obtain ⟨its, r', pl, hz⟩ := I.tuple hq
    have hlen := r'.length
    obtain ⟨o, ho, hc, n, hd⟩ := pl
    exact call_list_seq p (.inr rfl) ho hc hd (fun h' c' kp e => fin its r' hz h' c' kp e) (by simp only [List.size_toArray] <;> omega)

/-! ### the call of a builtin's method: o.m(..) -/
/-- the value is of that builtin type -/
def tyV (K : PySem.W.Frag) (T : String) (x : V) (H : Hp) : Prop := match x with
  | .str _ => T = "str"
  | .int _ => T = "int"
  | .ref p => (T = "list" ∧ ∃ xs, SqL K H p xs) ∨ (T = "tuple" ∧ ∃ o, K.lookup p = some o ∧ o.cls = .type "tuple" ∧ o.dict = none) ∨
      (T = "dict" ∧ ((∃ kvs, H p = some (.dK kvs)) ∨ ∃ kvs, H p = some (.dT kvs))) ∨ (T = "set" ∧ ∃ S n, H p = some (.set S n))
  | _ => False
theorem tyV_is {pins : List (Addr × Obj)} {σ : St} {H : Hp} {s : Shared} {T : String} {x : V} {v : Value} (I : Inv X pins σ H s) (r : RelV x v) (ty : tyV X.K T x H) :
    s.TypeIs v T ∧ ∀ a, v = .ref a → ∃ ob, s.heap.get? a = some ob ∧ ob.dict = none := by
  cases x with
  | str z =>
    obtain ⟨t, rfl⟩ := r
    cases (show T = "str" from ty)
    exact ⟨typeIs_str s z t, fun _ e => nomatch e⟩
  | int i =>
    obtain ⟨t, rfl⟩ := r
    cases (show T = "int" from ty)
    exact ⟨typeIs_int s i t, fun _ e => nomatch e⟩
  | ref p =>
    cases r
    rcases ty with ⟨rfl, xs, hq⟩ | ⟨rfl, o, hk, hc, hd⟩ | ⟨rfl, hk⟩ | ⟨rfl, S, n, hk⟩
    · obtain ⟨its, _, pl, _⟩ := I.list hq
      refine ⟨pl.isList.typeIs, fun a e => ?_⟩
      cases e
      obtain ⟨o, n, e, c, hd, _⟩ := pl
      exact ⟨o, e, hd⟩
    · refine ⟨⟨o, I.kIn p o hk, hc⟩, fun a e => ?_⟩
      cases e
      exact ⟨o, I.kIn _ o hk, hd⟩
    · have z : ∃ o, s.heap.get? p = some o ∧ o.ExactDict := by
        rcases hk with ⟨kvs, hk⟩ | ⟨kvs, hk⟩
        · obtain ⟨_, _, _, _, o, _, _, e, ex, _⟩ := I.hok p _ hk
          exact ⟨o, e, ex⟩
        · obtain ⟨_, _, _, _, o, _, _, e, ex, _⟩ := I.hok p _ hk
          exact ⟨o, e, ex⟩
      obtain ⟨o, e, ex⟩ := z
      refine ⟨⟨o, e, ex.1⟩, fun a e2 => ?_⟩
      cases e2
      exact ⟨o, e, ex.2.1⟩
    · obtain ⟨o, _, _, _, e, ex, _⟩ := I.hok p _ hk
      refine ⟨⟨o, e, ex.1⟩, fun a e2 => ?_⟩
      cases e2
      exact ⟨o, e, ex.2.1⟩
  | _ => exact False.elim ty
def tBM (K : PySem.W.Frag) (T : String) (r : V → List V → Hp → VK → Prop) (to : TE) (t : TA) : TE := fun σ H Q => to σ H fun x H1 => tyV K T x H1 ∧ t σ H1 fun xs H2 => r x xs H2 Q
variable {o e : Expr} {es : List Expr} {to : TE} {t : TA} {name : Str} {apos cpos : Pos} {T id : String} {r : V → List V → Hp → VK → Prop}
theorem pe_bm (pa : PlainAttrs T) (slot : Slot T name id) (hty : typeOf (.builtin id) = pure (.type "method_descriptor")) (hm : MtR X id r) (ho : PE X o to) (ha : PA X (e :: es) t)
    (hbase : attributeBase o name X.env (eval o X.env) = eval o X.env := by rfl)
    (hfew : ((backTo cpos (starEach (e :: es) X.env)).all (fun x => !x.1) && (backToKw cpos (keywordEach [] X.env)).all (fun x => x.1.isSome)
      && decide ((e :: es).length + ([] : List Keyword).length + (if ([] : List Keyword).isEmpty then 0 else 1) < 30)) = true := by rfl)
    (hline : (apos.endLine == cpos.line) = true := by rfl) (hs : starEach (e :: es) X.env = (false, eval e X.env) :: starEach es X.env := by rfl) (hplain : (backTo cpos (starEach es X.env)).any (·.1) = false := by rfl) :
    PE X (.Call (.Attribute o name apos) (e :: es) [] cpos) (tBM X.K T r to t) := by
  intro pins s σ H Q I h
  refine wpAny_Call_method_late hbase hfew hline rfl (thn (ho pins s σ H _ I h) fun v s1 ⟨x, H1, I1, r1, ty, q1⟩ => ?_)
  obtain ⟨h1, h2⟩ := tyV_is I1 r1 ty
  refine ⟨T, id, pa, slot, hty, h1, h2, ?_⟩
  have hA := ha cpos pins s1 σ H1 _ I1 q1
  rw [hs] at hA ⊢
  refine Calls.callWith_builtin (by show (false || (backTo cpos (starEach es X.env)).any (·.1)) = false; rw [hplain] <;> rfl) (Calls.evalArgs_plain ?_)
  exact thn hA fun us s2 ⟨vs, H2, I2, r2, q2⟩ => hm pins s2 σ H2 x vs v us Q I2 r1 r2 q2
/- xs.append(e), list.index on a module's tuple .. are MtR facts of 06m -/
end
end L2

namespace L2
open PySem PySem.Spec PyProof.Rows

def MtM (X : Cx) (id : String) (r : V → List V → Hp → VK → Prop) : Prop :=
  ∀ (pins : List (Addr × Obj)) (s : Shared) (σ : St) (H : Hp) (x : V) (xs : List V) (v : Value) (us : List Value) (Q : VK), Inv X pins σ H s → RelV x v → Vals xs us → r x xs H Q →
    wpAny (model X.prog X.w) X.A (call (.builtin id) (v :: us)) (EP X pins σ Q) X.xe s

/-! ### lists of values -/
theorem Vals.one : ∀ {x : V} {us : List Value}, Vals [x] us → ∃ u, us = [u] ∧ RelV x u
  | _, _, .cons r .nil => ⟨_, rfl, r⟩
theorem Vals.two : ∀ {x y : V} {us : List Value}, Vals [x, y] us → ∃ u v, us = [u, v] ∧ RelV x u ∧ RelV y v
  | _, _, _, .cons r (.cons q .nil) => ⟨_, _, rfl, r, q⟩

section
variable {X : Cx} {pins : List (Addr × Obj)} {σ : St} {H : Hp} {s : Shared} {l b : Addr} {xs ys zs : List V}

/-! ### the two steps: a tracked list is rewritten, a new list is laid -/
theorem Inv.lset {its its' : List Value} {n : Nat} {f : Array Value → Array Value} {t' : Nat} (I : Inv X pins σ H s) (hH : H l = some (.lst xs))
    (e : s.heap.get? l = some { cls := .type "list", data := .seq its.toArray n }) (hf : f its.toArray = its'.toArray) (hv : Vals ys its') (hz : ys.length ≤ sizeLine) :
    Inv X pins σ (upd H l (.lst ys)) { s with heap := s.heap.update l (Obj.mapSeq f), toks := t' } := by
  have q := PySem.IsL.update e f
  rw [hf] at q
  refine I.write (x := l) (e := l) (by rw [hH]; exact trivial) (.inl rfl) (fun b' u hb hu => (Heap.get?_update_other s.heap (Obj.mapSeq f) (Ne.symm hb)).trans hu) ⟨_, q⟩ ?_
  exact ⟨hz, its', _, hv, q⟩
theorem Inv.lnew {its : List Value} {t' : Nat} (I : Inv X pins σ H s) (hv : Vals ys its) (hz : ys.length ≤ sizeLine) :
    Inv X pins σ (upd H s.heap.objs.size (.lst ys)) { s with heap := s.heap.push { cls := .type "list", data := .seq its.toArray }, toks := t' } :=
  I.laid (fun _ _ q => Heap.get?_push_of_some _ q) (Nat.le_refl _) ⟨hz, its, 0, hv, Heap.get?_push_size _ rfl⟩
theorem Inv.fresh (I : Inv X pins σ H s) : H s.heap.objs.size = none := I.hok.fresh (Nat.le_refl _)
theorem Inv.lstM (I : Inv X pins σ H s) (hH : H l = some (.lst xs)) : xs.length ≤ sizeLine ∧ ∃ (its : List Value) (n : Nat), Vals xs its ∧ xs.length = its.length ∧ s.heap.get? l = some { cls := .type "list", data := .seq its.toArray n } := by
  obtain ⟨z, its, n, r, e⟩ := I.hok l _ hH
  exact ⟨z, its, n, r, r.length, e⟩

end

section
variable {X : Cx}

/-! ### methods -/
def rAppend : V → List V → Hp → VK → Prop := fun x vs H Q => ∃ l xs y, x = .ref l ∧ vs = [y] ∧ H l = some (.lst xs) ∧ xs.length < sizeLine ∧ Q .non (upd H l (.lst (xs ++ [y])))
theorem mt_append : MtM X "list.append" rAppend := by
  intro pins s σ H x vs v us Q I rx rv h
  obtain ⟨l, xs, y, rfl, rfl, hH, hz, q⟩ := h
  cases rx
  obtain ⟨u, rfl, ru⟩ := rv.one
  obtain ⟨z, its, n, r, hl, e⟩ := I.lstM hH
  refine call_meets F.slot_list_append ⟨_, e, rfl⟩ F.entry_list_append (F.args_list_append_2 _ _) (PySem.list_append l its.toArray n u (by rw [List.size_toArray]; omega)) ⟨e, ?_⟩
  refine ⟨.non, _, I.lset (its' := its ++ [u]) hH e (by simp) (r.append (.cons ru .nil)) ?_, rfl, q⟩
  rw [List.length_append, List.length_singleton]
  omega






/-! ### list + list, list += list, list * int -/
def rCat : R2 := fun x y H Q => ∃ l b xs zs, x = .ref l ∧ y = .ref b ∧ H l = some (.lst xs) ∧ H b = some (.lst zs) ∧ xs.length + zs.length ≤ sizeLine ∧ ∀ p, H p = none → Q (.ref p) (upd H p (.lst (xs ++ zs)))
theorem op_cat : OpR X (binaryOp .Add) rCat := by
  intro pins s σ H x y v u Q I rx ry h
  obtain ⟨l, b, xs, zs, rfl, rfl, hH, hB, hz, q⟩ := h
  cases rx
  cases ry
  obtain ⟨z, its, n, r, hl, e⟩ := I.lstM hH
  obtain ⟨z2, its2, n2, r2, hl2, e2⟩ := I.lstM hB
  refine PySem.P.add_list e e2 ?_ (by rw [List.size_toArray, List.size_toArray]; omega)
  have ea : its.toArray ++ its2.toArray = (its ++ its2).toArray := by simp
  rw [ea]
  exact ⟨.ref _, _, I.lnew (t' := s.toks) (r.append r2) (by rw [List.length_append]; omega), rfl, q _ I.fresh⟩

/-! ### del xs[i] -/
end

/-! ### xs[a:b] = ys -/
section
variable {prog : Program} {w : World} {A : Around} {E : Value → Shared → Prop} {s : Shared}
end

section
variable {X : Cx}
end
end L2

namespace Att
open PySem PySem.W PySem.Calls PyProof.Rows

/-! ### the script -/
theorem ints_of_wellAll {P : Params} {h : Heap} : ∀ (ns : List Int) (vs : List Value), WellAll P h vs (ns.map WData.int) → IntsAre vs ns := by
  intro ns
  induction ns with
  | nil =>
    intro vs w
    rw [List.map_nil] at w
    cases w
    exact .nil
  | cons n ns ih =>
    intro vs w
    rw [List.map_cons] at w
    cases w with
    | cons a b =>
      cases a
      exact .cons _ _ (ih _ b)

theorem script_of {l : OpenLaw} {n : Nat} (hn : l.most = some n) {P : Params} {h : Heap} {args : List WData} {vals : List Value}
    (hpre : l.row.toRowW.claim.pre args = true) (hwl : WellAll P h vals args) :
    ∃ a vs ns, vals = [Value.ref a] ∧ args = [WData.list (ns.map WData.int)] ∧ h.get? a = some { cls := .type "list", data := .seq vs.toArray } ∧ IntsAre vs ns ∧ ns.length ≤ n := by
  have hsh : WShape.hasAll [] args [.list .int] = true := (pre_splitW hpre).1
  have hc : l.pre.holds [] { args := args } = true := (pre_splitW hpre).2
  obtain ⟨d, r, rfl, h1, h2⟩ := hasAllW_cons hsh
  obtain rfl := hasAllW_nil h2
  obtain ⟨xs, rfl, h3⟩ := hasW_list h1
  obtain ⟨ns, rfl⟩ := items_int h3
  have hlen : ns.length ≤ n := by
    unfold OpenLaw.pre at hc
    have h4 : (WTm.not (.lt (.lit (.int (n : Int))) (.len (.arg 0)))).holds [] { args := [.list (ns.map .int)] } = true := by
      have h4 := (holds_andW hc).1
      rw [hn] at h4
      exact h4
    have h5 := condW_of h4 (w_not (w_lt w_lit (w_len_list (w_arg rfl))))
    rw [List.length_map] at h5
    refine Nat.le_of_not_lt fun q => ?_
    have q' : (n : Int) < ((ns.length : Nat) : Int) := by omega
    first
      | (rw [decide_eq_true q'] at h5; exact absurd h5 (by decide))
      | (simp at h5; omega)
  cases hwl with
  | cons w1 w2 =>
    cases w2
    cases w1 with
    | list ho hall => exact ⟨_, _, ns, rfl, rfl, ho, ints_of_wellAll ns _ hall, hlen⟩

theorem post_true (l : OpenLaw) (args : List WData) : l.row.toRowW.claim.post args (.bool true) args = true :=
  postW_of (r := l.row.toRowW) (X := (true == true))
    (show WShape.has [] (.bool true) .bool = true by first | rfl | decide | simp [WShape.has, WShape.arms, WShape.armsAll])
    (show (WTm.eq .res (.lit (.bool true))).value [] { args := args, res := some (.bool true), after := args } = some (.bool (true == true)) from w_eq_bool (w_res rfl) w_lit) rfl

/-! ### the attachment: holds_open's last premise (the goal 'hc' behind k_head) from a wpAny of the law's body -/



/-! ### rules over ANY heap (no ledger) from facts about the written part K: the library's own take a ledger (News) for what they write -/
section
variable {prog : Program} {w : World} {A : Around} {E : Value → Shared → Prop} {s : Shared} {K : Frag}





/-! the whole heap as the ledger: makes every rule that writes through a ledger a rule over any heap -/

end
end Att

namespace L2
open PySem PySem.Spec PyProof.Rows

theorem vals_ints : ∀ {vs : List Value} {ns : List Int}, IntsAre vs ns → Vals (ns.map V.int) vs
  | _, _, .nil => .nil
  | _, _, .cons n t h => .cons ⟨t, rfl⟩ (vals_ints h)

/-- nothing is tracked but the script, known to the object (or it is an object of the module) -/
def Only (H : Hp) : Prop := ∀ b, H b = none ∨ ∃ o xs, H b = some (.frz o (.lst xs))

/-- THE HEAD: the law's promise, at the heap behind the top. F, the promise of the law's def, may use that base is part of the heap (so K.In base, base.Ns mainGlobals mg stand in Mod) -/
theorem law_call {P : Program} {w : World} {K : PySem.W.Frag} {mg mb : Str → Option Value} {CX : CXT} {k : Nat} {fa a : Addr} {fd : FuncData} {x : Str} {sp : Sp} {s₁ : Shared} {vs : List Value} {ns : List Int}
    (KX : K.In s₁.heap) (hns : s₁.heap.Ns mainGlobals mg) (hb : s₁.heap.Ns builtinsNs mb) (hbb : ∀ x : Str, x ≠ "__name__" → mb x = bootBuiltins x) (hlim : s₁.heap.NoLimit) (hg : s₁.gens = #[])
    (ha : s₁.heap.get? a = some { cls := .type "list", data := .seq vs.toArray }) (hi : IntsAre vs ns) (hl : ns.length ≤ sizeLine) (hr : Room k callerA)
    (F : ∀ base : Heap, K.In base → base.Ns mainGlobals mg → FnOk P w K mg base CX k fa fd [x] sp) (hbind : ∀ (s : Shared) (u : Value), BindsTo s fd ⟨[u], []⟩ [(x, u)])
    (hsp : ∀ H : Hp, Only H → SqL K H a (ns.map V.int) → sp [.ref a] H (fun v _ => v = .bl true) fun _ _ _ => False)
    (hCX : ∀ H e s', CX [] H s₁ (fun _ _ _ => False) e s' → False) :
    codeAny (model P w) callerA (.call (.ref fa) ⟨[.ref a], []⟩) (fun r s' => r = .ok (.ret (.bool true)) ∧ OldK s₁.heap s'.heap ∧ s'.os = s₁.os ∧ AllBare s'.gens) s₁ := by
  have rv := vals_ints hi
  have lenV := hi.length
  -- from an abstract heap in which nothing but the script may be tracked
  have core : ∀ H : Hp, Only H → SqL K H a (ns.map V.int) → HOk P w H s₁.heap → (∀ b, H b ≠ none → b = a) → (H a ≠ none → K.lookup a = none) →
      codeAny (model P w) callerA (.call (.ref fa) ⟨[.ref a], []⟩) (fun r s' => r = .ok (.ret (.bool true)) ∧ OldK s₁.heap s'.heap ∧ s'.os = s₁.os ∧ AllBare s'.gens) s₁ := by
    intro H hO hS hok hA hK
    have base_of : ∀ {b : Addr} {o : Obj}, s₁.heap.get? b = some o → H b = none → (hidT s₁.heap H).get? b = some o := fun e n => hidT_get e n
    have noA : ∀ {b : Addr} {o : Obj} {es : Array DictEntry} {ep : Nat}, s₁.heap.get? b = some o → o.data = .dict es ep → H b = none := fun {b o es ep} e d => by
      cases q : H b with
      | none => rfl
      | some u =>
        have e' : b = a := hA b (by rw [q]; simp)
        subst e'
        rw [ha] at e; cases e
        have d' : Data.seq vs.toArray _ = Data.dict es ep := d
        cases d'
    have nsK : ∀ {b : Addr} {m : Str → Option Value}, s₁.heap.Ns b m → (hidT s₁.heap H).Ns b m := fun {b m} ⟨o, es, ep, e, d, r⟩ => ⟨o, es, ep, base_of e (noA e d), d, r⟩
    have hKb : K.In (hidT s₁.heap H) := fun b o e => base_of (KX b o e) (by
      cases q : H b with
      | none => rfl
      | some u =>
        have e' : b = a := hA b (by rw [q]; simp)
        subst e'
        rw [hK (by rw [q]; simp)] at e; cases e)
    have hM : Mod K mg (hidT s₁.heap H) := ⟨hKb, nsK hns, ⟨mb, nsK hb, hbb⟩, let ⟨mc, h1, h2⟩ := hlim; ⟨mc, nsK h1, h2⟩⟩
    have e0 : Env0 P w K mg (hidT s₁.heap H) callerA [] s₁ H := ⟨rfl, hM, fun b o e => of_hidT e, Nat.le_of_eq (hidT_size _ _), trivial, fun b hb => absurd (show b ∈ ([] : List Addr) from hb) (by simp), hok, .of_eq hg⟩
    refine codeAny_mono ((F _ hKb (nsK hns)).run callerA [] s₁ H ⟨[.ref a], []⟩ [.ref a] [.ref a] _ _ hr e0 (hbind s₁ (.ref a)) (.cons rfl .nil) (hsp H hO hS)) fun r s' h => ?_
    cases r with
    | error e => exact (hCX H e s' h).elim
    | ok fl =>
      cases fl with
      | next => exact False.elim h
      | brk => exact False.elim h
      | cont => exact False.elim h
      | ret u =>
        obtain ⟨v, H', os, bare, un, hok', r', q⟩ := h
        have q' : v = .bl true := q
        subst q'
        obtain rfl : u = Value.bool true := r'
        refine ⟨rfl, OldK.of_keep fun b o e => ?_, os, bare⟩
        cases q : H b with
        | none => exact un.keep b o e q (by intro z; exact absurd (show b ∈ ([] : List Addr) from z) (by simp)) (by simp)
        | some u =>
          rcases hO b with z | ⟨ob, xs, z⟩
          · rw [q] at z; cases z
          · have z2 := un.frzs b ob _ z
            obtain ⟨e1, _⟩ := hok b _ z
            obtain ⟨e2, _⟩ := hok' b _ z2
            rw [e] at e1; cases e1
            exact e2
  cases hk : K.lookup a with
  | some o =>
    -- the script is one of the module's own objects
    have e := KX a o hk
    rw [ha] at e
    cases e
    refine core (fun _ => none) (fun _ => .inl rfl) (.inr ⟨_, vs.toArray, _, hk, rfl, rfl, rfl, by rw [List.size_toArray, lenV]; exact hl, by simpa using rv⟩) (fun b u z => by have z' : (none : Option HO) = some u := z; cases z') (fun b z => absurd rfl z) fun z => absurd rfl z
  | none =>
    refine core (fun b => if b = a then some (.frz { cls := .type "list", data := .seq vs.toArray } (.lst (ns.map V.int))) else none) (fun b => ?_) (.inl (.inr ⟨{ cls := .type "list", data := .seq vs.toArray }, if_pos rfl⟩)) (fun b u z => ?_) (fun b z => ?_) fun _ => hk
    · by_cases hb : b = a
      · exact .inr ⟨_, _, if_pos hb⟩
      · exact .inl (if_neg hb)
    · by_cases hb : b = a
      · have z' := (if_pos hb).symm.trans z
        cases z'
        subst hb
        exact ⟨ha, by rw [List.length_map]; exact hl, vs, _, rv, ha⟩
      · have z' := (if_neg hb).symm.trans z
        cases z'
    · by_cases hb : b = a
      · exact hb
      · exact absurd (if_neg hb) z
end L2

namespace L2
open PySem PySem.Spec PyProof.Rows


end L2

/- THE LAST THEOREM (shape; LID, My.* are yours):
   My.Adr: a structure of the addresses that your layer names (classes, functions); My.Txt K t: a structure (Prop) of the equations over K;
   My.txt_mk : {K} {implicit addresses ..} (e1 : nsIn K mainGlobals "law" = some (some (.ref f))) (e2 : K.lookup f = some ⟨oc, od, .func (fnOf "law" "law" params body scope dV kV doc pm an cdv ct), sl⟩) (e3 : codeIn K cdv "law" = true) .. : ∃ t, My.Txt K t

set_option maxRecDepth 100000 in
set_option maxHeartbeats 0 in
theorem PySem.Challenge.cw_LID_holds : PySem.Challenge.rw_LID.Holds := by
  w_on; o_law; k_head; (case hw => w_witness2)
  k_fill
  refine L2.walk_of (l := PySem.Challenge.rw_LID) (n := 63) (k := 40) (x := "script") (CX := fun w => ..) (sp := fun _ => My.sp_law) rfl (by decide) rfl ⟨rfl, by decide, by decide⟩ (fun w h Y => PySem.W.kIn_of Y) ?F ?S ?C
  case F =>
    intro w mg fa h KX G hmg
    have T : ∃ t, My.Txt (L2.KOf KX) t := by
      dsimp only [L2.KOf]                          -- K must stand as «<heap const> w.params» for k_is
      refine' My.txt_mk ?e1 ?e2 ?e3 ..
      (case e1 => PySem.W.k_is)                    -- in the order: a name -> its address -> its object -> its parts
      (case e2 => PySem.W.k_is)
      ..
    obtain ⟨t, T⟩ := T
    have e0 := hmg.symm.trans (PySem.W.mg_of KX G T.law)
    cases e0                                       -- fa is the law's own address
    exact ⟨_, fun s u => .of_eq rfl, fun base kb nb => My.law_fn T kb nb⟩     -- if «.of_eq rfl» comes too early: refine' ⟨_, ?b, fun base kb nb => My.law_fn T kb nb⟩; exact fun s u => .of_eq rfl
  case S => exact fun w H a ns hl hO hS => ..
  case C => exact ..
(the tactic k_is has no namespace: write k_is) -/

/-! SHORT WORDS over the layer: a def of the text, its body, what a loop and a test want. -/
namespace L2
open PySem PySem.Spec PyProof.Rows

/-! ### the text by places -/
/-- the j-th statement of a class's body -/
def inClass (s : Stmt) (j : Nat) : Stmt := match s with
  | .ClassDef _ _ _ body _ _ _ _ _ _ _ => body.getD j (.Pass ⟨0, 0, 0, 0⟩)
  | _ => .Pass ⟨0, 0, 0, 0⟩
def defArgs (s : Stmt) : Arguments := match s with
  | .FunctionDef _ a _ _ _ _ _ _ _ _ => a
  | _ => { posonlyargs := [], args := [], vararg := none, kwonlyargs := [], kw_defaults := [], kwarg := none, defaults := [] }
def defBody (s : Stmt) : List Stmt := match s with
  | .FunctionDef _ _ b _ _ _ _ _ _ _ => b
  | _ => []
def defScope (s : Stmt) : Scope := match s with
  | .FunctionDef _ _ _ _ _ _ sc _ _ _ => sc
  | _ => { kind := .function, names := [], isGenerator := false, isCoroutine := false }

/-! ### no exception leaves a def -/
abbrev CX0 : CXT := fun _ _ _ _ _ _ => False
abbrev E0 : XK := fun _ _ _ => False
theorem pass0 {X : Cx} : Passes CX0 X E0 := fun _ _ _ _ _ _ _ h => h.elim

/-! ### a def (or method) of the text as it stands behind the top -/
structure Fun (K : PySem.W.Frag) (x qual : Str) (st : Stmt) (f : Addr) (fd : FuncData) : Prop where
  ex : ∃ (oc : Value) (od : Option Addr) (kV doc pm : Value) (an : Option Addr) (cdv ct : Value) (osl : Array (Option Value)),
    fd = PySem.W.fnOf x qual (defArgs st) (defBody st) (defScope st) .none kV doc pm an cdv ct ∧ K.lookup f = some ⟨oc, od, .func fd, osl⟩ ∧ PySem.W.codeIn K cdv qual = true
  kp : PySem.W.keepIn K (.ref f) = true
section
variable {P : Program} {w : World} {K : PySem.W.Frag} {mg : Str → Option Value} {base : Heap}
/-- THE RULE for a def: its body as a term of rules, and the reading of that term -/
theorem Fun.ok {x qual : Str} {st : Stmt} {f : Addr} {fd : FuncData} {N ps : List Str} {k : Nat} {sp : Sp} (F : Fun K x qual st f fd) (S : FnScope N ps (defScope st)) (len : ∀ vs H Q E, sp vs H Q E → vs.length = ps.length)
    (hbody : ∀ (cdv : Value) (A : Around) (outer : List Env) (s : Shared) (H : Hp) (vs : List V) (Q : VK) (E : XK), Room k (A.deeper (envOfC qual (defScope st) s.heap.objs.size f cdv)) → sp vs H Q E →
      ∃ t, PSs (cxOf CX0 P w K mg base N qual (defScope st) f cdv A outer s H E).nox (defBody st) t ∧ t { nx := fun _ H' => Q .non H', rt := Q } (start N vs) H) : FnOk P w K mg base CX0 (k + 1) f fd ps sp := by
  obtain ⟨oc, od, kV, doc, pm, an, cdv, ct, osl, rfl, lk, hcd⟩ := F.ex
  refine fn_of lk hcd S len fun A outer s H vs Q E hr hsp => ?_
  obtain ⟨t, h, q⟩ := hbody cdv A outer s H vs Q E hr hsp
  exact ⟨t, h.nox, q⟩
/-- how its arguments bind (no defaults): h is «fun _ _ _ _ _ _ us hl => match us, hl with | [_, _], _ => rfl», one _ a parameter -/
theorem Fun.binds {x qual : Str} {st : Stmt} {f : Addr} {fd : FuncData} {ps : List Str} (F : Fun K x qual st f fd)
    (h : ∀ (kV doc pm : Value) (an : Option Addr) (cdv ct : Value) (us : List Value), us.length = ps.length → bindArgs (PySem.W.fnOf x qual (defArgs st) (defBody st) (defScope st) .none kV doc pm an cdv ct) ⟨us, []⟩ = pure (ps.zip us)) : Binds K fd ps [] := by
  obtain ⟨oc, od, kV, doc, pm, an, cdv, ct, osl, rfl, lk, hcd⟩ := F.ex
  exact .all (h kV doc pm an cdv ct)
theorem fun_mk {x qual : Str} {st : Stmt} {f : Addr} {oc : Value} {od an : Option Addr} {osl : Array (Option Value)} {kV doc pm cdv ct : Value} (l : K.lookup f = some ⟨oc, od, .func (PySem.W.fnOf x qual (defArgs st) (defBody st) (defScope st) .none kV doc pm an cdv ct), osl⟩)
    (c : PySem.W.codeIn K cdv qual = true) (k : PySem.W.keepIn K (.ref f) = true) : Fun K x qual st f (PySem.W.fnOf x qual (defArgs st) (defBody st) (defScope st) .none kV doc pm an cdv ct) := ⟨⟨oc, od, kV, doc, pm, an, cdv, ct, osl, rfl, l, c⟩, k⟩
end

/-! ### expressions in short: the name that stands in the i-th slot -/
section
variable {X : Cx}
theorem pv (i : Nat) {x : Str} {pos : Pos} (hN : X.N[i]? = some x := by rfl) (hv : Vis X.env.scope x := by first | exact Or.inl rfl | exact Or.inr (Or.inl rfl) | exact Or.inr (Or.inr rfl)) (hd : (x == ("__debug__" : Str)) = false := by decide)
    (hcd : (x == ("__classdict__" : Str)) = false := by decide) : PE X (.Name x pos) (tVar i) := pe_var hN hv hd hcd
end

/-! ### tests -/
theorem iteF {A B : Prop} (h : B) : if false = true then A else B := by
  rw [if_neg Bool.false_ne_true]
  exact h
theorem iteT {A B : Prop} (h : A) : if true = true then A else B := by
  rw [if_pos rfl]
  exact h
theorem ite2 {c A B : Prop} [Decidable c] (h1 : c → A) (h2 : ¬ c → B) : if c then A else B := by
  by_cases h : c
  · rw [if_pos h]
    exact h1 h
  · rw [if_neg h]
    exact h2 h

/-! ### heaps -/
/-- all that was tracked is as it was -/
def Same (H H' : Hp) : Prop := ∀ b o, H b = some o → H' b = some o
theorem Same.refl (H : Hp) : Same H H := fun _ _ h => h
theorem Same.trans {H H1 H2 : Hp} (a : Same H H1) (b : Same H1 H2) : Same H H2 := fun c o h => b c o (a c o h)
theorem Same.free {H H' : Hp} (e : Same H H') {l : Addr} (h : H' l = Option.none) : H l = Option.none := by
  cases q : H l with
  | none => rfl
  | some o =>
    rw [e l o q] at h
    cases h
theorem Same.seq {K : PySem.W.Frag} {H H' : Hp} {a : Addr} {xs : List V} (e : Same H H') (h : SqL K H a xs) : SqL K H' a xs := by
  rcases h with (h | ⟨o, h⟩) | h
  · exact .inl (.inl (e _ _ h))
  · exact .inl (.inr ⟨o, e _ _ h⟩)
  · exact .inr h

end L2

set_option Elab.async false
set_option linter.all false
set_option maxRecDepth 100000
namespace L2
open PySem PySem.Spec PyProof.Rows

/-! ### lists of pairs as tables -/
section
variable {κ : Type} [DecidableEq κ]
def valV (kvs : List (κ × V)) (k : κ) : Option V := (kvs.find? fun kv => decide (kv.1 = k)).map (·.2)
/-- in its place, or at the end -/
def putK (kvs : List (κ × V)) (k : κ) (v : V) : List (κ × V) :=
  if (kvs.any fun kv => decide (kv.1 = k)) = true then kvs.map (fun kv => if kv.1 = k then (kv.1, v) else kv) else kvs ++ [(k, v)]
def dropK (kvs : List (κ × V)) (k : κ) : List (κ × V) := kvs.filter fun kv => decide (kv.1 ≠ k)

theorem valV_pos {p : κ × V} {r : List (κ × V)} {k : κ} (e : p.1 = k) : valV (p :: r) k = some p.2 := by simp [valV, List.find?_cons, e]
theorem valV_neg {p : κ × V} {r : List (κ × V)} {k : κ} (e : ¬ p.1 = k) : valV (p :: r) k = valV r k := by simp [valV, List.find?_cons, e]
theorem valV_any (k : κ) : ∀ kvs : List (κ × V), (kvs.any fun kv => decide (kv.1 = k)) = (valV kvs k).isSome
  | [] => rfl
  | p :: r => by
    rw [List.any_cons]
    by_cases e : p.1 = k
    · simp only [valV_pos e, decide_eq_true e, Bool.true_or, Option.isSome_some]
    · rw [valV_neg e, decide_eq_false e, Bool.false_or]; exact valV_any k r
theorem length_putK (kvs : List (κ × V)) (k : κ) (v : V) : (putK kvs k v).length ≤ kvs.length + 1 := by
  unfold putK
  split
  · rw [List.length_map]; omega
  · rw [List.length_append, List.length_cons, List.length_nil]; omega
theorem putK_new {kvs : List (κ × V)} {k : κ} (v : V) (h : valV kvs k = none) : putK kvs k v = kvs ++ [(k, v)] := by
  unfold putK
  rw [valV_any, h]
  exact if_neg (by decide)

theorem RelO.isSome_eq {o : Option V} {u : Option Value} (r : RelO o u) : o.isSome = u.isSome := by
  cases o with
  | none => cases u with
    | none => rfl
    | some _ => exact (show False from r).elim
  | some _ => cases u with
    | none => exact (show False from r).elim
    | some _ => rfl

/-- raw tables of the same keys -/
theorem KV.val {kvs : List (κ × V)} {vs : List (κ × Value)} (r : KV kvs vs) (k : κ) : RelO (valV kvs k) (valueAt vs k) := by
  unfold KV at r
  induction r with
  | nil => exact True.intro
  | @cons p q ps qs h t ih =>
    obtain ⟨h1, h2⟩ := h
    by_cases e : p.1 = k
    · have e' : q.1 = k := h1.symm.trans e
      have b : valueAt (q :: qs) k = some q.2 := by simp [valueAt, List.find?_cons, e']
      rw [valV_pos e, b]; exact h2
    · have e' : ¬ q.1 = k := fun z => e (h1.trans z)
      have b : valueAt (q :: qs) k = valueAt qs k := by simp [valueAt, List.find?_cons, e']
      rw [valV_neg e, b]; exact ih
theorem KV.any {kvs : List (κ × V)} {vs : List (κ × Value)} (r : KV kvs vs) (k : κ) : (kvs.any fun kv => decide (kv.1 = k)) = vs.any fun kv => decide (kv.1 = k) := by
  unfold KV at r
  induction r with
  | nil => rfl
  | cons h t ih => rw [List.any_cons, List.any_cons, ih, h.1]
theorem KV.repl {kvs : List (κ × V)} {vs : List (κ × Value)} (r : KV kvs vs) (k : κ) {y : V} {u : Value} (ry : RelV y u) :
    KV (kvs.map fun kv => if kv.1 = k then (kv.1, y) else kv) (vs.map fun kv => if kv.1 = k then (kv.1, u) else kv) := by
  unfold KV at r ⊢
  induction r with
  | nil => exact .nil
  | @cons p q ps qs h t ih =>
    rw [List.map_cons, List.map_cons]
    refine .cons ?_ ih
    obtain ⟨h1, h2⟩ := h
    by_cases e : p.1 = k
    · rw [if_pos e, if_pos (h1.symm.trans e)]; exact ⟨h1, ry⟩
    · rw [if_neg e, if_neg (fun z => e (h1.trans z))]; exact ⟨h1, h2⟩
theorem KV.put {kvs : List (κ × V)} {vs : List (κ × Value)} (r : KV kvs vs) (k : κ) {y : V} {u : Value} (ry : RelV y u) : KV (putK kvs k y) (stored vs k u) := by
  unfold putK stored
  rw [r.any k]
  by_cases e : (vs.any fun kv => decide (kv.1 = k)) = true
  · rw [if_pos e, if_pos e]; exact r.repl k ry
  · rw [if_neg e, if_neg e]; exact Paired.snoc r ⟨rfl, ry⟩
theorem KV.drop {kvs : List (κ × V)} {vs : List (κ × Value)} (r : KV kvs vs) (k : κ) : KV (dropK kvs k) (without vs k) := by
  unfold KV at r ⊢
  unfold dropK without
  induction r with
  | nil => exact .nil
  | @cons p q ps qs h t ih =>
    obtain ⟨h1, h2⟩ := h
    rw [List.filter_cons, List.filter_cons]
    by_cases e : p.1 = k
    · have a : ¬ decide (p.1 ≠ k) = true := by simp [e]
      have b : ¬ decide (q.1 ≠ k) = true := by simp [h1.symm.trans e]
      rw [if_neg a, if_neg b]; exact ih
    · have e' : ¬ q.1 = k := fun z => e (h1.trans z)
      have a : decide (p.1 ≠ k) = true := by simp [e]
      have b : decide (q.1 ≠ k) = true := by simp [e']
      rw [if_pos a, if_pos b]; exact .cons ⟨h1, h2⟩ ih
theorem KV.length {kvs : List (κ × V)} {vs : List (κ × Value)} (r : KV kvs vs) : kvs.length = vs.length := Paired.length r
theorem dropK_le (kvs : List (κ × V)) (k : κ) : (dropK kvs k).length ≤ kvs.length := List.length_filter_le _ _
end


/-! ### a tracked dict, its keys ints and texts or tuples of these -/
theorem kV_is {P : Program} {w : World} {k : Key} {u : Value} (r : RelV (kV k) u) : (mixKind P w).is k u = true := by
  cases k with
  | inl i => obtain ⟨t, e⟩ := (show ∃ t, u = Value.int i t from r); subst e; exact mixKind_int P w i t
  | inr x => obtain ⟨t, e⟩ := (show ∃ t, u = Value.str x t from r); subst e; exact mixKind_str P w x t
theorem items_are {P : Program} {w : World} : ∀ {ks : List Key} {us : List Value}, Vals (ks.map kV) us → ItemsAre (mixKind P w) ks us
  | [], _, r => by rw [List.map_nil] at r; cases r; exact .nil
  | k :: ks, _, r => by
    rw [List.map_cons] at r
    cases r with
    | cons h t => exact .cons (kV_is h) (items_are t)

/-- raw entries of a dict with tuple keys -/
abbrev KT (H : Hp) : List (List Key × V) → List (List Key × Addr × Value) → Prop := Paired fun p q => p.1 = q.1 ∧ H q.2.1 = some (.tup (p.1.map kV)) ∧ RelV p.2 q.2.2
theorem KT.val {H : Hp} {kvs : List (List Key × V)} {xs : List (List Key × Addr × Value)} (r : KT H kvs xs) (k : List Key) : RelO (valV kvs k) ((atKey xs k).map (·.2)) := by
  induction r with
  | nil => exact True.intro
  | @cons p q ps qs h t ih =>
    obtain ⟨h1, _, h2⟩ := h
    by_cases e : p.1 = k
    · have e' : q.1 = k := h1.symm.trans e
      have b : atKey (q :: qs) k = some q.2 := by simp [atKey, List.find?_cons, e']
      rw [valV_pos e, b]; exact h2
    · have e' : ¬ q.1 = k := fun z => e (h1.trans z)
      have b : atKey (q :: qs) k = atKey qs k := by simp [atKey, List.find?_cons, e']
      rw [valV_neg e, b]; exact ih
theorem KT.repl {H : Hp} {kvs : List (List Key × V)} {xs : List (List Key × Addr × Value)} (r : KT H kvs xs) (k : List Key) {y : V} {u : Value} (ry : RelV y u) :
    KT H (kvs.map fun kv => if kv.1 = k then (kv.1, y) else kv) (xs.map (putAt k u)) := by
  induction r with
  | nil => exact .nil
  | @cons p q ps qs h t ih =>
    rw [List.map_cons, List.map_cons]
    refine .cons ?_ ih
    obtain ⟨h1, h2, h3⟩ := h
    unfold putAt
    by_cases e : p.1 = k
    · rw [if_pos e, if_pos (h1.symm.trans e)]; exact ⟨h1, h2, ry⟩
    · rw [if_neg e, if_neg (fun z => e (h1.trans z))]; exact ⟨h1, h2, h3⟩
theorem KT.put {H : Hp} {kvs : List (List Key × V)} {xs : List (List Key × Addr × Value)} (r : KT H kvs xs) (k : List Key) {b : Addr} {y : V} {u : Value} (hb : H b = some (.tup (k.map kV))) (ry : RelV y u) :
    KT H (putK kvs k y) (storedH xs k b u) := by
  have e : (kvs.any fun kv => decide (kv.1 = k)) = (atKey xs k).isSome := by
    rw [valV_any, (r.val k).isSome_eq, Option.isSome_map]
  unfold putK storedH
  rw [e]
  by_cases q : (atKey xs k).isSome = true
  · rw [if_pos q, if_pos q]; exact r.repl k ry
  · rw [if_neg q, if_neg q]; exact Paired.snoc r ⟨rfl, hb, ry⟩
theorem KT.keeps {H H' : Hp} {kvs : List (List Key × V)} {xs : List (List Key × Addr × Value)} (r : KT H kvs xs) (ht : ∀ b ys, H b = some (.tup ys) → H' b = some (.tup ys)) : KT H' kvs xs :=
  Paired.mapP r fun _ _ z => ⟨z.1, ht _ _ z.2.1, z.2.2⟩

section
variable {P : Program} {w : World} {H : Hp} {h : Heap} {a : Addr}
theorem rd_of {u : HO} (ok : HOk P w H h) (e : Rd H a u) : ObjOk P w H h a u := e.ok ok
theorem dk_rd {kvs : List (Key × V)} (ok : HOk P w H h) (e : Rd H a (.dK kvs)) : kvs.length ≤ sizeLine ∧ (a == sysModules) = false ∧ ∃ vs, KV kvs vs ∧ h.DictOf (mixKind P w) a vs :=
  show ObjOk P w H h a (.dK kvs) from rd_of ok e
theorem dk_of {kvs : List (Key × V)} (ok : HOk P w H h) (e : H a = some (.dK kvs)) : kvs.length ≤ sizeLine ∧ (a == sysModules) = false ∧ ∃ vs, KV kvs vs ∧ h.DictOf (mixKind P w) a vs := dk_rd ok (.inl e)
/-- a tracked tuple of ints and texts is a key -/
theorem key_of {ks : List Key} (ok : HOk P w H h) (e : H a = some (.tup (ks.map kV))) : (tupleKind (mixKind P w)).is h ks a := by
  obtain ⟨_, its, r, o, h1, h2, n, h3⟩ := (show ObjOk P w H h a (.tup (ks.map kV)) from ok a _ e)
  exact ⟨o, its.toArray, n, h1, h2, h3, by simpa using items_are r⟩
theorem dt_rd {kvs : List (List Key × V)} (ok : HOk P w H h) (e : Rd H a (.dT kvs)) : kvs.length ≤ sizeLine ∧ (a == sysModules) = false ∧
    ∃ xs, KT H kvs xs ∧ h.DictOfH (tupleKind (mixKind P w)) a xs := by
  obtain ⟨z, y, xs, r, o, es, ep, h1, h2, h3, h4, h5⟩ := (show ObjOk P w H h a (.dT kvs) from rd_of ok e)
  refine ⟨z, y, xs, r, o, es, ep, h1, h2, h3, h4, fun x hx => ?_, h5⟩
  have all : ∀ {l : List (List Key × V)} {m : List (List Key × Addr × Value)}, KT H l m → ∀ x ∈ m, (tupleKind (mixKind P w)).is h x.1 x.2.1 := by
    intro l m q
    induction q with
    | nil => intro x hx; exact nomatch hx
    | @cons p q ps qs hq t ih =>
      intro x hx
      rcases List.mem_cons.mp hx with e | hx
      · subst e
        exact key_of ok (by rw [← hq.1]; exact hq.2.1)
      · exact ih x hx
  exact all r x hx
theorem dt_of {kvs : List (List Key × V)} (ok : HOk P w H h) (e : H a = some (.dT kvs)) : kvs.length ≤ sizeLine ∧ (a == sysModules) = false ∧
    ∃ xs, KT H kvs xs ∧ h.DictOfH (tupleKind (mixKind P w)) a xs := dt_rd ok (.inl e)
end

/-- what the dict at a holds at the key y -/
def DGet (H : Hp) (a : Addr) (y : V) (r : Option V) : Prop :=
  (∃ kvs k, Rd H a (.dK kvs) ∧ y = kV k ∧ r = valV kvs k) ∨ ∃ kvs k b, Rd H a (.dT kvs) ∧ y = .ref b ∧ H b = some (.tup (k.map kV)) ∧ r = valV kvs k
/-- the heap behind a[y] = v -/
def DPut (H : Hp) (a : Addr) (y v : V) (H' : Hp) : Prop :=
  (∃ kvs k, H a = some (.dK kvs) ∧ y = kV k ∧ kvs.length < sizeLine ∧ H' = upd H a (.dK (putK kvs k v))) ∨
  ∃ kvs k b, H a = some (.dT kvs) ∧ y = .ref b ∧ H b = some (.tup (k.map kV)) ∧ kvs.length < sizeLine ∧ H' = upd H a (.dT (putK kvs k v))
theorem DGet.k {H : Hp} {a : Addr} {kvs : List (Key × V)} {k : Key} (e : H a = some (.dK kvs)) : DGet H a (kV k) (valV kvs k) := .inl ⟨kvs, k, .inl e, rfl, rfl⟩
theorem DPut.k {H : Hp} {a : Addr} {kvs : List (Key × V)} {k : Key} {v : V} (e : H a = some (.dK kvs)) (hl : kvs.length < sizeLine) : DPut H a (kV k) v (upd H a (.dK (putK kvs k v))) := .inl ⟨kvs, k, e, rfl, hl, rfl⟩


section
variable {X : Cx} {pins : List (Addr × Obj)} {σ : St} {H : Hp} {s : Shared} {a : Addr} {y v : V} {u r : Value} {o : Option V} {A : Around} {E : Value → Shared → Prop}

theorem Inv.big (I : Inv X pins σ H s) : sysModules < s.heap.objs.size := by
  have h : mainGlobals < s.heap.objs.size := (I.mod.glob.keeps I.bk).lt
  exact Nat.lt_trans (by decide) h

/-- d[y], there -/
theorem d_getItem {Q : Value → Shared → Prop} (hu : A.units + 1 < cLine) (I : Inv X pins σ H s) (g : DGet H a y (some v)) (ry : RelV y u) (h : ∀ w' s', Inv X pins σ H s' → RelV v w' → Q w' s') :
    wpAny (model X.prog X.w) A (getItem (.ref a) u) Q E s := by
  rcases g with ⟨kvs, k, e, ey, l⟩ | ⟨kvs, k, b, e, ey, eb, l⟩
  · subst ey
    obtain ⟨z, hd, vs, rel, dd⟩ := dk_rd I.hok e
    obtain ⟨w', hw, rw'⟩ := RelO.some_of (v := v) (o := valueAt vs k) (by rw [l]; exact rel.val k)
    exact wpAny_getItem_of (kV_is ry) dd.mapOf hw (h w' _ (I.tok _) rw')
  · subst ey
    cases (show u = Value.ref b from ry)
    obtain ⟨z, hd, xs, rel, dd⟩ := dt_rd I.hok e
    obtain ⟨w', hw, rw'⟩ := RelO.some_of (v := v) (o := (atKey xs k).map (·.2)) (by rw [l]; exact rel.val k)
    obtain ⟨p, hp, hp2⟩ := Option.map_eq_some_iff.mp hw
    refine wpAny_getItem_heap (tupleKind_room_in1 hu) (key_of I.hok eb) dd hp ?_
    rw [hp2]
    exact h w' _ (I.tok _) rw'
theorem d_notIn {Q : Value → Shared → Prop} (hu : A.units + 1 < cLine) (I : Inv X pins σ H s) (g : DGet H a y o) (ry : RelV y u) (h : ∀ s', Inv X pins σ H s' → Q (.bool (!o.isSome)) s') :
    wpAny (model X.prog X.w) A (compareOp .NotIn u (.ref a)) Q E s := by
  rcases g with ⟨kvs, k, e, ey, l⟩ | ⟨kvs, k, b, e, ey, eb, l⟩
  · subst ey
    obtain ⟨z, hd, vs, rel, dd⟩ := dk_rd I.hok e
    refine wpAny_notIn_of (kV_is ry) hd dd.mapOf ?_
    rw [← (rel.val k).isSome_eq, ← l]
    exact h _ (I.tok _)
  · subst ey
    cases (show u = Value.ref b from ry)
    obtain ⟨z, hd, xs, rel, dd⟩ := dt_rd I.hok e
    refine wpAny_notIn_heap (tupleKind_room_in1 hu) (key_of I.hok eb) hd dd ?_
    have q := (rel.val k).isSome_eq
    rw [Option.isSome_map] at q
    rw [← q, ← l]
    exact h _ (I.tok _)
/-- a dict's object is replaced -/
theorem d_write {h' : Heap} {t' : Nat} {ob : HO} (I : Inv X pins σ H s) (mu : Mut (H a)) (hs : Heap.SameBut a s.heap h') (he : ∃ q, h'.get? a = some q) (new : ObjOk X.prog X.w (upd H a ob) h' a ob) :
    Inv X pins σ (upd H a ob) { s with heap := h', toks := t' } :=
  I.write (x := a) (e := a) mu (.inl rfl) (fun b q hb z => (hs.2 b hb).trans z) he new
theorem dk_new {P : Program} {w : World} {H' : Hp} {h' : Heap} {kvs : List (Key × V)} {vs : List (Key × Value)} (z : kvs.length ≤ sizeLine) (hd : (a == sysModules) = false) (rel : KV kvs vs) (dd : h'.DictOf (mixKind P w) a vs) :
    ObjOk P w H' h' a (.dK kvs) := ⟨z, hd, vs, rel, dd⟩
/-- d[y] = v -/
theorem d_setItem {H' : Hp} {Q : Unit → Shared → Prop} (hu : A.units + 1 < cLine) (I : Inv X pins σ H s) (g : DPut H a y v H') (ry : RelV y u) (rv : RelV v r) (h : ∀ s', Inv X pins σ H' s' → Q () s') :
    wpAny (model X.prog X.w) A (setItem (.ref a) u r) Q E s := by
  rcases g with ⟨kvs, k, e, ey, l, eH⟩ | ⟨kvs, k, b, e, ey, eb, l, eH⟩
  · subst ey eH
    obtain ⟨z, hd, vs, rel, dd⟩ := dk_of I.hok e
    have hz : vs.length ≤ sizeLine := by rw [← rel.length]; exact z
    have hl : (putK kvs k v).length ≤ sizeLine := by have := length_putK kvs k v; omega
    refine wpAny_setItem_pairs (hsz := hz) (kV_is ry) dd fun h' dd' hs => h _ ?_
    have he : ∃ q, h'.get? a = some q := let ⟨q, _, _, hq, _⟩ := dd'; ⟨q, hq⟩
    exact d_write I (by rw [e]; exact True.intro) hs he (dk_new hl hd (rel.put k rv) dd')
  · subst ey eH
    cases (show u = Value.ref b from ry)
    obtain ⟨z, hd, xs, rel, dd⟩ := dt_of I.hok e
    have hz : xs.length ≤ sizeLine := by rw [← Paired.length rel]; exact z
    have hl : (putK kvs k v).length ≤ sizeLine := by have := length_putK kvs k v; omega
    refine wpAny_setItem_heap (hsz := hz) (tupleKind_room_in1 hu) (key_of I.hok eb) dd fun h' dd' hs => h _ ?_
    obtain ⟨q, es, ep, hq, h2, h3, h4, _, h5⟩ := dd'
    refine d_write I (by rw [e]; exact True.intro) hs ⟨q, hq⟩ ⟨hl, hd, _, (rel.put k eb rv).keeps fun c ys ec => ?_, q, es, ep, hq, h2, h3, h4, h5⟩
    rw [upd_ne (ne_of ec e (fun z => nomatch z))]
    exact ec
end

section
variable {X : Cx} {pins : List (Addr × Obj)} {σ : St} {H : Hp} {s : Shared} {a : Addr} {kvs : List (Key × V)} {k : Key} {u : Value} {A : Around} {E : Value → Shared → Prop}
/-- d.pop(k[, x]), there -/
theorem d_pop {v : V} {more : List Value} {Q : Value → Shared → Prop} (I : Inv X pins σ H s) (e : H a = some (.dK kvs)) (ry : RelV (kV k) u) (l : valV kvs k = some v) (hm : more = [] ∨ ∃ x, more = [x])
    (h : ∀ w' s', Inv X pins σ (upd H a (.dK (dropK kvs k))) s' → RelV v w' → Q w' s') : wpAny (model X.prog X.w) A (call (.builtin "dict.pop") (.ref a :: u :: more)) Q E s := by
  obtain ⟨z, hd, vs, rel, dd⟩ := dk_of I.hok e
  obtain ⟨w', hw, rw'⟩ := RelO.some_of (v := v) (o := valueAt vs k) (by rw [← l]; exact rel.val k)
  have hp : (keyPart u).isSome = true := by
    cases k with
    | inl i => obtain ⟨t, q⟩ := (show ∃ t, u = Value.int i t from ry); subst q; rfl
    | inr x => obtain ⟨t, q⟩ := (show ∃ t, u = Value.str x t from ry); subst q; rfl
  have ha : argsOk "dict.pop" ⟨.ref a :: u :: more, []⟩ := by
    rcases hm with q | ⟨x, q⟩
    · subst q; exact PySem.F.args_dict_pop_2 _ _
    · subst q; exact PySem.F.args_dict_pop_3 _ _ _
  refine call_meetsIn PySem.F.slot_dict_pop dd.typeIs PySem.F.entry_dict_pop ha (meets_dict_pop_there (mixKind X.prog X.w) a (kV_is ry) more hm hp)
    ⟨vs, w', dd, by rw [← rel.length]; exact z, hw, fun h' dd' hs => h w' _ ?_ rw'⟩
  have he : ∃ q, h'.get? a = some q := let ⟨q, _, _, hq, _⟩ := dd'; ⟨q, hq⟩
  exact d_write I (by rw [e]; exact True.intro) hs he (dk_new (Nat.le_trans (dropK_le kvs k) z) hd (rel.drop k) dd')
/-- len(d) -/
theorem d_len {Q : Value → Shared → Prop} (I : Inv X pins σ H s) (e : Rd H a (.dK kvs)) (h : ∀ t s', Inv X pins σ H s' → Q (.int kvs.length t) s') : wpAny (model X.prog X.w) A (call (.builtin "len") [.ref a]) Q E s := by
  obtain ⟨z, hd, vs, rel, dd⟩ := dk_rd I.hok e
  refine call_len_dict hd dd (by rw [← rel.length]; rw [sizeLine_eq] at z; omega) ?_
  rw [← rel.length]
  exact h _ _ (I.tok _)
end


/-! ### readings and rules -/
/-- the element of a subscription, not a slice -/
def NoSl (i : Expr) : Prop := ∀ ov iv, subscripted i false ov iv = operate [ov, iv] (getItem ov iv)
theorem subD_of {prog : Program} {w : World} {A : Around} {E : Value → Shared → Prop} {s : Shared} {env : Env} {value slice : Expr} {pos : Pos} {T id : String} {Q : Value → Shared → Prop}
    (hl : typeLookup (.type T) "__getitem__" = pure (some (.builtin id))) (hs : NoSl slice)
    (h : wpAny (model prog w) A (eval value env) (fun o s₁ => wpAny (model prog w) A (eval slice env) (fun i s₂ => s₂.TypeIs o T ∧ wpAny (model prog w) A (getItem o i) Q E s₂) E s₁) E s) :
    wpAny (model prog w) A (eval (.Subscript value slice pos) env) Q E s := by
  refine Subscript_ (wpAny_mono h (fun o s₁ h₁ => wpAny_mono h₁ (fun i s₂ h₂ => ?_) fun _ _ x => x) fun _ _ x => x)
  obtain ⟨hT, h₂⟩ := h₂
  unfold subscriptTail
  refine wpAny_bind ?_
  rw [getitemInPython_of_ne hT.not_modules]
  refine wpAny_bind (wpAny_specialOf hT hl ?_)
  have fin : wpAny (model prog w) A (subscripted slice false o i) (fun r s₃ => wpAny (model prog w) A (letTemporaryGo value o r >>= fun _ => pure r) Q E s₃) E s₂ := by
    rw [hs o i]
    exact wpAny_operating (wpAny_mono h₂ (fun r s₃ h₃ => wpAny_bind (wpAny_letTemporaryGo (wpAny_pure h₃))) fun _ _ x => x)
  first
    | exact wpAny_pure (wpAny_bind fin)
    | exact wpAny_bind (wpAny_pure (wpAny_bind fin))
    | exact wpAny_bind fin

theorem dict_typeIs {X : Cx} {pins : List (Addr × Obj)} {σ : St} {H : Hp} {s : Shared} {a : Addr} {y : V} {o : Option V} (I : Inv X pins σ H s) (g : DGet H a y o) : s.TypeIs (.ref a) "dict" := by
  rcases g with ⟨kvs, k, e, _, _⟩ | ⟨kvs, k, b, e, _, _, _⟩
  · obtain ⟨_, _, vs, _, dd⟩ := dk_rd I.hok e
    exact dd.typeIs
  · obtain ⟨_, _, xs, _, dd⟩ := dt_rd I.hok e
    exact dd.typeIs

/-- d[y] -/
def tDGet (td ty : TE) : TE := fun σ H Q => td σ H fun x H1 => ty σ H1 fun y H2 => ∃ a v, x = .ref a ∧ DGet H2 a y (some v) ∧ Q v H2
def tDNotIn (ty td : TE) : TE := fun σ H Q => ty σ H fun y H1 => td σ H1 fun x H2 => ∃ a o, x = .ref a ∧ DGet H2 a y o ∧ Q (.bl (!o.isSome)) H2
/-- d[y] = v -/
def sDPut (td ty tv : TE) : TS := fun D σ H => tv σ H fun v H1 => td σ H1 fun x H2 => ty σ H2 fun y H3 => ∃ a H4, x = .ref a ∧ DPut H3 a y v H4 ∧ D.nx σ H4

section
variable {X : Cx} {o i e value : Expr} {pos pos' tpos : Pos} {td ty tv : TE}
theorem pe_dget (hu : X.A.units + 1 < cLine) (ho : PE X o td) (hi : PE X i ty) (hs : NoSl i) : PE X (.Subscript o i pos) (tDGet td ty) := by
  intro pins s σ H Q I h
  refine subD_of PySem.F.slot_dict_getitem.lookup hs (thn (ho pins s σ H _ I h) fun u s1 ⟨x, H1, I1, rx, q1⟩ => thn (hi pins s1 σ H1 _ I1 q1) fun iv s2 ⟨y, H2, I2, ry, a, v, ex, g, q2⟩ => ?_)
  subst ex
  obtain rfl : u = Value.ref a := rx
  exact ⟨dict_typeIs I2 g, d_getItem hu I2 g ry fun w' s3 I3 rw' => ⟨v, H2, I3, rw', q2⟩⟩
theorem pc_dnotin (hu : X.A.units + 1 < cLine) (hi : PE X i ty) (ho : PE X o td) : PC X .NotIn i o (tDNotIn ty td) := by
  intro pins s σ H Q I h
  refine thn (hi pins s σ H _ I h) fun iv s1 ⟨y, H1, I1, ry, q1⟩ => thn (ho pins s1 σ H1 _ I1 q1) fun u s2 ⟨x, H2, I2, rx, a, ov, ex, g, q2⟩ => ?_
  subst ex
  obtain rfl : u = Value.ref a := rx
  exact d_notIn hu I2 g ry fun s3 I3 => ⟨.bl (!ov.isSome), H2, I3, rfl, q2⟩
theorem ps_dput (hu : X.A.units + 1 < cLine) (ho : PE X o td) (hi : PE X i ty) (hv : PE X value tv) (hs : swapsWith value (some (.Subscript o i pos')) pos.line X.env = pure false) :
    PS X (.Assign [.Subscript o i pos'] value pos) (sDPut td ty tv) := by
  intro pins s σ H D I h
  refine wpAny_Assign_Subscript (thn (hv pins s σ H _ I h) fun r s1 ⟨v, H1, I1, rv, q1⟩ => thn (ho pins s1 σ H1 _ I1 q1) fun u s2 ⟨x, H2, I2, rx, q2⟩ => thn (hi pins s2 σ H2 _ I2 q2) fun iv s3 ⟨y, H3, I3, ry, a, H4, ex, g, q3⟩ => ?_) hs
  subst ex
  obtain rfl : u = Value.ref a := rx
  exact d_setItem hu I3 g ry rv fun s4 I4 => ⟨σ, H4, I4, q3⟩
end


/-! ### displays -/
theorem dk_empty {P : Program} {w : World} {H : Hp} (h : Heap) (hb : sysModules < h.objs.size) : ObjOk P w H (h.push { cls := .type "dict", data := .dict #[] }) h.objs.size (.dK []) :=
  ⟨Nat.zero_le _, beq_eq_false_iff_ne.mpr (Ne.symm (Nat.ne_of_lt hb)), [], .nil, Heap.DictOf.new h⟩
/-- {}, to be a dict of the kind that is wanted -/
def tDNewK : TE := fun _ H Q => ∀ p, H p = none → Q (.ref p) (upd H p (.dK []))
section
variable {X : Cx} {pos : Pos}
theorem pe_dnewK : PE X (.Dict [] [] pos) tDNewK := fun pins s σ H Q I h =>
  wpAny_Dict_empty ⟨.ref s.heap.objs.size, _, I.laid (a := s.heap.objs.size) (o := .dK []) (t' := s.toks) (fun _ _ q => Heap.get?_push_of_some _ q) (Nat.le_refl _) (dk_empty s.heap I.big), rfl, h _ (I.hok.fresh (Nat.le_refl _))⟩
end

/-- the pairs of a display, from the left -/
def tPairs : List (TE × TE) → St → Hp → (List (V × V) → Hp → Prop) → Prop
  | [], _, H, Q => Q [] H
  | (tk, tv) :: r, σ, H, Q => tk σ H fun x H1 => tv σ H1 fun y H2 => tPairs r σ H2 fun ps H3 => Q ((x, y) :: ps) H3
abbrev VV : List (V × V) → List (Value × Value) → Prop := Paired fun p q => RelV p.1 q.1 ∧ RelV p.2 q.2
def PPs (X : Cx) (pos : Pos) (keys : List (Option Expr)) (values : List Expr) (trs : List (TE × TE)) : Prop :=
  ∀ (pins : List (Addr × Obj)) (s : Shared) (σ : St) (H : Hp) (Q : List (V × V) → Hp → Prop), Inv X pins σ H s → tPairs trs σ H Q →
    wpAny (model X.prog X.w) X.A (evalPairs (pairTrees keys values X.env pos)) (fun vs s' => ∃ ps H', Inv X pins σ H' s' ∧ VV ps vs ∧ Q ps H') X.xe s
theorem pps_nil {X : Cx} {pos : Pos} : PPs X pos [] [] [] := fun pins s σ H Q I h => pairTrees_nil_walk ⟨[], H, I, .nil, h⟩
theorem pps_cons {X : Cx} {pos : Pos} {k v : Expr} {ks : List (Option Expr)} {vs : List Expr} {tk tv : TE} {trs : List (TE × TE)} (hk : PE X k tk) (hv : PE X v tv) (hr : PPs X pos ks vs trs) :
    PPs X pos (some k :: ks) (v :: vs) ((tk, tv) :: trs) := fun pins s σ H Q I h =>
  pairTrees_cons_walk (thn (hk pins s σ H _ I h) fun u s1 ⟨x, H1, I1, rx, q1⟩ => thn (hv pins s1 σ H1 _ I1 q1) fun w2 s2 ⟨y, H2, I2, ry, q2⟩ =>
    thn (hr pins s2 σ H2 _ I2 q2) fun ws s3 ⟨ps, H3, I3, rel, q3⟩ => ⟨(x, y) :: ps, H3, I3, .cons ⟨rx, ry⟩ rel, q3⟩)

def mergeK (kvs more : List (Key × V)) : List (Key × V) := more.foldl (fun acc kv => putK acc kv.1 kv.2) kvs
theorem KV.merge : ∀ {more : List (Key × V)} {rs : List (Key × Value)} {kvs : List (Key × V)} {vs : List (Key × Value)}, KV more rs → KV kvs vs → KV (mergeK kvs more) (merged vs rs) := by
  intro more rs kvs vs r
  unfold KV at r
  induction r generalizing kvs vs with
  | nil => intro q; exact q
  | @cons p q ps qs h t ih =>
    intro r0
    have e : KV (putK kvs p.1 p.2) (stored vs q.1 q.2) := by
      have := r0.put p.1 h.2
      rw [← h.1]; exact this
    exact ih e
theorem length_mergeK : ∀ (more kvs : List (Key × V)), (mergeK kvs more).length ≤ kvs.length + more.length
  | [], kvs => by show kvs.length ≤ kvs.length + 0; omega
  | p :: r, kvs => by
    have h1 := length_mergeK r (putK kvs p.1 p.2)
    have h2 := length_putK kvs p.1 p.2
    show (mergeK (putK kvs p.1 p.2) r).length ≤ _
    rw [List.length_cons]; omega
theorem carries_of {P : Program} {w : World} : ∀ {kvs : List (Key × V)} {ws : List (Value × Value)}, VV (kvs.map fun kv => (kV kv.1, kv.2)) ws → ∃ rs, Carries (mixKind P w) ws rs ∧ KV kvs rs
  | [], _, r => by rw [List.map_nil] at r; cases r; exact ⟨[], True.intro, .nil⟩
  | p :: kvs, _, r => by
    rw [List.map_cons] at r
    cases r with
    | @cons a b as bs h t =>
      obtain ⟨rs, c, q⟩ := carries_of (P := P) (w := w) t
      obtain ⟨b1, b2⟩ := b
      exact ⟨(p.1, b2) :: rs, ⟨kV_is h.1, rfl, c⟩, .cons ⟨rfl, h.2⟩ q⟩
/-- {k: v, ..} with keys ints and texts; the new dict stands empty while the pairs are made -/
def tDisp (trs : List (TE × TE)) : TE := fun σ H Q => ∀ p, H p = none → tPairs trs σ (upd H p (.dK [])) fun ps H2 => H2 p = some (.dK []) ∧ ∃ kvs : List (Key × V), ps = kvs.map (fun kv => (kV kv.1, kv.2)) ∧ kvs.length ≤ 15 ∧ Q (.ref p) (upd H2 p (.dK (mergeK [] kvs)))
theorem pe_disp {X : Cx} {pos : Pos} {keys : List (Option Expr)} {values : List Expr} {trs : List (TE × TE)} (h : PPs X pos keys values trs) (hall : keys.all (·.isSome) = true) (hl : keys.length = values.length) (h0 : keys ≠ [])
    (h15 : keys.length ≤ 15) : PE X (.Dict keys values pos) (tDisp trs) := by
  intro pins s σ H Q I q
  have hn := I.hok.fresh (Nat.le_refl s.heap.objs.size)
  have I1 := I.laid (a := s.heap.objs.size) (o := .dK []) (h' := s.heap.push { cls := .type "dict", data := .dict #[] }) (t' := s.toks) (fun _ _ q => Heap.get?_push_of_some _ q) (Nat.le_refl _) (dk_empty s.heap I.big)
  refine wpAny_Dict_walk (knd := mixKind X.prog X.w) hall hl h0 h15 (thn (h pins _ σ _ _ I1 (q _ hn)) fun ws s2 ⟨ps, H2, I2, rel, e, kvs, ep, lk, q2⟩ => ?_)
  subst ep
  obtain ⟨rs, c, rk⟩ := carries_of (P := X.prog) (w := X.w) rel
  obtain ⟨z, hd, vs0, r0, dd⟩ := dk_of I2.hok e
  cases r0
  refine ⟨rs, c, dd, fun h' dd' hs => ⟨.ref s.heap.objs.size, _, ?_, rfl, q2⟩⟩
  have hz : (mergeK [] kvs).length ≤ sizeLine := by
    have h1 := length_mergeK kvs []
    rw [List.length_nil] at h1
    rw [sizeLine_eq]; omega
  have he : ∃ q, h'.get? s.heap.objs.size = some q := let ⟨q, _, _, hq, _⟩ := dd'; ⟨q, hq⟩
  exact d_write I2 (by rw [e]; exact True.intro) hs he (dk_new hz hd (rk.merge .nil) dd')


/-! ### methods -/
/-- a method call o.m(e) of a built-in, with one argument: what must be seen of the text -/
structure M1 (X : Cx) (o : Expr) (m : Str) (apos : Pos) (e : Expr) (cpos : Pos) : Prop where
  base : attributeBase o m X.env (eval o X.env) = eval o X.env
  few : ((backTo cpos (starEach [e] X.env)).all (fun x => !x.1) && (backToKw cpos (keywordEach [] X.env)).all (fun x => x.1.isSome)
    && decide (([e] : List Expr).length + ([] : List Keyword).length + (if ([] : List Keyword).isEmpty then 0 else 1) < 30)) = true
  line : (apos.endLine == cpos.line) = true
  trees : backTo cpos (starEach [e] X.env) = [(false, eval e X.env)]

/-- a is a dict, whatever its keys -/
def IsD (H : Hp) (a : Addr) : Prop := (∃ kvs, Rd H a (.dK kvs)) ∨ ∃ kvs, Rd H a (.dT kvs)
theorem isD_at {X : Cx} {pins : List (Addr × Obj)} {σ : St} {H : Hp} {s : Shared} {a : Addr} (I : Inv X pins σ H s) (d : IsD H a) :
    s.TypeIs (.ref a) "dict" ∧ (∀ b, Value.ref a = .ref b → ∃ ob, s.heap.get? b = some ob ∧ ob.dict = none) ∧ (a == sysModules) = false := by
  rcases d with ⟨kvs, e⟩ | ⟨kvs, e⟩
  · obtain ⟨_, hd, vs, _, dd⟩ := dk_rd I.hok e
    refine ⟨dd.typeIs, fun b q => ?_, hd⟩
    cases q
    obtain ⟨ob, _, _, h1, h2, _⟩ := dd
    exact ⟨ob, h1, h2.2.1⟩
  · obtain ⟨_, hd, xs, _, dd⟩ := dt_rd I.hok e
    refine ⟨dd.typeIs, fun b q => ?_, hd⟩
    cases q
    obtain ⟨ob, _, _, h1, h2, _⟩ := dd
    exact ⟨ob, h1, h2.2.1⟩

section
variable {X : Cx} {pins : List (Addr × Obj)} {σ : St} {H : Hp} {s : Shared} {a : Addr} {y d : V} {u r : Value} {o : Option V} {A : Around} {E : Value → Shared → Prop}
end

/-- d.pop(k): there; d.pop(k, x): there or not -/
def tDPop1 (td ty : TE) : TE := fun σ H Q => td σ H fun x H1 => ∃ a, x = .ref a ∧ IsD H1 a ∧ ty σ H1 fun y H2 => ∃ kvs k v, H2 a = some (.dK kvs) ∧ y = kV k ∧ valV kvs k = some v ∧ Q v (upd H2 a (.dK (dropK kvs k)))
section
variable {X : Cx} {o e f : Expr} {apos cpos : Pos} {td ty tx : TE}
theorem pe_dpop1 (ho : PE X o td) (he : PE X e ty) (m : M1 X o "pop" apos e cpos) : PE X (.Call (.Attribute o "pop" apos) [e] [] cpos) (tDPop1 td ty) := by
  intro pins s σ H Q I h
  refine wpAny_Call_method m.base m.few m.line PySem.F.plainAttrs_dict PySem.F.slot_dict_pop PySem.F.type_dict_pop (thn (ho pins s σ H _ I h) fun u s1 ⟨x, H1, I1, rx, a, ex, d, q1⟩ => ?_)
  subst ex
  obtain rfl : u = Value.ref a := rx
  obtain ⟨t1, t2, _⟩ := isD_at I1 d
  refine ⟨t1, t2, ?_⟩
  rw [m.trees]
  refine Calls.callWith_builtin rfl (Calls.evalArgs_plain (Calls.spliced_cons (thn (he pins s1 σ H1 _ I1 q1) fun iv s2 ⟨y, H2, I2, ry, kvs, k, v, ea, ey, l, q2⟩ => Calls.spliced_nil ?_)))
  subst ey
  exact d_pop I2 ea ry l (.inl rfl) fun w' s3 I3 rw' => ⟨v, _, I3, rw', q2⟩
end

/-! ### dict(d): a copy -/
section
variable {X : Cx} {pins : List (Addr × Obj)} {σ : St} {H : Hp} {s : Shared} {a : Addr} {kvs : List (Key × V)} {A : Around} {E : Value → Shared → Prop}
end


section
variable {X : Cx} {pins : List (Addr × Obj)} {σ : St} {H : Hp} {s : Shared} {a : Addr} {y : V} {u : Value} {A : Around} {E : Value → Shared → Prop}
end
end L2

namespace L2
open PySem PySem.Spec PyProof.Rows
section
variable {X : Cx}
/-- len of a dict -/
theorem call_lenD : CallR X (.builtin "len") (fun xs H Q => ∃ a kvs, xs = [V.ref a] ∧ H a = some (.dK kvs) ∧ Q (.int kvs.length) H) := by
  intro pins s σ H xs us Q I r h
  obtain ⟨a, kvs, rfl, ha, q⟩ := h
  obtain ⟨u, rfl, ru⟩ := vals1 r
  cases ru
  exact d_len I (.inl ha) fun t s' I' => ⟨.int kvs.length, H, I', ⟨t, rfl⟩, q⟩
end
/-! ### a dict's pairs: keys that differ -/
section
variable {κ : Type} [DecidableEq κ]
end
end L2

set_option Elab.async false
set_option linter.all false
set_option maxRecDepth 100000
namespace L2
open PySem PySem.Spec PyProof.Rows

/-! an object that was not tracked is tracked from now on -/
theorem HOk.track {P : Program} {w : World} {H : Hp} {h : Heap} {a : Addr} {o : HO} (ok : HOk P w H h) (n : H a = none) (new : ObjOk P w (upd H a o) h a o) : HOk P w (upd H a o) h := fun b u q => by
  by_cases hb : b = a
  · subst hb; rw [upd_same] at q; cases q; exact new
  · rw [upd_ne hb] at q
    exact (ok b u q).stay (fun _ _ _ r => r) (fun c r => by rw [upd_ne (ne_of_none r n)]; exact r) fun c xs r => by rw [upd_ne (ne_of_none r n)]; exact r

/-! ### the signs of a text, walked -/

/-! ### a walk of a known row of values -/
structure Wk (J : It) (xs : List V) (P : Hp → Prop) : Prop where
  go : ∀ i H, i < xs.length → P H → J.go i H
  yld : ∀ i H x H', P H → J.yld i H x H' → H' = H ∧ (i < xs.length → xs[i]? = some x)
  stop : ∀ H, P H → J.stop xs.length H
theorem wk_list (K : PySem.W.Frag) (a : Addr) (xs : List V) : Wk (Itl K a) xs (fun H => SqL K H a xs) :=
  ⟨fun i H hi h => ⟨xs, xs[i], h, by simp [hi]⟩, fun i H x H' h y => ⟨y.1, fun _ => y.2 xs h⟩, fun H h => ⟨xs, h, Nat.le_refl _⟩⟩
theorem wk_tup (K : PySem.W.Frag) (a : Addr) (xs : List V) : Wk (Itt K a) xs (fun H => SqT K H a xs) :=
  ⟨fun i H hi h => ⟨xs, xs[i], h, by simp [hi]⟩, fun i H x H' h y => ⟨y.1, fun _ => y.2 xs h⟩, fun H h => ⟨xs, h, Nat.le_refl _⟩⟩
def rangeV (lo : Int) (n : Nat) : List V := (List.range n).map fun (i : Nat) => V.int (lo + (i : Int))
theorem rangeV_length (lo : Int) (n : Nat) : (rangeV lo n).length = n := by simp [rangeV]
theorem wk_range (lo : Int) (n : Nat) : Wk (Itr lo n) (rangeV lo n) (fun _ => True) :=
  ⟨fun i H hi _ => by rw [rangeV_length] at hi; exact hi, fun i H v H' _ y => ⟨y.1, fun hi => by
    rw [rangeV_length] at hi
    obtain ⟨_, rfl⟩ := y
    unfold rangeV
    rw [List.getElem?_map, List.getElem?_range hi] <;> rfl⟩, fun H _ => by
    show n ≤ (rangeV lo n).length
    rw [rangeV_length]; exact Nat.le_refl _⟩
/-- a for over a known row -/
theorem for_wk {J : It} {xs : List V} {P : Hp → Prop} {g : TG} {tb : TS} {D : Ends} {σ : St} {H : Hp} (wk : Wk J xs P) (Pv : Nat → St → Hp → Prop) (h0 : Pv 0 σ H) (hl : ∀ i σ H, i ≤ xs.length → Pv i σ H → P H)
    (hs : ∀ i x σ H, xs[i]? = some x → Pv i σ H → g x σ H fun σ2 H2 => tb { D with nx := Pv (i + 1), ct := Pv (i + 1), bk := D.nx } σ2 H2) (hd : ∀ σ H, Pv xs.length σ H → D.nx σ H) :
    ∃ W : Nat → Nat → St → Hp → Prop, (∃ m, W 0 m σ H) ∧ ∀ i m σ H, W i m σ H →
      (J.stop i H ∧ D.nx σ H) ∨ (J.go i H ∧ ∃ N : St → Hp → Prop, (∀ σ' H', N σ' H' → ∃ m', m' < m ∧ W (i + 1) m' σ' H') ∧ ∀ x H', J.yld i H x H' → g x σ H' fun σ2 H2 => tb { D with nx := N, ct := N, bk := D.nx } σ2 H2) := by
  refine ⟨fun i m σ H => m = xs.length - i ∧ i ≤ xs.length ∧ Pv i σ H, ⟨xs.length, by simp, Nat.zero_le _, h0⟩, ?_⟩
  rintro i m σ H ⟨rfl, hi, p⟩
  have q := hl i σ H hi p
  by_cases hlt : i < xs.length
  · refine .inr ⟨wk.go i H hlt q, Pv (i + 1), fun σ' H' p' => ⟨xs.length - (i + 1), by omega, rfl, hlt, p'⟩, fun x H' y => ?_⟩
    obtain ⟨e, y2⟩ := wk.yld i H x H' q y
    subst e
    exact hs i x σ _ (y2 hlt) p
  · have e : i = xs.length := by omega
    subst e
    exact .inl ⟨wk.stop H q, hd σ H p⟩

/-! ### a list comprehension of one clause -/
def closOf (scope : Scope) (env : Env) : List (Str × Addr) := ((scope.names.filter fun y => y.2 == .free).map fun y => (y.1, (env.cells.lookup y.1).getD 0)).reverse
theorem clos_go (env : Env) : ∀ (l : List (Str × NameKind)) (cs : List (Str × Addr)), (∀ y ∈ l, y.2 = .free → ∃ c, env.cells.lookup y.1 = some c) →
    (forIn l cs fun (x : Str × NameKind) (r : List (Str × Addr)) => if (x.2 == NameKind.free) = true then (cellOf env x.1 >>= fun c => pure (ForInStep.yield ((x.1, c) :: r)) : Sem (ForInStep (List (Str × Addr)))) else pure (ForInStep.yield r))
      = (pure (((l.filter fun y => y.2 == .free).map fun y => (y.1, (env.cells.lookup y.1).getD 0)).reverse ++ cs) : Sem (List (Str × Addr)))
  | [], cs, _ => by simp
  | y :: l, cs, h => by
    rw [List.forIn_cons]
    have ih := fun cs => clos_go env l cs fun z hz => h z (List.mem_cons_of_mem _ hz)
    by_cases hk : (y.2 == NameKind.free) = true
    · obtain ⟨c, hc⟩ := h y List.mem_cons_self (by simpa using hk)
      have ec : cellOf env y.1 = pure c := by unfold cellOf; rw [hc]
      rw [if_pos hk, ec]
      show (forIn l ((y.1, c) :: cs) _ : Sem _) = _
      rw [ih]
      rw [List.filter_cons_of_pos (by simpa using hk), List.map_cons, List.reverse_cons, hc]
      simp
    · rw [if_neg hk]
      show (forIn l cs _ : Sem _) = _
      rw [ih, List.filter_cons_of_neg (by simpa using hk)]
theorem closureFor_eq {scope : Scope} {env : Env} (h : ∀ y ∈ scope.names, y.2 = .free → ∃ c, env.cells.lookup y.1 = some c) : closureFor scope env = pure (closOf scope env) := by
  have e := clos_go env scope.names [] h
  rw [List.append_nil] at e
  unfold closureFor
  show (forIn scope.names [] _ >>= fun r => pure r : Sem _) = _
  exact (congrArg (fun t : Sem (List (Str × Addr)) => t >>= fun r => pure r) e).trans rfl
theorem mem_closOf {scope : Scope} {env : Env} {p : Str × Addr} (h : p ∈ closOf scope env) : ∃ y ∈ scope.names, y.2 = .free ∧ p = (y.1, (env.cells.lookup y.1).getD 0) := by
  unfold closOf at h
  rw [List.mem_reverse, List.mem_map] at h
  obtain ⟨y, hy, e⟩ := h
  rw [List.mem_filter] at hy
  exact ⟨y, hy.1, by simpa using hy.2, e.symm⟩
theorem lookup_closOf {scope : Scope} {env : Env} (h : ∀ y ∈ scope.names, y.2 = .free → ∃ c, env.cells.lookup y.1 = some c) {y : Str} {c : Addr} (e : (closOf scope env).lookup y = some c) : env.cells.lookup y = some c := by
  obtain ⟨z, hz, hf, q⟩ := mem_closOf (PySem.mem_of_lookup e)
  obtain ⟨d, hd⟩ := h z hz hf
  have q1 : y = z.1 := congrArg Prod.fst q
  have q2 : c = (env.cells.lookup z.1).getD 0 := congrArg Prod.snd q
  rw [hd] at q2
  rw [q1, hd, q2] <;> rfl
theorem has_closOf {scope : Scope} {env : Env} {y : Str} (e : (y, NameKind.free) ∈ scope.names) : ∃ c, (closOf scope env).lookup y = some c := by
  have m : (y, (env.cells.lookup y).getD 0) ∈ closOf scope env := by
    unfold closOf
    rw [List.mem_reverse, List.mem_map]
    exact ⟨(y, .free), List.mem_filter.mpr ⟨e, by rfl⟩, rfl⟩
  cases q : (closOf scope env).lookup y with
  | some c => exact ⟨c, rfl⟩
  | none =>
    rw [List.lookup_eq_none_iff] at q
    have := q _ m
    simp at this
theorem lookup_relabel_free {env : Env} (hk : env.scope.kind = .function) : ∀ {names : List (Str × NameKind)} {x : Str}, names.lookup x = some .free → env.kindOf x = some .cell →
    (names.map fun (n, k) => if (k == NameKind.free && env.scope.kind == .function && env.kindOf n == some .cell) then (n, NameKind.cell) else (n, k)).lookup x = some .cell
  | [], _, h, _ => by simp at h
  | (n, k) :: r, x, h, hc => by
    have ih := @lookup_relabel_free env hk r x
    show List.lookup x ((if (k == NameKind.free && env.scope.kind == .function && env.kindOf n == some .cell) = true then (n, NameKind.cell) else (n, k)) :: _) = _
    cases hx : x == n with
    | true =>
      have hxn : x = n := by simpa using hx
      simp only [List.lookup_cons, hx] at h
      cases h
      rw [if_pos (by rw [hk, ← hxn, hc]; rfl)]
      simp [List.lookup_cons, hx]
    | false =>
      simp only [List.lookup_cons, hx] at h
      by_cases hc' : (k == NameKind.free && env.scope.kind == .function && env.kindOf n == some .cell) = true
      · rw [if_pos hc']; simp only [List.lookup_cons, hx]; exact ih h hc
      · rw [if_neg hc']; simp only [List.lookup_cons, hx]; exact ih h hc
theorem relabel_back {env : Env} : ∀ {names : List (Str × NameKind)} {x : Str} {k : NameKind},
    (names.map fun (n, k) => if (k == NameKind.free && env.scope.kind == .function && env.kindOf n == some .cell) then (n, NameKind.cell) else (n, k)).lookup x = some k → (k = .cell ∨ k = .free) →
    (x, NameKind.free) ∈ names ∨ (x, NameKind.cell) ∈ names
  | [], _, _, h, _ => by simp at h
  | (n, k0) :: r, x, k, h, hk => by
    have ih := @relabel_back env r x k
    change List.lookup x ((if (k0 == NameKind.free && env.scope.kind == .function && env.kindOf n == some .cell) = true then (n, NameKind.cell) else (n, k0)) :: _) = _ at h
    cases hx : x == n with
    | true =>
      have hxn : x = n := by simpa using hx
      subst hxn
      by_cases hc' : (k0 == NameKind.free && env.scope.kind == .function && env.kindOf x == some .cell) = true
      · have : k0 = .free := by
          rw [Bool.and_eq_true, Bool.and_eq_true] at hc'
          simpa using hc'.1.1
        subst this
        exact .inl List.mem_cons_self
      · rw [if_neg hc'] at h
        simp only [List.lookup_cons, hx] at h
        cases h
        rcases hk with rfl | rfl
        · exact .inr List.mem_cons_self
        · exact .inl List.mem_cons_self
    | false =>
      have h' : (r.map fun (n, k) => if (k == NameKind.free && env.scope.kind == .function && env.kindOf n == some .cell) then (n, NameKind.cell) else (n, k)).lookup x = some k := by
        by_cases hc' : (k0 == NameKind.free && env.scope.kind == .function && env.kindOf n == some .cell) = true
        · rw [if_pos hc'] at h; simp only [List.lookup_cons, hx] at h; exact h
        · rw [if_neg hc'] at h; simp only [List.lookup_cons, hx] at h; exact h
      rcases ih h' hk with z | z
      · exact .inl (List.mem_cons_of_mem _ z)
      · exact .inr (List.mem_cons_of_mem _ z)
end L2

set_option Elab.async false
set_option linter.all false
set_option maxRecDepth 100000
namespace L2
open PySem PySem.Spec PyProof.Rows

/-- the context of a comprehension's block: C its own names' dict, s₀ and H₀ as it begins, ex the iterator's objects -/
def cxComp (X : Cx) (scope : Scope) (N : List Str) (C : Addr) (s₀ : Shared) (H₀ : Hp) (ex : List Addr) : Cx where
  prog := X.prog
  w := X.w
  K := X.K
  mg := X.mg
  base := X.base
  A := X.A
  N := N
  s₀ := s₀
  H₀ := H₀
  env := compEnvC scope (closOf scope X.env) C X.env
  outer := X.stack
  stack := X.stack
  ex := ex
  fn := fun _ => false
  calm := X.calm
  pn := []
  xe := fun _ _ => False

/-- the tests of a clause -/
def PTs (X : Cx) (ifs : List Expr) (t : TT) : Prop :=
  ∀ (pins : List (Addr × Obj)) (s : Shared) (σ : St) (H : Hp) (Q : Bool → Hp → Prop), Inv X pins σ H s → t σ H Q →
    wpAny (model X.prog X.w) X.A (forIn ifs true fun c r => if r = true then do let ok ← isTrue c X.env (eval c X.env); pure (ForInStep.yield ok) else pure (ForInStep.yield r)) (TP X pins σ Q) X.xe s
def tTrue : TT := fun _ H Q => Q true H
theorem pts_nil {X : Cx} : PTs X [] tTrue := fun _ _ _ H _ I h => wpAny_tests_nil ⟨H, I, h⟩
theorem pts_one {X : Cx} {c : Expr} {t : TT} (h : PT X c t) : PTs X [c] t := fun pins s σ H Q I q => wpAny_tests_one (h pins s σ H Q I q)

section
variable {prog : Program} {w : World} {A : Around} {R : Result → Shared → Prop} {s : Shared}
theorem comp_loop {elt target iter : Expr} {ifs : List Expr} {scope : Scope} {pos : Pos} {it acc : Value} {env : Env} (I : Nat → Shared → Prop)
    (turn : ∀ n s, I n s → wpAny (model prog w) A (pyNext it) (fun r s₁ => match r with
      | none => R (.ok .next) s₁
      | some v => wpAny (model prog w) A (letOwnedTupleGo target it v) (fun _ s₁' => wpAny (model prog w) A (assign target env v) (fun _ s₂ =>
          wpAny (model prog w) A (forIn ifs true fun c r => if r = true then do let ok ← isTrue c env (eval c env); pure (ForInStep.yield ok) else pure (ForInStep.yield r)) (fun ok s₃ =>
            if ok = true then wpAny (model prog w) A (eval elt env) (fun x s₄ =>
              wpAny (model prog w) A (call (.builtin "list.append") [acc, x]) (fun _ s₅ => ∃ m, m < n ∧ I m s₅) (notedBy (model prog w) A env fun e s' => R (.error e) s') s₄) (notedBy (model prog w) A env fun e s' => R (.error e) s') s₃
            else ∃ m, m < n ∧ I m s₃) (notedBy (model prog w) A env fun e s' => R (.error e) s') s₂) (notedBy (model prog w) A env fun e s' => R (.error e) s') s₁') (notedBy (model prog w) A env fun e s' => R (.error e) s') s₁) (notedBy (model prog w) A env fun e s' => R (.error e) s') s)
    (n : Nat) (h : I n s) :
    codeAny (model prog w) A (.compLoop (.ListComp elt [⟨target, iter, ifs, 0⟩] scope pos) 0 it acc env) R s := by
  refine codeAny_loop rfl I (fun n s hI => ?_) n h
  show wpAny _ A ((compTurn (.ListComp elt [⟨target, iter, ifs, 0⟩] scope pos) 0 it acc env).onRaise (fun x => do noteFrame x env; theTreesLotGoes x)) _ _ s
  refine wpAny_noted ?_
  rw [compTurn_list]
  refine wpAny_bind (wpAny_standAt (wpAny_bind (wpAny_mono (turn n s hI) (fun r s₁ h₁ => ?_) fun _ _ h' => h')))
  cases r with
  | none => exact wpAny_pure h₁
  | some v =>
    refine wpAny_bind (wpAny_mono h₁ (fun _ s₁' h₁' => ?_) fun _ _ h' => h')
    refine wpAny_bind (wpAny_mono h₁' (fun _ s₂ h₂ => wpAny_bind (wpAny_mono h₂ (fun ok s₃ h₃ => ?_) fun _ _ h' => h')) fun _ _ h' => h')
    cases ok with
    | false => exact wpAny_pure ⟨rfl, h₃⟩
    | true =>
      exact wpAny_bind (wpAny_bind (wpAny_mono h₃ (fun x s₄ h₄ => wpAny_bind (wpAny_mono h₄ (fun _ s₅ h₅ => wpAny_pure (wpAny_pure ⟨rfl, h₅⟩)) fun _ _ h' => h')) fun _ _ h' => h'))
end

/-- os: the block's own names; js: the slots of the captured names -/
def caps (σ : St) (js : List Nat) : St := js.map fun j => σ.getD j none
def tCompB (k : Nat) (js : List Nat) (g : TG) (tc : TT) (te : TE) (σ : St) (Q : VK) (J : It) (H1 : Hp) : Prop :=
  ∃ W : Nat → Nat → List V → Hp → Prop, (∃ m, W 0 m [] H1) ∧ ∀ i m ys H, W i m ys H →
    (J.stop i H ∧ ys.length ≤ sizeLine ∧ ∀ D, H D = none → Q (.ref D) (upd H D (.lst ys))) ∨
    (J.go i H ∧ ys.length < sizeLine ∧ ∀ x H', J.yld i H x H' → ∀ os : St, os.length = k → g x (os ++ caps σ js) H' fun σ2 H2 => (∃ os' : St, os'.length = k ∧ σ2 = os' ++ caps σ js) ∧
        tc σ2 H2 fun b H3 => if b = true then te σ2 H3 fun y H4 => ∃ m', m' < m ∧ W (i + 1) m' (ys ++ [y]) H4 else ∃ m', m' < m ∧ W (i + 1) m' ys H3)
def tComp (k : Nat) (js : List Nat) (wi : TI) (g : TG) (tc : TT) (te : TE) : TE := fun σ H Q => wi σ H (tCompB k js g tc te σ Q)

theorem caps_get {σ : St} {js : List Nat} {i : Nat} {v : V} (h : (caps σ js)[i]? = some (some v)) : ∃ j, js[i]? = some j ∧ σ[j]? = some (some v) := by
  unfold caps at h
  rw [List.getElem?_map] at h
  cases e : js[i]? with
  | none => rw [e] at h; cases h
  | some j =>
    rw [e] at h
    have h' : σ.getD j none = some v := Option.some.inj h
    refine ⟨j, rfl, ?_⟩
    rw [List.getD_eq_getElem?_getD] at h'
    cases q : σ[j]? with
    | none => rw [q] at h'; cases h'
    | some o => rw [q] at h'; exact congrArg some h'

set_option maxHeartbeats 1000000 in
theorem pe_comp {X : Cx} {elt iter tg : Expr} {pos : Pos} {ifs : List Expr} {scope : Scope} {wi : TI} {g : TG} {tc : TT} {te : TE} (own : List Str) (js : List Nat) (N' : List Str) (hc : X.calm = true)
    (hi : PI X tg iter wi)
    (hg : ∀ C s₀ H₀ ex, PG (cxComp X scope N' C s₀ H₀ ex) tg g)
    (ht : ∀ C s₀ H₀ ex, PTs (cxComp X scope N' C s₀ H₀ ex) ifs tc)
    (he : ∀ C s₀ H₀ ex, PE (cxComp X scope N' C s₀ H₀ ex) elt te)
    (hN' : N' = own ++ js.map fun j => X.N.getD j Str.empty := by rfl)
    (hk : scope.kind = .function := by rfl)
    (hcell : ∀ y ∈ scope.names, y.2 ≠ .cell := by decide +kernel)
    (hnames : ∀ y ∈ scope.names, y.2 = .local → scope.names.lookup y.1 = some .local := by decide +kernel)
    (hfr : (scope.names.all fun y => y.2 != .free || X.env.scope.names.lookup y.1 == some .cell) = true := by rfl)
    (hjs : (js.all fun j => scope.names.lookup (X.N.getD j Str.empty) == some .free && (X.N[j]?).isSome) = true := by rfl)
    (hs : ∀ z, foldedSetIterable iter X.env z = pure z := by intro _; rfl) :
    PE X (.ListComp elt [⟨tg, iter, ifs, 0⟩] scope pos) (tComp own.length js wi g tc te) := by
  intro pins s σ H Q I h
  have free_cell : ∀ y ∈ scope.names, y.2 = .free → X.env.kindOf y.1 = some .cell := fun y hy hf => by
    have := List.all_eq_true.mp hfr y hy
    rw [hf] at this
    simp at this
    exact this
  have hcl : ∀ y ∈ scope.names, y.2 = .free → ∃ c, X.env.cells.lookup y.1 = some c := fun y hy hf => I.ok.has y.1 (.inl (free_cell y hy hf))
  rw [eval_ListComp]
  refine wpAny_comprehension_free (use := none) rfl hs (closureFor_eq hcl) hk hnames ?_
  refine thn (hi pins s σ H _ I h) fun v s1 h1 => thn h1 fun itv s2 h2 => ?_
  obtain ⟨it, fp, tn, J, H2, e, I2, T, st2, f2, W, ⟨m0, w0⟩, turn⟩ := h2
  subst e
  refine wpAny_newObj_type (wpAny_newFunctionEnv hcell (by intro y hy; simp at hy) (fun h₁ hns₁ hsb₁ => ?_) hk)
  dsimp only at hns₁ hsb₁ ⊢
  generalize hG : s2.heap.push { cls := .type "list", dict := none, data := .seq ([] : List Value).toArray } = G at hns₁ hsb₁ ⊢
  have hC : G.objs.size = s2.heap.objs.size + 1 := by rw [← hG, Heap.size_push]
  have hDC : s2.heap.objs.size ≠ G.objs.size := by rw [hC]; exact Nat.ne_of_lt (Nat.lt_succ_self _)
  have below : ∀ b, b < s2.heap.objs.size → b ≠ G.objs.size ∧ b ≠ s2.heap.objs.size := fun b hb => ⟨by rw [hC]; exact Nat.ne_of_lt (Nat.lt_succ_of_lt hb), Nat.ne_of_lt hb⟩
  have old : ∀ b o, s2.heap.get? b = some o → h₁.get? b = some o := fun b o e => hsb₁.extBut b o (below b (Heap.lt_size e)).1 (Heap.get?_push_of_some _ (hG ▸ Heap.get?_push_of_some _ e))
  have hacc : h₁.get? s2.heap.objs.size = some { cls := .type "list", data := .seq ([] : List Value).toArray 0 } := hsb₁.extBut _ _ hDC (Heap.get?_push_of_some _ (hG ▸ Heap.get?_push_size _ rfl))
  have fplt : ∀ b ∈ fp, b < s2.heap.objs.size := fun b hb => let ⟨_, e, _⟩ := T.obj _ _ st2 b hb; Heap.lt_size e
  have ok' : (cxComp X scope N' G.objs.size s2 H2 fp).Ok := by
    refine ⟨I2.ok.mod, hk, I2.ok.glob, I2.ok.blt, by show s2.heap.objs.size ≤ G.objs.size; rw [hC]; exact Nat.le_succ _, fun x y c e1 e2 => I2.ok.inj x y c (lookup_closOf hcl e1) (lookup_closOf hcl e2), fun x hx => ?_,
      fun x c hx _ => (nomatch hx), I2.ok.hd, I2.ok.frames, .inl rfl, fun b hb => ⟨(below b (fplt b hb)).1, fun x c e => (f2 b hb).2.2.2.2.1 x c (lookup_closOf hcl e)⟩, I2.bs, Nat.le_trans I2.ok.bsz I2.sz, fun b o e hb => ?_, fun b hb z => ?_, I2.stack, I2.stkFree⟩
    · have hx' : (relabel scope X.env).names.lookup x = some .cell ∨ (relabel scope X.env).names.lookup x = some .free := hx
      have : (x, NameKind.free) ∈ scope.names ∨ (x, NameKind.cell) ∈ scope.names := by
        rcases hx' with z | z
        · exact relabel_back z (.inl rfl)
        · exact relabel_back z (.inr rfl)
      rcases this with z | z
      · exact has_closOf z
      · exact absurd rfl (hcell _ z)
    · rcases (f2 b hb).2.2.2.1 with z | z
      · exact I2.ok.noex b o e z
      · have h1 : b < X.base.objs.size := Heap.lt_size e
        exact absurd (Nat.lt_of_lt_of_le h1 (Nat.le_trans I2.ok.bsz z)) (Nat.lt_irrefl _)
    · rcases List.mem_cons.mp (I2.stkSub b z) with e | e
      · exact (f2 b hb).2.1 e
      · exact (f2 b hb).2.2.1 e
  have kindCap : ∀ i y, (js.map fun j => X.N.getD j Str.empty)[i]? = some y → ∃ j, js[i]? = some j ∧ X.N[j]? = some y ∧ scope.names.lookup y = some .free := fun i y e => by
    rw [List.getElem?_map] at e
    cases q : js[i]? with
    | none => rw [q] at e; cases e
    | some j =>
      rw [q] at e
      have e' : X.N.getD j Str.empty = y := Option.some.inj e
      have hj := List.all_eq_true.mp hjs j (List.mem_of_getElem? q)
      rw [Bool.and_eq_true] at hj
      obtain ⟨hj1, hj2⟩ := hj
      rw [e'] at hj1
      obtain ⟨z, hz⟩ := Option.isSome_iff_exists.mp hj2
      rw [List.getD_eq_getElem?_getD, hz] at e'
      exact ⟨j, q, by rw [hz]; exact congrArg some e', by simpa using hj1⟩
  have I0 : ∀ tk : Nat, Inv (cxComp X scope N' G.objs.size s2 H2 fp) [(s2.heap.objs.size, { cls := .type "list", data := .seq ([] : List Value).toArray 0 })] (List.replicate own.length none ++ caps σ js) H2 { s2 with heap := h₁, toks := tk } := fun tk => by
    refine ⟨ok', rfl, I2.bare, Un.kept old, ⟨_, hns₁, fun i y v e1 e2 e3 => ?_⟩, fun x c e => ?_, I2.hok.fresh (by show s2.heap.objs.size ≤ G.objs.size; rw [hC]; exact Nat.le_succ _), fun x c e => I2.freeC x c (lookup_closOf hcl e), fun p hp => ?_, I2.hok.kept old, ?_⟩
    · by_cases hlt : i < own.length
      · rw [List.getElem?_append_left (by simpa using hlt), List.getElem?_replicate] at e2
        split at e2 <;> cases e2
      · have e1' : N'[i]? = some y := e1
        rw [hN', List.getElem?_append_right (by omega)] at e1'
        rw [List.getElem?_append_right (by simpa using hlt), List.length_replicate] at e2
        obtain ⟨j, hj, hs2⟩ := caps_get e2
        obtain ⟨j', hj', hN, hfree⟩ := kindCap _ _ e1'
        rw [hj] at hj'; cases hj'
        obtain ⟨m, hm, hl⟩ := I2.loc
        have hcell' : X.env.kindOf y = some .cell := free_cell (y, .free) (PySem.mem_of_lookup hfree) rfl
        obtain ⟨u, r, l⟩ := hl j y v hN hs2 (.inr (.inl hcell'))
        refine ⟨u, r, ?_⟩
        rcases l with ⟨hk', _⟩ | ⟨hk', c, hc', z⟩
        · rw [hcell'] at hk'; cases hk'
        · obtain ⟨c', e'⟩ := has_closOf (env := X.env) (PySem.mem_of_lookup hfree)
          have := lookup_closOf hcl e'
          rw [hc'] at this; cases this
          refine .inr ⟨.inl (lookup_relabel_free I2.ok.kind hfree hcell'), c, e', ?_⟩
          obtain ⟨o, ho, hd⟩ := z
          exact ⟨o, old _ _ ho, hd⟩
    · obtain ⟨v, o, ho, hd⟩ := I2.cell x c (lookup_closOf hcl e)
      exact ⟨v, o, old _ _ ho, hd⟩
    · have hp' : p = (s2.heap.objs.size, { cls := .type "list", data := .seq ([] : List Value).toArray 0 }) := by
        rcases List.mem_append.mp hp with z | z
        · exact absurd (show p ∈ ([] : List (Addr × Obj)) from z) (by simp)
        · simpa using z
      subst hp'
      refine ⟨hacc, I2.hok.fresh (Nat.le_refl _), hDC, fun z => ?_, fun v z => by cases z⟩
      exact absurd (show s2.heap.objs.size ∈ frs X.stack from z) fun z => by
        rcases List.mem_cons.mp (I2.stkSub _ z) with e | e
        · have := I2.lt
          rw [← e] at this
          exact Nat.lt_irrefl _ this
        · exact I2.nofs (Nat.le_refl _) e
    · show _ = N'.length
      rw [hN']
      simp [caps]
  have stat : ∀ {H' : Hp} {ob : Obj}, (∀ b ∈ fp, H' b = none) → ∀ b ∈ fp, FpOk (cxComp X scope N' G.objs.size s2 H2 fp) [(s2.heap.objs.size, ob)] H' b := fun {H' ob} hn b hb =>
    ⟨hn b hb, (below b (fplt b hb)).1, fun z => ok'.exfs b hb z, .inl hb, fun x c e => (f2 b hb).2.2.2.2.1 x c (lookup_closOf hcl e), fun p hp => by
      have hp' : p = (s2.heap.objs.size, ob) := by
        rcases List.mem_append.mp hp with z | z
        · exact absurd (show p ∈ ([] : List (Addr × Obj)) from z) (by simp)
        · simpa using z
      subst hp'
      exact Ne.symm (below b (fplt b hb)).2⟩
  have loop : ∀ s₃ : Shared, s₃ = { s2 with heap := h₁, toks := s2.toks + ([] : List (Str × Value)).length } →
      codeAny (model X.prog X.w) X.A (.compLoop (.ListComp elt [⟨tg, iter, ifs, 0⟩] scope pos) 0 (.ref it) (.ref s2.heap.objs.size) (compEnvC scope (closOf scope X.env) G.objs.size X.env))
        (compPost (model X.prog X.w) X.A X.xe none (EP X pins σ Q) (.ref s2.heap.objs.size) G.objs.size) s₃ := by
    rintro s₃ rfl
    refine comp_loop (fun n s' => ∃ (i : Nat) (os : St) (H' : Hp) (ys : List V) (its : List Value) (k : Nat), os.length = own.length ∧
      Inv (cxComp X scope N' G.objs.size s2 H2 fp) [(s2.heap.objs.size, { cls := .type "list", data := .seq its.toArray k })] (os ++ caps σ js) H' s' ∧ tn i s'.heap ∧ (∀ b ∈ fp, H' b = none) ∧ Vals ys its ∧ W i n ys H') ?_ m0
      ⟨0, _, H2, [], [], 0, by simp, I0 _, T.keep _ _ _ st2 fun b _ o e => old b o e, fun b hb => (f2 b hb).1, .nil, w0⟩
    rintro n s3 ⟨i, os, H3, ys, its, k, hos, I3, st3, fr3, rv3, w3⟩
    have pinD : ∀ {σ' : St} {H' : Hp} {s' : Shared}, Inv (cxComp X scope N' G.objs.size s2 H2 fp) [(s2.heap.objs.size, { cls := .type "list", data := .seq its.toArray k })] σ' H' s' → s'.heap.get? s2.heap.objs.size = some { cls := .type "list", data := .seq its.toArray k } ∧ H' s2.heap.objs.size = none :=
      fun I => let q := I.pin (s2.heap.objs.size, { cls := .type "list", data := .seq its.toArray k }) (List.mem_append_right _ (by simp)); ⟨q.1, q.2.1⟩
    rcases turn i n ys H3 w3 with ⟨stop, hz, qn⟩ | ⟨go, hz, step⟩
    · refine thn (T.done (cxComp X scope N' G.objs.size s2 H2 fp) rfl rfl rfl hc i _ s3 _ H3 _ I3 (stat fr3) st3 stop) fun r s4 ⟨hr, I4⟩ => ?_
      subst hr
      obtain ⟨hD4, hn4⟩ := pinD I4
      obtain ⟨m, hm, _⟩ := I4.loc
      refine ⟨m, hm, fun h' hsb => ?_⟩
      have b4 := I4.base
      have nC : ∀ b o, s2.heap.get? b = some o → b ≠ G.objs.size := fun b o e => (below b (Heap.lt_size e)).1
      have nD : ∀ b o, s2.heap.get? b = some o → b ≠ s2.heap.objs.size := fun b o e => (below b (Heap.lt_size e)).2
      have hok' : HOk X.prog X.w H3 h' := fun b ob e => by
        refine (I4.hok b ob e).stay (fun c w' hc' q => (hsb.2 c ?_).trans q) (fun _ q => q) fun _ _ q => q
        rintro rfl
        rcases hc' with hc' | hc'
        · rw [← hc', show H3 G.objs.size = none from I4.free] at e; cases e
        · rw [show H3 G.objs.size = none from I4.free] at hc'; cases hc'
      have hD' : h'.get? s2.heap.objs.size = some { cls := .type "list", data := .seq its.toArray k } := (hsb.2 _ hDC).trans hD4
      refine ⟨.ref s2.heap.objs.size, upd H3 s2.heap.objs.size (.lst ys), ?_, rfl, qn _ hn4⟩
      refine I2.call' (ch := fp) I4.os ⟨fun b o e n hb hx => ?_, fun b o e n hb hx => ?_, fun b o e n hx => ?_, fun b o e hx => ?_, fun b xs q => ?_, fun b o u q => ?_, fun b ps q => ?_⟩ (hok'.track hn4 ⟨hz, its, k, rv3, hD'⟩) I4.bare fun b hb => ⟨(f2 b hb).2.2.2.1, (f2 b hb).2.1, (f2 b hb).2.2.2.2.1, (f2 b hb).2.2.2.2.2⟩
      · exact (hsb.2 b (nC b o e)).trans (b4.keep b o e n hb hx)
      · obtain ⟨sl, e1⟩ := b4.slot b o e n hb hx
        exact ⟨sl, (hsb.2 b (nC b o e)).trans e1⟩
      · rw [upd_ne (nD b o e)]; exact b4.free b o e n hx
      · obtain ⟨o', e1⟩ := b4.there b o e hx
        exact ⟨o', (hsb.2 b (nC b o e)).trans e1⟩
      · have z := b4.tups b xs q
        rw [upd_ne (ne_of_none z hn4)]; exact z
      · have z := b4.frzs b o u q
        rw [upd_ne (ne_of_none z hn4)]; exact z
      · obtain ⟨more, z⟩ := b4.tbls b ps q
        exact ⟨more, by rw [upd_ne (ne_of_none z hn4)]; exact z⟩
    · refine thn (T.item (cxComp X scope N' G.objs.size s2 H2 fp) rfl rfl rfl hc i _ s3 _ H3 _ I3 (stat fr3) st3 go) fun r s4 ⟨u, hr, h4⟩ => ?_
      subst hr
      refine thn h4 fun _ s5 ⟨x, H5, I5, r5, y5, st5, fr5⟩ => ?_
      have fpo := T.obj _ _ st5
      have I5' := I5.pinned (stat fr5) fpo
      refine wpAny_mono (hg _ _ _ _ _ s5 _ H5 x u _ I5' r5 (step x H5 y5 os hos)) (fun _ s6 ⟨σ6, H6, I6, ⟨os', hos', e6⟩, q6⟩ => ?_) fun _ _ z => False.elim z
      subst e6
      refine wpAny_mono (ht _ _ _ _ _ s6 _ H6 _ I6 q6) (fun ok s7 ⟨H7, I7, q7⟩ => ?_) fun _ _ z => False.elim z
      have keepFp : ∀ {σ' : St} {H' : Hp} {s' : Shared}, Inv (cxComp X scope N' G.objs.size s2 H2 fp) ([(s2.heap.objs.size, { cls := .type "list", data := .seq its.toArray k })] ++ pinsAt fp s5.heap) σ' H' s' → tn (i + 1) s'.heap ∧ ∀ b ∈ fp, H' b = none := fun I => by
        refine ⟨T.keep _ _ _ st5 fun b hb o e => (I.pin (b, o) (List.mem_append_right _ (List.mem_append_right _ (mem_pinsAt hb e)))).1, fun b hb => ?_⟩
        obtain ⟨o, e, d⟩ := fpo b hb
        exact (I.pin (b, o) (List.mem_append_right _ (List.mem_append_right _ (mem_pinsAt hb e)))).2.1
      cases ok with
      | false =>
        obtain ⟨m', hm', w'⟩ := q7
        obtain ⟨k1, k2⟩ := keepFp I7
        exact ⟨m', hm', i + 1, os', H7, ys, its, k, hos', I7.unpinned, k1, k2, rv3, w'⟩
      | true =>
        rw [if_pos rfl]
        refine wpAny_mono (he _ _ _ _ _ s7 _ H7 _ I7 q7) (fun yv s8 ⟨y, H8, I8, r8, q8⟩ => ?_) fun _ _ z => False.elim z
        obtain ⟨m', hm', w'⟩ := q8
        obtain ⟨k1, k2⟩ := keepFp I8
        have I8' := I8.unpinned
        obtain ⟨hD8, hn8⟩ := pinD I8'
        have hil : its.length < sizeLine := by rw [← rv3.length]; exact hz
        refine call_meets F.slot_list_append ⟨_, hD8, rfl⟩ F.entry_list_append (F.args_list_append_2 _ _) (PySem.list_append _ its.toArray k yv (by rw [List.size_toArray]; omega)) ⟨hD8, ?_⟩
        have q : (s8.heap.update s2.heap.objs.size (Obj.mapSeq fun a => a.push yv)).get? s2.heap.objs.size = some { cls := .type "list", data := .seq (its ++ [yv]).toArray (if (its.toArray.push yv).size == its.toArray.size then k else k + 1) } := by
          have q0 := PySem.IsL.update hD8 (fun a : Array Value => a.push yv)
          have ea : its.toArray.push yv = (its ++ [yv]).toArray := by simp
          rw [← ea]
          exact q0
        refine ⟨m', hm', i + 1, os', H8, ys ++ [y], its ++ [yv], (if (its.toArray.push yv).size == its.toArray.size then k else k + 1), hos', ?_, T.keep _ _ _ k1 fun b hb o e => (Heap.get?_update_other s8.heap _ (below b (fplt b hb)).2.symm).trans e, k2, rv3.append (.cons r8 .nil), w'⟩
        have In : Inv (cxComp X scope N' G.objs.size s2 H2 fp) [] (os' ++ caps σ js) H8 s8 := I8'.pins_of fun p hp => absurd hp (by simp)
        have It : Inv (cxComp X scope N' G.objs.size s2 H2 fp) [] (os' ++ caps σ js) H8 { s8 with heap := s8.heap.update s2.heap.objs.size (Obj.mapSeq fun a => a.push yv) } :=
          In.turned (it := s2.heap.objs.size) (t' := s8.toks) (fun b o hb e => (Heap.get?_update_other s8.heap _ (Ne.symm hb)).trans e) hn8 hDC (.inr (Nat.le_refl _)) (fun x c e z => by
            obtain ⟨v, o, ho, hd⟩ := I8'.cell x c e
            rw [z, hD8] at ho
            cases ho
            cases hd) fun p hp => absurd hp (by simp [cxComp])
        refine It.pins_of fun p hp => ?_
        have hp' : p = (s2.heap.objs.size, { cls := .type "list", data := .seq (its ++ [yv]).toArray (if (its.toArray.push yv).size == its.toArray.size then k else k + 1) }) := List.mem_singleton.mp hp
        subst hp'
        exact ⟨q, hn8, hDC, (I8'.pin _ (List.mem_append_right _ (List.mem_singleton.mpr rfl))).2.2.2.1, fun v z => by cases z⟩
  exact codeAny_compStart_list (loop _ rfl) (T.self _ 0 _ _ _ (T.keep _ _ _ st2 fun b _ o e => old b o e) (loop _ rfl))
end L2

set_option Elab.async false
set_option linter.all false
set_option maxRecDepth 100000
namespace L2
open PySem PySem.Spec PyProof.Rows
section
variable {X : Cx}

/-! isinstance(x, T), T a built-in type -/
theorem call_isi : CallR X (.builtin "isinstance") (fun xs H Q => ∃ x n t b, xs = [x, .ty n] ∧ TyOf X.K H x t ∧ PySem.W.kitOne X.K t (.type n) = some b ∧ Q (.bl b) H) := by
  intro pins s σ H xs us Q I r h
  obtain ⟨x, n, t, b, rfl, ty, e, q⟩ := h
  obtain ⟨u, c, rfl, rx, rc⟩ := r.two
  cases (show c = Value.type n from rc)
  exact isinst_ok I rx ty e fun tk => ⟨.bl b, H, I.tok tk, rfl, q⟩

/-! `x is c`, c True or False -/

/-! all(xs), any(xs) of a list of truths -/
theorem bools_are : ∀ {bs : List Bool} {us : List Value}, Vals (bs.map V.bl) us → LSm.BoolsAre us bs
  | [], _, .nil => .nil
  | b :: bs, _, .cons r t => by
    cases r
    exact .cons b (bools_are t)
theorem call_all (hc : X.calm = true) : CallR X (.builtin "all") (fun xs H Q => ∃ (p : Addr) (bs : List Bool), xs = [.ref p] ∧ SqL X.K H p (bs.map V.bl) ∧ Q (.bl (bs.all id)) H) := by
  intro pins s σ H xs us Q I r h
  obtain ⟨p, bs, rfl, hq, q⟩ := h
  obtain ⟨u, rfl, rx⟩ := r.one
  cases rx
  obtain ⟨its, rv, pl, hz⟩ := I.list hq
  have hb := bools_are rv
  have hl := pl.isList
  have hlt : p < s.heap.objs.size := by obtain ⟨_, e, _⟩ := hl; exact Heap.lt_size e
  refine call_all_walk (wpAny_pyIter_list hl ?_)
  refine ⟨s.heap.objs.size, [s.heap.objs.size, p], [s.heap.objs.size], its.toArray.size, _, _, fun i => (bs[i]?).getD true, rfl, Walks.list (A := X.A.in1) (I.ok.hd hc) _ p (Nat.ne_of_lt hlt) its.toArray,
    ⟨⟨_, Heap.get?_push_size _ rfl, rfl, rfl⟩, hl.push _⟩, fun i v s' Q' E' hP hQ => ?_, fun h' tk hk => ?_⟩
  · obtain ⟨b, e, rfl⟩ := hb.get i v (by simpa using hP)
    simp only [e, Option.getD_some] at hQ
    exact wpAny_truthy_bool hQ
  · have e : ((List.range its.toArray.size).all fun i => (bs[i]?).getD true) = bs.all id := by
      rw [List.size_toArray, hb.length]; exact LSm.range_all bs
    rw [e]
    exact ⟨.bl _, H, I.kept (LSm.kept_iter hk), rfl, q⟩

/-! texts: split, join, index, slices, int() -/
theorem strs_are : ∀ {ys : List Str} {us : List Value}, Vals (ys.map V.str) us → StrsAre us ys
  | [], _, .nil => .nil
  | y :: ys, _, .cons r t => by
    obtain ⟨k, rfl⟩ := r
    exact .cons y k (strs_are t)
def rJoin (K : PySem.W.Frag) : V → List V → Hp → VK → Prop := fun x vs H Q => ∃ z p ys, x = .str z ∧ vs = [.ref p] ∧ SqL K H p (ys.map V.str) ∧ (ys.map (·.length)).sum + ys.length * z.length ≤ 16777216 ∧ Q (.str (Txt.join z ys)) H
theorem mt_join : MtR X "str.join" (rJoin X.K) := by
  intro pins s σ H x vs v us Q I rx rv h
  obtain ⟨z, p, ys, rfl, rfl, hq, hz, q⟩ := h
  obtain ⟨t, rfl⟩ := rx
  obtain ⟨u, rfl, ru⟩ := rv.one
  cases ru
  obtain ⟨its, r, pl, _⟩ := I.list hq
  exact join_list pl.isList (strs_are r) hz fun t' k => ⟨.str _, H, I.tok k, ⟨t', rfl⟩, q⟩

/-! == and != of two lists of flat items -/
theorem eqV_refl : ∀ {x : V}, flatV x = true → eqV x x = true
  | .non, _ => rfl
  | .bl b, _ => by cases b <;> rfl
  | .int i, _ => by show (i == i) = true; simp
  | .str x, _ => by show (x == x) = true; simp
end
end L2

set_option Elab.async false
set_option linter.all false
set_option maxRecDepth 100000
namespace L2
open PySem PySem.Spec PyProof.Rows

/-! a def of the text, and what is known of it -/
structure Def (K : PySem.W.Frag) (mg : Str → Option Value) (x : Str) (st : Stmt) (ps : List Str) : Prop where
  ex : ∃ f fd, Fun K x x st f fd ∧ mg x = some (.ref f) ∧ Binds K fd ps []
def Knows (P : Program) (w : World) (K : PySem.W.Frag) (mg : Str → Option Value) (base : Heap) (k : Nat) (x : Str) (ps : List Str) (sp : Sp) : Prop :=
  ∃ f fd, mg x = some (.ref f) ∧ PySem.W.keepIn K (.ref f) = true ∧ Binds K fd ps [] ∧ FnOk P w K mg base CX0 k f fd ps sp
section
variable {P : Program} {w : World} {K : PySem.W.Frag} {mg : Str → Option Value} {base : Heap}
/-- a def by its body: N its names, t the reading -/
theorem Def.ok {x : Str} {st : Stmt} {N ps : List Str} {k : Nat} {sp : Sp} (D : Def K mg x st ps) (S : FnScope N ps (defScope st)) (len : ∀ vs H Q E, sp vs H Q E → vs.length = ps.length)
    (hbody : ∀ (f : Addr) (cdv : Value) (A : Around) (outer : List Env) (s : Shared) (H : Hp) (vs : List V) (Q : VK) (E : XK), Room k (A.deeper (envOfC x (defScope st) s.heap.objs.size f cdv)) → sp vs H Q E →
      ∃ t, PSs (cxOf CX0 P w K mg base N x (defScope st) f cdv A outer s H E).nox (defBody st) t ∧ t { nx := fun _ H' => Q .non H', rt := Q } (start N vs) H) : Knows P w K mg base (k + 1) x ps sp := by
  obtain ⟨f, fd, F, hm, hb⟩ := D.ex
  exact ⟨f, fd, hm, F.kp, hb, F.ok S len fun cdv A outer s H vs Q E hr h => hbody f cdv A outer s H vs Q E hr h⟩
end
section
variable {X : Cx} {x : Str} {ps : List Str} {sp : Sp} {k : Nat} {e : Expr} {es : List Expr} {t : TA} {p pos : Pos}
theorem pe_callN (F : Knows X.prog X.w X.K X.mg X.base k x ps sp) (hr : Room k X.A) (ha : PA X (e :: es) t) (hg : Gl X x := by rfl) (hdb : (x == ("__debug__" : Str)) = false := by decide)
    (he : starEach (e :: es) X.env = (false, eval e X.env) :: starEach es X.env := by rfl) (hpl : (backTo pos (starEach es X.env)).any (·.1) = false := by rfl) : PE X (.Call (.Name x p) (e :: es) [] pos) (tCall sp [] E0 t) := by
  obtain ⟨f, fd, hm, hk, hb, F⟩ := F
  exact pe_call F hr hg hm hk hb .nil pass0 ha hdb he hpl
end

/-! built-in names -/
structure Bltn (mg : Str → Option Value) : Prop where
  isi : mg "isinstance" = none
  len : mg "len" = none
  all : mg "all" = none
  int : mg "int" = none
  bool : mg "bool" = none
  str : mg "str" = none
  list : mg "list" = none
  range : mg "range" = none
def rIsi (K : PySem.W.Frag) (n : String) : List V → Hp → VK → Prop := fun xs H Q => ∃ x t b, xs = [x, .ty n] ∧ TyOf K H x t ∧ PySem.W.kitOne K t (.type n) = some b ∧ Q (.bl b) H
section
variable {X : Cx} {a : Expr} {ta : TE} {p pos p2 : Pos}
theorem call_isiN (n : String) : CallR X (.builtin "isinstance") (rIsi X.K n) := by
  intro pins s σ H xs us Q I r h
  obtain ⟨x, t, b, rfl, ty, e, q⟩ := h
  exact call_isi pins s σ H _ us Q I r ⟨x, n, t, b, rfl, ty, e, q⟩
theorem pe_isi {T : Str} {n : String} (h : X.mg "isinstance" = none) (hT : X.mg T = none) (hv : bootBuiltins T = some (.type n)) (ha : PE X a ta) (hg : Gl X "isinstance" := by rfl) (hg2 : Gl X T := by rfl)
    (hn : T ≠ "__name__" := by decide) (hd : (T == ("__debug__" : Str)) = false := by decide)
    (he : starEach [a, .Name T p2] X.env = (false, eval a X.env) :: starEach [.Name T p2] X.env := by rfl) (he2 : starEach [.Name T p2] X.env = (false, eval (.Name T p2) X.env) :: starEach [] X.env := by rfl) (hpl : (backTo pos (starEach [.Name T p2] X.env)).any (·.1) = false := by rfl) :
    PE X (.Call (.Name "isinstance" p) [a, .Name T p2] [] pos) (tCB (rIsi X.K n) (tCons ta (tCons (tC (.ty n)) tNil))) :=
  pe_callB (call_isiN n) hg h boot_isinstance (pa_cons ha (pa_cons (pe_bltn (v := .ty n) hg2 hT hv rfl hn hd) pa_nil he2) he) (by decide) (by decide) he hpl
end
/-- a built-in type's kinds -/
def isI : V → Bool
  | .int _ => true
  | _ => false
def isIB : V → Bool
  | .int _ => true
  | .bl _ => true
  | _ => false
def isBl : V → Bool
  | .bl _ => true
  | _ => false
theorem isiI {K : PySem.W.Frag} {H : Hp} {x : V} {m : String} (ty : TyOf K H x (.type m)) : PySem.W.kitOne K (.type m) (.type "int") = some (isIB x) := by
  cases ty <;> kernel_rfl
theorem isiB {K : PySem.W.Frag} {H : Hp} {x : V} {m : String} (ty : TyOf K H x (.type m)) : PySem.W.kitOne K (.type m) (.type "bool") = some (isBl x) := by
  cases ty <;> kernel_rfl
/-! a comprehension of one own name -/
theorem pe_comp1 {X : Cx} {elt iter : Expr} {x : Str} {px pos : Pos} {ifs : List Expr} {scope : Scope} {wi : TI} {tc : TT} {te : TE} (js : List Nat) (N' : List Str) (hc : X.calm = true)
    (hi : PI X (.Name x px) iter wi)
    (ht : ∀ C s₀ H₀ ex, PTs (cxComp X scope N' C s₀ H₀ ex) ifs tc)
    (he : ∀ C s₀ H₀ ex, PE (cxComp X scope N' C s₀ H₀ ex) elt te)
    (nd : N'.Nodup := by decide +kernel)
    (hx : scope.names.lookup x = some .local := by rfl)
    (hN' : N' = [x] ++ js.map fun j => X.N.getD j Str.empty := by rfl)
    (hk : scope.kind = .function := by rfl)
    (hcell : ∀ y ∈ scope.names, y.2 ≠ .cell := by decide +kernel)
    (hnames : ∀ y ∈ scope.names, y.2 = .local → scope.names.lookup y.1 = some .local := by decide +kernel)
    (hfr : (scope.names.all fun y => y.2 != .free || X.env.scope.names.lookup y.1 == some .cell) = true := by rfl)
    (hjs : (js.all fun j => scope.names.lookup (X.N.getD j Str.empty) == some .free && (X.N[j]?).isSome) = true := by rfl)
    (hs : ∀ z, foldedSetIterable iter X.env z = pure z := by intro _; rfl) :
    PE X (.ListComp elt [⟨.Name x px, iter, ifs, 0⟩] scope pos) (tComp 1 js wi (gName 0) tc te) :=
  pe_comp [x] js N' hc hi (fun C s₀ H₀ ex => pg_name (X := cxComp X scope N' C s₀ H₀ ex) (i := 0) nd (by show N'[0]? = some x; rw [hN']; rfl) (Or.inl (lookup_relabel_local hx)) (.inr (lookup_relabel_local hx))) ht he hN' hk hcell hnames hfr hjs hs
/-! over a known row -/
theorem comp1_wk {js : List Nat} {J : It} {xs : List V} {Pp : Hp → Prop} {σ : St} {H1 : Hp} {tc : TT} {te : TE} {Q : VK} (wk : Wk J xs Pp) (Pv : Nat → List V → Hp → Prop) (h0 : Pv 0 [] H1) (hP : ∀ i ys H, i ≤ xs.length → Pv i ys H → Pp H ∧ ys.length ≤ i) (hsz : xs.length ≤ sizeLine)
    (hs : ∀ i x ys H (Nx : List V → Hp → Prop), xs[i]? = some x → Pv i ys H → (∀ ys' H', Pv (i + 1) ys' H' → Nx ys' H') → tc (some x :: caps σ js) H fun b H3 => if b = true then te (some x :: caps σ js) H3 fun y H4 => Nx (ys ++ [y]) H4 else Nx ys H3)
    (hd : ∀ ys H, Pv xs.length ys H → ∀ D, H D = none → Q (.ref D) (upd H D (.lst ys))) :
    tCompB 1 js (gName 0) tc te σ Q J H1 := by
  refine ⟨fun i m ys H => m = xs.length - i ∧ i ≤ xs.length ∧ Pv i ys H, ⟨xs.length, by simp, Nat.zero_le _, h0⟩, ?_⟩
  rintro i m ys H ⟨rfl, hi, p⟩
  obtain ⟨q, hl⟩ := hP i ys H hi p
  by_cases hlt : i < xs.length
  · refine .inr ⟨wk.go i H hlt q, by omega, fun x H' y os hos => ?_⟩
    obtain ⟨e, y2⟩ := wk.yld i H x H' q y
    subst e
    match os, hos with
    | [v0], _ =>
      exact ⟨⟨[some x], rfl, rfl⟩, hs i x ys _ (fun ys' H' => ∃ m', m' < xs.length - i ∧ m' = xs.length - (i + 1) ∧ i + 1 ≤ xs.length ∧ Pv (i + 1) ys' H') (y2 hlt) p fun ys' H' p' => ⟨xs.length - (i + 1), by omega, rfl, hlt, p'⟩⟩
  · have e : i = xs.length := by omega
    subst e
    exact .inl ⟨wk.stop H q, by omega, hd ys H p⟩
/-! an expression's value by what is true of it, then the rest -/
theorem tTrue_use {σ : St} {H : Hp} {A B : Hp → Prop} (h : A H) : tTrue σ H fun b H3 => if b = true then A H3 else B H3 := by
  show if true = true then A H else B H
  exact iteT h
end L2

set_option Elab.async false
set_option linter.all false
set_option maxRecDepth 100000
namespace L2
open PySem PySem.Spec PyProof.Rows
/-! no starred argument: told once -/
def notStar : Expr → Bool
  | .Starred _ _ => false
  | _ => true
theorem star_cons {e : Expr} {es : List Expr} {env : Env} (h : notStar e = true) : starEach (e :: es) env = (false, eval e env) :: starEach es env := by
  cases e <;> first | rfl | (exact absurd (show false = true from h) Bool.false_ne_true)
theorem star_none {pos : Pos} {env : Env} : ∀ {es : List Expr}, es.all notStar = true → (backTo pos (starEach es env)).any (·.1) = false
  | [], _ => rfl
  | e :: es, h => by
    rw [List.all_cons, Bool.and_eq_true] at h
    rw [star_cons h.1]
    show (false || (backTo pos (starEach es env)).any (·.1)) = false
    rw [star_none h.2]
    rfl
section
variable {X : Cx} {x : Str} {ps : List Str} {sp : Sp} {j k : Nat} {e : Expr} {es : List Expr} {te : TE} {t : TA} {p pos : Pos} {id T : String} {r : List V → Hp → VK → Prop}
theorem pa_c (ha : PE X e te) (hr : PA X es t) (hn : notStar e = true := by rfl) : PA X (e :: es) (tCons te t) := pa_cons ha hr (star_cons hn)
theorem pe_callM (F : Knows X.prog X.w X.K X.mg X.base j x ps sp) (hr : Room k X.A) (ha : PA X (e :: es) t) (hjk : j ≤ k := by decide) (hg : Gl X x := by rfl) (hdb : (x == ("__debug__" : Str)) = false := by decide)
    (he : notStar e = true := by rfl) (hpl : es.all notStar = true := by rfl) : PE X (.Call (.Name x p) (e :: es) [] pos) (tCall sp [] E0 t) :=
  pe_callN F (hr.mono hjk) ha hg hdb (star_cons he) (star_none hpl)
theorem pe_bcall (hc : CallR X (.builtin id) r) (hg : Gl X x) (hm : X.mg x = none) (hv : bootBuiltins x = some (.builtin id)) (ha : PA X (e :: es) t) (hn : x ≠ "__name__" := by decide) (hdb : (x == ("__debug__" : Str)) = false := by decide)
    (he : notStar e = true := by rfl) (hpl : es.all notStar = true := by rfl) : PE X (.Call (.Name x p) (e :: es) [] pos) (tCB r t) := pe_callB hc hg hm hv ha hn hdb (star_cons he) (star_none hpl)
theorem pe_tcall (hc : CallR X (.type T) r) (hg : Gl X x) (hm : X.mg x = none) (hv : bootBuiltins x = some (.type T)) (ha : PA X (e :: es) t) (hn : x ≠ "__name__" := by decide) (hdb : (x == ("__debug__" : Str)) = false := by decide)
    (he : notStar e = true := by rfl) (hpl : es.all notStar = true := by rfl) : PE X (.Call (.Name x p) (e :: es) [] pos) (tCB r t) := pe_callTy hc hg hm hv ha hn hdb (star_cons he) (star_none hpl)
end
section
variable {X : Cx} {o e : Expr} {es : List Expr} {to : TE} {t : TA} {name : Str} {apos cpos : Pos} {T id : String} {r : V → List V → Hp → VK → Prop}
theorem star_few {pos : Pos} {env : Env} : ∀ {es : List Expr}, es.all notStar = true → (backTo pos (starEach es env)).all (fun x => !x.1) = true
  | [], _ => rfl
  | e :: es, h => by
    rw [List.all_cons, Bool.and_eq_true] at h
    rw [star_cons h.1]
    show (true && (backTo pos (starEach es env)).all (fun x => !x.1)) = true
    rw [star_few h.2]
    rfl
theorem pe_mcall (pa : PlainAttrs T) (slot : Slot T name id) (hty : typeOf (.builtin id) = pure (.type "method_descriptor")) (hm : MtR X id r) (ho : PE X o to) (ha : PA X (e :: es) t)
    (hbase : attributeBase o name X.env (eval o X.env) = eval o X.env := by rfl) (he : notStar e = true := by rfl) (hpl : es.all notStar = true := by rfl) (hlen : (e :: es).length < 30 := by decide)
    (hline : (apos.endLine == cpos.line) = true := by rfl) : PE X (.Call (.Attribute o name apos) (e :: es) [] cpos) (tBM X.K T r to t) := by
  refine pe_bm pa slot hty hm ho ha hbase ?_ hline (star_cons he) (star_none hpl)
  rw [star_few (by rw [List.all_cons, he, hpl]; rfl)]
  show (true && true && decide ((e :: es).length + 0 + 0 < 30)) = true
  rw [decide_eq_true (by omega)]
  rfl
end
section
variable {X : Cx} {a : Expr} {ta : TE} {p pos p2 : Pos}
theorem pe_isiM {T : Str} {n : String} (h : X.mg "isinstance" = none) (hT : X.mg T = none) (hv : bootBuiltins T = some (.type n)) (ha : PE X a ta) (hg : Gl X "isinstance" := by rfl) (hg2 : Gl X T := by rfl)
    (hn : T ≠ "__name__" := by decide) (hd : (T == ("__debug__" : Str)) = false := by decide) (he : notStar a = true := by rfl) :
    PE X (.Call (.Name "isinstance" p) [a, .Name T p2] [] pos) (tCB (rIsi X.K n) (tCons ta (tCons (tC (.ty n)) tNil))) :=
  pe_isi h hT hv ha hg hg2 hn hd (star_cons he) (star_cons rfl) (star_none rfl)
theorem ix_listC {K0 : PySem.W.Frag} (hK : X.K = K0) : IxR X (rIxL K0) := by subst hK; exact ix_list
theorem ix_tupC {K0 : PySem.W.Frag} (hK : X.K = K0) : IxR X (rIxT K0) := by subst hK; exact ix_tup
end
theorem Same.upd {H H1 : Hp} {p : Addr} {o : HO} (s : Same H H1) (h : H p = none) : Same H (L2.upd H1 p o) := fun b u e => by
  rw [upd_ne (ne_of_none e h)]; exact s b u e
theorem atI_mem {α : Type} {xs : List α} {i : Int} (h0 : 0 ≤ i) (h1 : i < xs.length) : ∃ v, atI xs i = some v ∧ v ∈ xs ∧ xs[i.toNat]? = some v := by
  have hj : i.toNat < xs.length := by omega
  refine ⟨xs[i.toNat], ?_, List.getElem_mem hj, by simp [hj]⟩
  have h := atI_nat (xs := xs) (j := i.toNat) (v := xs[i.toNat]) (by simp [hj])
  rwa [show ((i.toNat : Nat) : Int) = i by omega] at h
theorem ite_b {c : Bool} {A B : Prop} (h1 : c = true → A) (h2 : c = false → B) : if c = true then A else B := by
  cases c
  · exact iteF (h2 rfl)
  · exact iteT (h1 rfl)
theorem if_use {c : TT} {t u r : TS} {D : Ends} {σ : St} {H : Hp} (Post : Bool → Hp → Prop) (hc : ∀ Q', (∀ b H', Post b H' → Q' b H') → c σ H Q') (kt : ∀ H', Post true H' → t { D with nx := r D } σ H') (kf : ∀ H', Post false H' → u { D with nx := r D } σ H') : tSeq (tIfS c t u) r D σ H := hc _ fun b H' p => by
  cases b
  · exact iteF (kf H' p)
  · exact iteT (kt H' p)
theorem seq_use {te : TE} {g : TG} {u : TS} {D : Ends} {σ : St} {H : Hp} (Post : V → Hp → Prop) (hg : ∀ Q', (∀ v H', Post v H' → Q' v H') → te σ H Q') (k : ∀ v H', Post v H' → g v σ H' (u D)) : tSeq (tAsg te g) u D σ H := hg _ k
end L2

set_option Elab.async false
set_option linter.all false
set_option maxRecDepth 100000
namespace L2
open PySem PySem.Spec PyProof.Rows

/-! data: flat values, lists and tuples of data, as trees -/
inductive D where
  | a (v : V)
  | l (xs : List D)
  | t (xs : List D)
mutual
inductive Rep (K : PySem.W.Frag) (H : Hp) : V → D → Prop
  | a {v : V} (f : flatV v = true) : Rep K H v (.a v)
  | l {p : Addr} {vs : List V} {ds : List D} (h : SqL K H p vs) (r : Reps K H vs ds) : Rep K H (.ref p) (.l ds)
  | t {p : Addr} {vs : List V} {ds : List D} (h : SqT K H p vs) (r : Reps K H vs ds) : Rep K H (.ref p) (.t ds)
inductive Reps (K : PySem.W.Frag) (H : Hp) : List V → List D → Prop
  | nil : Reps K H [] []
  | cons {v : V} {d : D} {vs : List V} {ds : List D} (r : Rep K H v d) (rs : Reps K H vs ds) : Reps K H (v :: vs) (d :: ds)
end
mutual
def eqD : D → D → Bool
  | .a v, .a w => eqV v w
  | .l xs, .l ys => eqDs xs ys
  | .t xs, .t ys => eqDs xs ys
  | _, _ => false
def eqDs : List D → List D → Bool
  | [], [] => true
  | x :: xs, y :: ys => eqD x y && eqDs xs ys
  | _, _ => false
end
mutual
def depD : D → Nat
  | .a _ => 0
  | .l xs => depDs xs + 1
  | .t xs => depDs xs + 1
def depDs : List D → Nat
  | [] => 0
  | x :: xs => max (depD x) (depDs xs)
end
mutual
def flatD : D → Bool
  | .a v => flatV v
  | .l xs => flatDs xs
  | .t xs => flatDs xs
def flatDs : List D → Bool
  | [] => true
  | x :: xs => flatD x && flatDs xs
end
mutual
theorem eqD_refl : ∀ d : D, flatD d = true → eqD d d = true
  | .a v, h => by
    unfold eqD
    exact eqV_refl (by unfold flatD at h; exact h)
  | .l xs, h => by
    unfold eqD
    exact eqDs_refl xs (by unfold flatD at h; exact h)
  | .t xs, h => by
    unfold eqD
    exact eqDs_refl xs (by unfold flatD at h; exact h)
theorem eqDs_refl : ∀ ds : List D, flatDs ds = true → eqDs ds ds = true
  | [], _ => by unfold eqDs; rfl
  | d :: ds, h => by
    unfold flatDs at h
    rw [Bool.and_eq_true] at h
    unfold eqDs
    rw [eqD_refl d h.1, eqDs_refl ds h.2]
    rfl
end
theorem Reps.len {K : PySem.W.Frag} {H : Hp} : ∀ {vs : List V} {ds : List D}, Reps K H vs ds → vs.length = ds.length
  | _, _, .nil => rfl
  | _, _, .cons _ t => by rw [List.length_cons, List.length_cons, t.len]
mutual
theorem Rep.flat {K : PySem.W.Frag} {H : Hp} : ∀ {v : V} {d : D}, Rep K H v d → flatD d = true
  | _, _, .a f => by unfold flatD; exact f
  | _, _, .l _ r => by unfold flatD; exact r.flat
  | _, _, .t _ r => by unfold flatD; exact r.flat
theorem Reps.flat {K : PySem.W.Frag} {H : Hp} : ∀ {vs : List V} {ds : List D}, Reps K H vs ds → flatDs ds = true
  | _, _, .nil => by unfold flatDs; rfl
  | _, _, .cons r t => by
    unfold flatDs
    rw [r.flat, t.flat]
    rfl
end
theorem depDs_mem : ∀ {ds : List D} {d : D}, d ∈ ds → depD d ≤ depDs ds
  | d :: ds, e, h => by
    unfold depDs
    rcases List.mem_cons.mp h with rfl | h
    · exact Nat.le_max_left _ _
    · exact Nat.le_trans (depDs_mem h) (Nat.le_max_right _ _)
theorem eqDs_len : ∀ {xs ys : List D}, xs.length ≠ ys.length → eqDs xs ys = false
  | [], [], h => absurd rfl h
  | [], _ :: _, _ => by unfold eqDs; rfl
  | _ :: _, [], _ => by unfold eqDs; rfl
  | x :: xs, y :: ys, h => by
    unfold eqDs
    rw [eqDs_len (fun e => h (by simp [e])), Bool.and_false]
theorem eqDs_range : ∀ {xs ys : List D}, xs.length = ys.length → ((List.range xs.length).all fun j => eqD (xs.getD j (.l [])) (ys.getD j (.l []))) = eqDs xs ys
  | [], [], _ => by unfold eqDs; rfl
  | [], _ :: _, h => by simp at h
  | _ :: _, [], h => by simp at h
  | x :: xs, y :: ys, h => by
    have ih := eqDs_range (xs := xs) (ys := ys) (by simpa using h)
    unfold eqDs
    rw [← ih, List.length_cons, List.range_succ_eq_map, List.all_cons, List.all_map]
    rfl
section
variable {X : Cx} {pins : List (Addr × Obj)} {σ : St} {H : Hp} {s : Shared}
theorem SqL.notT (I : Inv X pins σ H s) {p : Addr} {xs ys : List V} (h : SqL X.K H p xs) (h' : SqT X.K H p ys) : False := by
  obtain ⟨_, _, pl, _⟩ := I.list h
  obtain ⟨_, _, pt, _⟩ := I.tuple h'
  exact SeqAt.ne_of_list_tuple pl.isList pt rfl
mutual
theorem Rep.inj (I : Inv X pins σ H s) : ∀ {v : V} {d e : D}, Rep X.K H v d → Rep X.K H v e → d = e
  | _, _, _, .a f, .a _ => rfl
  | _, _, _, .a f, .l _ _ => absurd (show false = true from f) Bool.false_ne_true
  | _, _, _, .a f, .t _ _ => absurd (show false = true from f) Bool.false_ne_true
  | _, _, _, .l _ _, .a f => absurd (show false = true from f) Bool.false_ne_true
  | _, _, _, .t _ _, .a f => absurd (show false = true from f) Bool.false_ne_true
  | _, _, _, .l h r, .l h' r' => by
    have e := I.list_inj h h'
    subst e
    rw [Reps.inj I r r']
  | _, _, _, .t h r, .t h' r' => by
    have e := I.tuple_inj h h'
    subst e
    rw [Reps.inj I r r']
  | _, _, _, .l h _, .t h' _ => (SqL.notT I h h').elim
  | _, _, _, .t h _, .l h' _ => (SqL.notT I h' h).elim
theorem Reps.inj (I : Inv X pins σ H s) : ∀ {vs : List V} {ds es : List D}, Reps X.K H vs ds → Reps X.K H vs es → ds = es
  | _, _, _, .nil, .nil => rfl
  | _, _, _, .cons r t, .cons r' t' => by rw [Rep.inj I r r', Reps.inj I t t']
end
theorem rc_flat {A : Around} {y x : V} {u v : Value} (ry : RelV y u) (rx : RelV x v) (fy : flatV y = true) (fx : flatV x = true) : SeqAt.RcAt A s u v (eqV y x) := by
  cases y with
  | non =>
    cases ry
    cases x with
    | non => cases rx; exact SeqAt.RcAt.none_none
    | bl b => cases rx; exact SeqAt.RcAt.none_bool b
    | int b => obtain ⟨t, rfl⟩ := rx; exact SeqAt.RcAt.none_int b t
    | str b => obtain ⟨t, rfl⟩ := rx; exact SeqAt.RcAt.none_str b t
    | _ => exact absurd (show false = true from fx) Bool.false_ne_true
  | bl c =>
    cases ry
    cases x with
    | non => cases rx; exact SeqAt.RcAt.bool_none c
    | bl b => cases rx; exact SeqAt.RcAt.bool_bool c b
    | int b => obtain ⟨t, rfl⟩ := rx; exact SeqAt.RcAt.bool_int c b t
    | str b => obtain ⟨t, rfl⟩ := rx; exact SeqAt.RcAt.bool_str c b t
    | _ => exact absurd (show false = true from fx) Bool.false_ne_true
  | int c =>
    obtain ⟨t', rfl⟩ := ry
    cases x with
    | non => cases rx; exact SeqAt.RcAt.int_none c t'
    | bl b => cases rx; exact SeqAt.RcAt.int_bool c t' b
    | int b => obtain ⟨t, rfl⟩ := rx; exact SeqAt.RcAt.int_int c t' b t
    | str b => obtain ⟨t, rfl⟩ := rx; exact SeqAt.RcAt.int_str c t' b t
    | _ => exact absurd (show false = true from fx) Bool.false_ne_true
  | str c =>
    obtain ⟨t', rfl⟩ := ry
    cases x with
    | non => cases rx; exact SeqAt.RcAt.str_none c t'
    | bl b => cases rx; exact SeqAt.RcAt.str_bool c t' b
    | int b => obtain ⟨t, rfl⟩ := rx; exact SeqAt.RcAt.str_int c t' b t
    | str b => obtain ⟨t, rfl⟩ := rx; exact SeqAt.RcAt.str_str c t' b t
    | _ => exact absurd (show false = true from fx) Bool.false_ne_true
  | _ => exact absurd (show false = true from fy) Bool.false_ne_true
end
end L2
namespace L2
open PySem PySem.Spec PyProof.Rows
section
variable {X : Cx} {pins : List (Addr × Obj)} {σ : St} {H : Hp} {s : Shared} {A : Around} {x : V} {u : Value} {p : Addr} {items : Array Value}
theorem eqAt_fl (f : flatV x = true) (r : RelV x u) (hl : s.heap.IsList p items) (hu : A.units < cLine) : SeqAt.EqAt A s u (.ref p) false := by
  cases x with
  | non => cases r; exact .none_list hl hu
  | bl b => cases r; exact .bool_list b hl hu
  | int b => obtain ⟨t, rfl⟩ := r; exact .int_list b t hl hu
  | str b => obtain ⟨t, rfl⟩ := r; exact .str_list b t hl hu
  | _ => exact absurd (show false = true from f) Bool.false_ne_true
theorem eqAt_lf (f : flatV x = true) (r : RelV x u) (hl : s.heap.IsList p items) (hu : A.units < cLine) : SeqAt.EqAt A s (.ref p) u false := by
  cases x with
  | non => cases r; exact .list_none hl hu
  | bl b => cases r; exact .list_bool b hl hu
  | int b => obtain ⟨t, rfl⟩ := r; exact .list_int b t hl hu
  | str b => obtain ⟨t, rfl⟩ := r; exact .list_str b t hl hu
  | _ => exact absurd (show false = true from f) Bool.false_ne_true
theorem eqAt_ft (f : flatV x = true) (r : RelV x u) (hl : s.heap.IsTuple p items) (hu : A.units < cLine) : SeqAt.EqAt A s u (.ref p) false := by
  cases x with
  | non => cases r; exact .none_tuple hl hu
  | bl b => cases r; exact .bool_tuple b hl hu
  | int b => obtain ⟨t, rfl⟩ := r; exact .int_tuple b t hl hu
  | str b => obtain ⟨t, rfl⟩ := r; exact .str_tuple b t hl hu
  | _ => exact absurd (show false = true from f) Bool.false_ne_true
theorem eqAt_tf (f : flatV x = true) (r : RelV x u) (hl : s.heap.IsTuple p items) (hu : A.units < cLine) : SeqAt.EqAt A s (.ref p) u false := by
  cases x with
  | non => cases r; exact .tuple_none hl hu
  | bl b => cases r; exact .tuple_bool b hl hu
  | int b => obtain ⟨t, rfl⟩ := r; exact .tuple_int b t hl hu
  | str b => obtain ⟨t, rfl⟩ := r; exact .tuple_str b t hl hu
  | _ => exact absurd (show false = true from f) Bool.false_ne_true
theorem rc_fl (f : flatV x = true) (r : RelV x u) (hl : s.heap.IsList p items) (hu : A.units < cLine) : SeqAt.RcAt A s u (.ref p) false := by
  cases x with
  | non => cases r; exact .none_list hl hu
  | bl b => cases r; exact .bool_list b hl hu
  | int b => obtain ⟨t, rfl⟩ := r; exact .int_list b t hl hu
  | str b => obtain ⟨t, rfl⟩ := r; exact .str_list b t hl hu
  | _ => exact absurd (show false = true from f) Bool.false_ne_true
theorem rc_lf (f : flatV x = true) (r : RelV x u) (hl : s.heap.IsList p items) (hu : A.units < cLine) : SeqAt.RcAt A s (.ref p) u false := by
  cases x with
  | non => cases r; exact .list_none hl hu
  | bl b => cases r; exact .list_bool b hl hu
  | int b => obtain ⟨t, rfl⟩ := r; exact .list_int b t hl hu
  | str b => obtain ⟨t, rfl⟩ := r; exact .list_str b t hl hu
  | _ => exact absurd (show false = true from f) Bool.false_ne_true
theorem rc_ft (f : flatV x = true) (r : RelV x u) (hl : s.heap.IsTuple p items) (hu : A.units < cLine) : SeqAt.RcAt A s u (.ref p) false := by
  cases x with
  | non => cases r; exact .none_tuple hl hu
  | bl b => cases r; exact .bool_tuple b hl hu
  | int b => obtain ⟨t, rfl⟩ := r; exact .int_tuple b t hl hu
  | str b => obtain ⟨t, rfl⟩ := r; exact .str_tuple b t hl hu
  | _ => exact absurd (show false = true from f) Bool.false_ne_true
theorem rc_tf (f : flatV x = true) (r : RelV x u) (hl : s.heap.IsTuple p items) (hu : A.units < cLine) : SeqAt.RcAt A s (.ref p) u false := by
  cases x with
  | non => cases r; exact .tuple_none hl hu
  | bl b => cases r; exact .tuple_bool b hl hu
  | int b => obtain ⟨t, rfl⟩ := r; exact .tuple_int b t hl hu
  | str b => obtain ⟨t, rfl⟩ := r; exact .tuple_str b t hl hu
  | _ => exact absurd (show false = true from f) Bool.false_ne_true
theorem getD_rep {K : PySem.W.Frag} : ∀ {vs : List V} {us : List Value} {ds : List D} (j : Nat) (h1 : j < us.toArray.size), Vals vs us → Reps K H vs ds → ∃ v, RelV v us.toArray[j] ∧ Rep K H v (ds.getD j (.l [])) ∧ (ds.getD j (.l [])) ∈ ds
  | _, _, _, j, h1, .nil, _ => by simp at h1
  | _, _, _, 0, _, .cons r _, .cons q _ => ⟨_, r, q, by simp⟩
  | v :: vs, u :: us, d :: ds, j + 1, h1, .cons _ t, .cons _ t' => by
    obtain ⟨v, a, b, c⟩ := getD_rep j (by simpa using h1) t t'
    exact ⟨v, by simpa using a, by simpa using b, List.mem_cons_of_mem _ (by simpa using c)⟩
/-- == by RcAt, of data no deeper than n -/
theorem eqD_at (I : Inv X pins σ H s) : ∀ (n : Nat) {A : Around} {d e : D} {x y : V} {u w : Value}, depD d ≤ n → A.units + n < cLine → Rep X.K H x d → Rep X.K H y e → RelV x u → RelV y w → SeqAt.RcAt A s u w (eqD d e) ∧ SeqAt.EqAt A s u w (eqD d e) := by
  intro n
  induction n with
  | zero =>
    intro A d e x y u w hd hu rx ry ru rw
    have hu' : A.units < cLine := by omega
    cases rx with
    | a f =>
      cases ry with
      | a f' => unfold eqD; exact ⟨rc_flat ru rw f f', eqAt_V ru rw f f'⟩
      | l h r => cases rw; obtain ⟨_, _, pl, _⟩ := I.list h; unfold eqD; exact ⟨rc_fl f ru pl.isList hu', eqAt_fl f ru pl.isList hu'⟩
      | t h r => cases rw; obtain ⟨_, _, pl, _⟩ := I.tuple h; unfold eqD; exact ⟨rc_ft f ru pl hu', eqAt_ft f ru pl hu'⟩
    | l h r => unfold depD at hd; omega
    | t h r => unfold depD at hd; omega
  | succ n ih =>
    intro A d e x y u w hd hu rx ry ru rw
    have hu' : A.units < cLine := by omega
    have hin : A.in1.units + n < cLine := by show A.units + 1 + n < cLine; omega
    cases rx with
    | a f =>
      cases ry with
      | a f' => unfold eqD; exact ⟨rc_flat ru rw f f', eqAt_V ru rw f f'⟩
      | l h r => cases rw; obtain ⟨_, _, pl, _⟩ := I.list h; unfold eqD; exact ⟨rc_fl f ru pl.isList hu', eqAt_fl f ru pl.isList hu'⟩
      | t h r => cases rw; obtain ⟨_, _, pl, _⟩ := I.tuple h; unfold eqD; exact ⟨rc_ft f ru pl hu', eqAt_ft f ru pl hu'⟩
    | @l p vs ds h r =>
      cases ru
      obtain ⟨its, rv, pl, _⟩ := I.list h
      cases ry with
      | a f' => unfold eqD; exact ⟨rc_lf f' rw pl.isList hu', eqAt_lf f' rw pl.isList hu'⟩
      | @t p' vs' ds' h' r' =>
        cases rw
        obtain ⟨its', rv', pt, _⟩ := I.tuple h'
        unfold eqD
        exact ⟨.list_tuple pl.isList pt hu', .list_tuple pl.isList pt hu'⟩
      | @l p' vs' ds' h' r' =>
        cases rw
        obtain ⟨its', rv', pl', _⟩ := I.list h'
        have e1 := rv.length
        have e2 := rv'.length
        have e3 := r.len
        have e4 := r'.len
        have rc : SeqAt.RcAt A s (.ref p) (.ref p') (eqD (.l ds) (.l ds')) := by
          unfold eqD
          by_cases hl : ds.length = ds'.length
          · have := SeqAt.RcAt.lists (A := A) (e := fun j => eqD (ds.getD j (.l [])) (ds'.getD j (.l []))) pl.isList pl'.isList (by simp only [List.size_toArray]; omega) hu' (fun j h1 h2 => by
              obtain ⟨v1, a1, b1, c1⟩ := getD_rep j h1 rv r
              obtain ⟨v2, a2, b2, c2⟩ := getD_rep j h2 rv' r'
              have hdj : depD (ds.getD j (.l [])) ≤ n := Nat.le_trans (depDs_mem c1) (by unfold depD at hd; omega)
              exact (ih hdj hin b1 b2 a1 a2).2)
            rw [List.size_toArray, ← e1, e3, eqDs_range hl] at this
            exact this
          · rw [eqDs_len hl]
            exact .lists_lengths pl.isList pl'.isList (by simp only [List.size_toArray]; simp; omega) hu'
        refine ⟨rc, ?_⟩
        by_cases hp : p = p'
        · subst hp
          have e5 := I.list_inj h h'
          subst e5
          have e6 := Reps.inj I r r'
          subst e6
          rw [eqD_refl _ (by unfold flatD; exact r.flat)]
          exact .same _
        · exact .of_refs hp rc
    | @t p vs ds h r =>
      cases ru
      obtain ⟨its, rv, pl, _⟩ := I.tuple h
      cases ry with
      | a f' => unfold eqD; exact ⟨rc_tf f' rw pl hu', eqAt_tf f' rw pl hu'⟩
      | @l p' vs' ds' h' r' =>
        cases rw
        obtain ⟨its', rv', pl', _⟩ := I.list h'
        unfold eqD
        exact ⟨.tuple_list pl pl'.isList hu', .tuple_list pl pl'.isList hu'⟩
      | @t p' vs' ds' h' r' =>
        cases rw
        obtain ⟨its', rv', pl', _⟩ := I.tuple h'
        have e1 := rv.length
        have e2 := rv'.length
        have e3 := r.len
        have e4 := r'.len
        have rc : SeqAt.RcAt A s (.ref p) (.ref p') (eqD (.t ds) (.t ds')) := by
          unfold eqD
          have := SeqAt.RcAt.tuples (A := A) (e := fun j => eqD (ds.getD j (.l [])) (ds'.getD j (.l []))) pl pl' hu' (fun j h1 h2 => by
              obtain ⟨v1, a1, b1, c1⟩ := getD_rep j h1 rv r
              obtain ⟨v2, a2, b2, c2⟩ := getD_rep j h2 rv' r'
              have hdj : depD (ds.getD j (.l [])) ≤ n := Nat.le_trans (depDs_mem c1) (by unfold depD at hd; omega)
              exact (ih hdj hin b1 b2 a1 a2).2)
          by_cases hl : ds.length = ds'.length
          · have em : min its.toArray.size its'.toArray.size = ds.length := by simp only [List.size_toArray]; omega
            have eb : (its.toArray.size == its'.toArray.size) = true := by simp only [List.size_toArray]; simp; omega
            rw [em, eb, Bool.and_true, eqDs_range hl] at this
            exact this
          · have eb : (its.toArray.size == its'.toArray.size) = false := by simp only [List.size_toArray]; simp; omega
            rw [eb, Bool.and_false] at this
            rw [eqDs_len hl]
            exact this
        refine ⟨rc, ?_⟩
        by_cases hp : p = p'
        · subst hp
          have e5 := I.tuple_inj h h'
          subst e5
          have e6 := Reps.inj I r r'
          subst e6
          rw [eqD_refl _ (by unfold flatD; exact r.flat)]
          exact .same _
        · exact .of_refs hp rc
def rEqD (K : PySem.W.Frag) : R2 := fun x y H Q => ∃ d e, Rep K H x d ∧ Rep K H y e ∧ depD d ≤ 60 ∧ Q (.bl (eqD d e)) H
theorem op_eqD (hu : X.A.units + 64 < cLine) : OpR X (compareOp .Eq) (rEqD X.K) := by
  intro pins s σ H x y v u Q I rx ry h
  obtain ⟨d, e, r1, r2, hd, q⟩ := h
  exact (eqD_at I 60 hd (by omega) r1 r2 rx ry).1 _ _ _ _ ⟨.bl _, H, I, rfl, q⟩
end
end L2

set_option Elab.async false
set_option linter.all false
set_option maxRecDepth 100000
set_option maxHeartbeats 2000000
namespace L2
open PySem
/-! ### a run has one end -/
end L2

set_option Elab.async false
set_option linter.all false
set_option maxRecDepth 100000
namespace L2
open PySem
end L2

set_option Elab.async false
set_option linter.all false
set_option maxRecDepth 100000
namespace L2
open PySem
/-! ### what leaves an exception's context as it is -/
/-- the record at a has None as its third field, and no dict -/
def Ctx0 (a : Addr) (h : Heap) : Prop := ∃ o fs, h.get? a = some o ∧ o.data = .fields fs ∧ fs[2]? = some Value.none ∧ o.dict = none
def F2 (f : Obj → Obj) : Prop := ∀ o fs, o.data = .fields fs → fs[2]? = some Value.none → ∃ fs', (f o).data = .fields fs' ∧ fs'[2]? = some Value.none ∧ (f o).dict = o.dict
def Tame {α : Type} : Sem α → Prop
  | .pure _ => True
  | .raise _ => True
  | .unsupported _ => True
  | .finish _ => True
  | .rule _ k => Tame (k ())
  | .at _ k => Tame (k ())
  | .point _ k => Tame (k ())
  | .load _ _ k => ∀ o, Tame (k o)
  | .update _ _ f k => F2 f ∧ Tame (k ())
  | .alloc _ k => ∀ a, Tame (k a)
  | .loadIfAlive _ k => ∀ o, Tame (k o)
  | .fresh k => ∀ t, Tame (k t)
  | .ask k => ∀ x, Tame (k x)
  | .handled _ k => ∀ x, Tame (k x)
  | .stack k => ∀ x, Tame (k x)
  | .thread k => ∀ x, Tame (k x)
  | _ => False
theorem tame_bind {α β : Type} {m : Sem α} {f : α → Sem β} (hf : ∀ a, Tame (f a)) : Tame m → Tame (m >>= f) := by
  show Tame m → Tame (Sem.bind m f)
  induction m with
  | pure a => intro _; exact hf a
  | raise e => intro _; trivial
  | unsupported w => intro _; trivial
  | finish w => intro _; trivial
  | rule t k ih => intro h; exact ih () h
  | «at» t k ih => intro h; exact ih () h
  | point t k ih => intro h; exact ih () h
  | load a t k ih => intro h o; exact ih o (h o)
  | update a t g k ih => intro h; exact ⟨h.1, ih () h.2⟩
  | alloc o k ih => intro h a; exact ih a (h a)
  | loadIfAlive o k ih => intro h a; exact ih a (h a)
  | fresh k ih => intro h a; exact ih a (h a)
  | ask k ih => intro h a; exact ih a (h a)
  | handled o k ih => intro h a; exact ih a (h a)
  | stack k ih => intro h a; exact ih a (h a)
  | thread k ih => intro h a; exact ih a (h a)
  | _ => intro h; exact h.elim
theorem Ctx0.push {a : Addr} {h : Heap} {o : Obj} (c : Ctx0 a h) : Ctx0 a (h.push o) := by
  obtain ⟨ob, fs, e, d, f⟩ := c
  exact ⟨ob, fs, Heap.get?_push_of_some _ e, d, f⟩
theorem Ctx0.update {a b : Addr} {h : Heap} {f : Obj → Obj} (c : Ctx0 a h) (hf : F2 f) : Ctx0 a (h.update b f) := by
  obtain ⟨ob, fs, e, d, g⟩ := c
  by_cases z : b = a
  · subst z
    obtain ⟨fs', d', g', k⟩ := hf ob fs d g.1
    exact ⟨f ob, fs', Heap.get?_update_self _ e (Obj.isFreed_of_fields d'), d', g', by rw [k]; exact g.2⟩
  · exact ⟨ob, fs, by rw [Heap.get?_update_other _ _ z]; exact e, d, g⟩
theorem tame_wp {α : Type} {M : Model} {Γ : Ctx} {a : Addr} {Q : α → Pos → Shared → Prop} {E : Value → Pos → Shared → Prop} (m : Sem α) : ∀ {p : Pos} {s : Shared}, Tame m → Ctx0 a s.heap → Sem.wp M Γ m Q E p s →
    Sem.wp M Γ m (fun x p s => Q x p s ∧ Ctx0 a s.heap) (fun e p s => E e p s ∧ Ctx0 a s.heap) p s := by
  induction m with
  | pure x => intro p s _ c h; rw [Sem.wp] at h ⊢; exact ⟨h, c⟩
  | raise e => intro p s _ c h; rw [Sem.wp] at h ⊢; exact ⟨h, c⟩
  | unsupported w => intro p s _ c h; rw [Sem.wp] at h; exact h.elim
  | finish w => intro p s _ c h; rw [Sem.wp] at h; exact h.elim
  | rule t k ih => intro p s q c h; rw [Sem.wp] at h ⊢; exact ih () q c h
  | «at» t k ih => intro p s q c h; rw [Sem.wp] at h ⊢; exact ih () q c h
  | point t k ih => intro p s q c h; rw [Sem.wp] at h ⊢; exact ih () q c h
  | load b t k ih => intro p s q c h; rw [Sem.wp] at h ⊢; obtain ⟨o, e, h⟩ := h; exact ⟨o, e, ih o (q o) c h⟩
  | update b t g k ih => intro p s q c h; rw [Sem.wp] at h ⊢; exact ⟨h.1, ih () q.2 (c.update q.1) h.2⟩
  | alloc o k ih => intro p s q c h; rw [Sem.wp] at h ⊢; exact ih _ (q _) c.push h
  | loadIfAlive b k ih => intro p s q c h; rw [Sem.wp] at h ⊢; exact ih _ (q _) c h
  | fresh k ih => intro p s q c h; rw [Sem.wp] at h ⊢; exact ih _ (q _) c h
  | ask k ih => intro p s q c h; rw [Sem.wp] at h ⊢; exact ih _ (q _) c h
  | handled o k ih => intro p s q c h; rw [Sem.wp] at h ⊢; exact ih _ (q _) c h
  | stack k ih => intro p s q c h; rw [Sem.wp] at h ⊢; exact ih _ (q _) c h
  | thread k ih => intro p s q c h; rw [Sem.wp] at h ⊢; exact ih _ (q _) c h
  | _ => intro p s q; exact q.elim
theorem tame_any {α : Type} {M : Model} {A : Around} {a : Addr} {m : Sem α} {Q : α → Shared → Prop} {E : Value → Shared → Prop} {s : Shared} (t : Tame m) (c : Ctx0 a s.heap) (h : wpAny M A m Q E s) :
    wpAny M A m (fun x s => Q x s ∧ Ctx0 a s.heap) (fun e s => E e s ∧ Ctx0 a s.heap) s := fun Γ p hΓ => tame_wp m t c (h Γ p hΓ)
theorem tame_field {v : Value} {i : Nat} : Tame (field v i) := by
  unfold field
  refine tame_bind (fun fs => ?_) ?_
  · cases fs[i]? <;> trivial
  · unfold fieldsOf
    cases v with
    | ref a =>
      refine tame_bind (fun o => ?_) (fun o => trivial)
      cases o.data <;> trivial
    | _ => trivial
theorem f2_set {i : Nat} {x : Value} (hi : i ≠ 2) : F2 (Obj.mapFields (·.setIfInBounds i x)) := fun o fs d g => ⟨fs.setIfInBounds i x, Obj.data_mapFields d _, by rw [Array.getElem?_setIfInBounds_ne hi]; exact g, by cases o; simp only at d; subst d; rfl⟩
theorem tame_setField {v x : Value} {i : Nat} (hi : i ≠ 2) : Tame (setField v i x) := by
  unfold setField
  cases v with
  | ref a =>
    show Tame (updateField a i x)
    unfold updateField
    refine tame_bind (fun o => ?_) (fun o => trivial)
    cases o.data with
    | fields vs =>
      show Tame (if i < vs.size then _ else _)
      split
      · exact ⟨f2_set hi, trivial⟩
      · trivial
    | _ => trivial
  | _ => trivial
theorem tame_setFlight {e : Value} {f : Option Addr} : Tame (setFlight e f) := by
  unfold setFlight
  refine tame_bind (fun tb => ?_) tame_field
  split
  · exact tame_setField (by decide)
  · trivial
theorem tame_ready : ∀ l : List Env, Tame (readyFrames l)
  | [] => trivial
  | env :: outer => by
    unfold readyFrames
    cases env.frame with
    | none => trivial
    | some f =>
      refine tame_bind (fun o => ?_) (fun o => trivial)
      split
      · trivial
      · refine tame_bind (fun b => ?_) ?_
        · refine tame_bind (fun v => ?_) ?_
          · exact tame_bind (fun _ => tame_ready outer) ⟨fun o fs d g => ⟨fs, d, g, rfl⟩, trivial⟩
          · unfold keptBack
            cases outer with
            | nil =>
              dsimp only
              split
              · trivial
              · exact tame_bind (fun _ => trivial) (tame_bind (fun _ => trivial) (fun _ => trivial))
            | cons c l => trivial
        · unfold behindIsImport
          split
          · trivial
          · split
            · trivial
            · exact tame_bind (fun _ => trivial) tame_field
theorem tame_new (vs : Array Value) : Tame (newObj (Value.type "traceback") (.fields vs)) := by
  have fin : ∀ d : Data, Tame (newObjAsIs (Value.type "traceback") d) := fun d => fun _ => trivial
  unfold newObj
  dsimp only
  split
  · exact tame_bind (fun _ => fin _) trivial
  · exact fin _
theorem tame_noteFrame {e : Value} {env : Env} : Tame (noteFrame e env) := by
  unfold noteFrame
  cases env.frame with
  | none => trivial
  | some f =>
    refine tame_bind (fun hd => ?_) tame_field
    have rest : Tame (do setField e 1 (← EntryCells.newEntry hd (← frameOf env) .none (rawInt f) .none (← entryPlaceOf f (hd != .none)))) := by
      refine tame_bind (fun fr => ?_) ?_
      · refine tame_bind (fun pl => ?_) ?_
        · refine tame_bind (fun en => tame_setField (by decide)) ?_
          exact tame_new _
        · unfold entryPlaceOf
          refine tame_bind (fun acts => ?_) (fun _ => trivial)
          split <;> trivial
      · unfold frameOf
        refine tame_bind (fun l => ?_) ?_
        · refine tame_bind (fun o => ?_) ?_
          · cases o <;> trivial
          · unfold frameObject
            split
            · trivial
            · exact tame_bind (fun _ => trivial) (tame_ready _)
        · unfold frameEnvs
          exact tame_bind (fun _ => trivial) (fun _ => trivial)
    dsimp only
    split
    · refine tame_bind (fun x => ?_) tame_field
      split
      · trivial
      · exact tame_bind (fun _ => rest) (tame_setField (by decide))
    · exact rest
theorem tame_leaving {e : Value} {env : Env} : Tame (leaving env e) := by
  unfold leaving
  exact tame_bind (fun _ => tame_setFlight) tame_noteFrame
end L2

set_option Elab.async false
set_option linter.all false
set_option maxRecDepth 100000
namespace L2
open PySem PySem.Spec PyProof.Rows

/-! ### exceptions: how one lies behind a call -/
/-- all that stood at s, and all that is tracked, is in B (the frames apart) -/
def Cov (B : Heap) (fs : List Addr) (s : Shared) (H' : Hp) : Prop := ∀ b, b ∉ fs → ((∃ o, s.heap.get? b = some o) ∨ ∃ o, H' b = some o) → ∃ o, B.get? b = some o
def CX1 (P : Program) (w : World) (base : Heap) : CXT := fun outer H s E e s' => ∃ (a C : Addr) (a0 : Value) (H' : Hp) (B : Heap), e = .ref a ∧ s'.os = s.os ∧ AllBare s'.gens ∧ Un (frs outer) [] H H' s.heap s'.heap ∧ HOk P w H' s'.heap ∧
  Heap.FlyingW B outer a (.ref C) a0 s'.heap ∧ base.StaysIn B ∧ Cov B (frs outer) s H' ∧ (∀ b ∈ frs outer, H' b = none) ∧ Ctx0 a s'.heap ∧ E (.ref C) none H'

theorem hok_there {P : Program} {w : World} {H : Hp} {h : Heap} (ok : HOk P w H h) {b : Addr} {u : HO} (e : H b = some u) : ∃ o, h.get? b = some o := by
  have x := ok b u e
  cases u with
  | lst xs => obtain ⟨_, _, _, _, e⟩ := x; exact ⟨_, e⟩
  | tup xs => obtain ⟨_, _, _, o, e, _⟩ := x; exact ⟨_, e⟩
  | dK kvs => obtain ⟨_, _, _, _, o, _, _, e, _⟩ := x; exact ⟨_, e⟩
  | dT kvs => obtain ⟨_, _, _, _, o, _, _, e, _⟩ := x; exact ⟨_, e⟩
  | set S n => obtain ⟨o, _, _, _, e, _⟩ := x; exact ⟨_, e⟩
  | ins C dx fs => obtain ⟨_, _, _, e, _⟩ := x; exact ⟨_, e⟩
  | own y => obtain ⟨_, e⟩ := x; exact ⟨_, e⟩
  | xd fs => obtain ⟨_, ⟨_, _, _, e, _⟩, _⟩ := x; exact ⟨_, e⟩
  | rng lo hi => obtain ⟨_, _, _, e⟩ := x; exact ⟨_, e⟩
  | frz ob u => obtain ⟨e, _⟩ := x; exact ⟨_, e⟩
  | tbl ps => exact ⟨_, (show h.get? b = some _ from x)⟩
  | met f y => exact ⟨_, (show h.get? b = some _ from x)⟩
  | ext φ => obtain ⟨_, ⟨_, e⟩, _⟩ := x; exact ⟨_, e⟩
/-- what is in B stays, the frames keep up to slots: a step behind an exception -/
theorem un_step {fs : List Addr} {H H' : Hp} {s : Shared} {h1 h2 B : Heap} (u : Un fs [] H H' s.heap h1) (c : Cov B fs s H') (st1 : B.StaysIn h1) (st2 : B.StaysIn h2) (up : h1.UpToSlots h2)
    (fd : ∀ b ∈ fs, ∃ o, h1.get? b = some o ∧ ∀ vs, o.data ≠ .fields vs) : Un fs [] H H' s.heap h2 := by
  have go : ∀ b o, b ∉ fs → (∃ v, s.heap.get? b = some v) → h1.get? b = some o → h2.get? b = some o := fun b o hb hs e => by
    obtain ⟨o', e'⟩ := c b hb (.inl hs)
    have := st1 b o' e'
    rw [e] at this; cases this
    exact st2 b o e'
  refine ⟨fun b o q n hb hx => go b o hb ⟨o, q⟩ (u.keep b o q n hb hx), fun b o q n hb hx => ?_, u.free, fun b o q hx => ?_, u.tups, u.frzs, u.tbls⟩
  · obtain ⟨sl, e⟩ := u.slot b o q n hb hx
    obtain ⟨o1, e1, hd⟩ := fd b hb
    rw [e] at e1; cases e1
    obtain ⟨sl2, e2⟩ := up b _ e hd
    exact ⟨sl2, e2⟩
  · obtain ⟨o', e⟩ := u.there b o q hx
    by_cases hb : b ∈ fs
    · obtain ⟨o1, e1, hd⟩ := fd b hb
      rw [e] at e1; cases e1
      obtain ⟨sl2, e2⟩ := up b _ e hd
      exact ⟨_, e2⟩
    · exact ⟨o', go b o' hb ⟨o, q⟩ e⟩
theorem hok_step {P : Program} {w : World} {fs : List Addr} {H' : Hp} {s : Shared} {h1 h2 B : Heap} (ok : HOk P w H' h1) (c : Cov B fs s H') (st1 : B.StaysIn h1) (st2 : B.StaysIn h2) (nf : ∀ b ∈ fs, H' b = none) : HOk P w H' h2 := fun b u q =>
  (ok b u q).stay (fun d v hd e => by
    have hn : ∃ o, H' d = some o := by
      rcases hd with rfl | hd
      · exact ⟨_, q⟩
      · exact ⟨_, hd⟩
    have hf : d ∉ fs := fun z => by obtain ⟨o, ho⟩ := hn; rw [nf d z] at ho; cases ho
    obtain ⟨o', e'⟩ := c d hf (.inr hn)
    have := st1 d o' e'
    rw [e] at this; cases this
    exact st2 d v e') (fun _ r => r) fun _ _ r => r
theorem flying_data {B h : Heap} {l : List Env} {a : Addr} {cls a0 : Value} (fl : Heap.FlyingW B l a cls a0 h) : ∀ b ∈ frs l, ∃ o, h.get? b = some o ∧ ∀ vs, o.data ≠ .fields vs := fun b hb => (fl.2.2.1.mem hb).2

section
variable {P : Program} {w : World} {K : PySem.W.Frag} {mg : Str → Option Value} {base : Heap} {N : List Str} {qual : Str} {scope : Scope} {f : Addr} {cd : Value} {A : Around} {outer : List Env} {s₀ : Shared} {H₀ : Hp} {E : XK}
  {pins : List (Addr × Obj)} {σ : St} {H : Hp} {s : Shared}
/-- a new exception leaves the def in which it is raised -/
theorem raise_leaves {h' : Heap} {e C : Addr} {us : List Value} (I : Inv (cxOf (CX1 P w base) P w K mg base N qual scope f cd A outer s₀ H₀ E) pins σ H s) (hx : Heap.MadeExcOf s.heap h' e (.ref C) us) (hE : E (.ref C) none H) :
    (cxOf (CX1 P w base) P w K mg base N qual scope f cd A outer s₀ H₀ E).xe (.ref e) { s with heap := h' } := by
  have hst := I.stack
  have hfree := I.stkFree
  have hfr : ∀ b, b ∈ frs (envOfC qual scope s₀.heap.objs.size f cd :: outer) ↔ b = s₀.heap.objs.size ∨ b ∈ frs outer := fun b => by
    show b ∈ s₀.heap.objs.size :: frs outer ↔ _
    exact List.mem_cons
  have old : ∀ b o, s₀.heap.get? b = some o → b ≠ s₀.heap.objs.size := fun b o q => Nat.ne_of_lt (Heap.lt_size q)
  have hin : ∀ env ∈ (envOfC qual scope s₀.heap.objs.size f cd :: outer), ∀ b, env.frame = some b → b ∈ frs (envOfC qual scope s₀.heap.objs.size f cd :: outer) := fun env he b hb => List.mem_filterMap.mpr ⟨env, he, hb⟩
  have c0 : Ctx0 e h' := by
    obtain ⟨t, g, _⟩ := hx.there
    exact ⟨_, _, g, rfl, rfl, rfl⟩
  refine wpAny_mono (tame_any (a := e) (s := { s with heap := h' }) tame_leaving c0 (wpAny_leaves_madeW (E := fun _ _ => False) (Q := fun _ s2 => ∃ (h2 : Heap) (t : Addr), s2 = { s with heap := h2 } ∧ Heap.FlyingW (PySem.W.hideAll s.heap (frs (envOfC qual scope s₀.heap.objs.size f cd :: outer))) outer e (.ref C) (.ref t) h2 ∧ h2.TupAt t us ∧ (PySem.W.hideAll s.heap (frs (envOfC qual scope s₀.heap.objs.size f cd :: outer))).get? t = none ∧ h'.UpToSlots h2) (base := PySem.W.hideAll s.heap (frs (envOfC qual scope s₀.heap.objs.size f cd :: outer))) (h := s.heap) I.ok.frames rfl (fun b o q => PySem.W.of_hideAll _ q) (PySem.W.funFrames_hide hst hin) hx fun h2 t fl tup tn up => ⟨h2, t, rfl, fl, tup, tn, up⟩)) (fun _ s2 ⟨⟨h2, t, e2, fl, tup, tn, up⟩, c2⟩ => ?_) (fun _ _ z => z.1.elim)
  subst e2
  have keep : ∀ b o, b ∉ frs (envOfC qual scope s₀.heap.objs.size f cd :: outer) → s.heap.get? b = some o → h2.get? b = some o := fun b o hb q => fl.1 b o (PySem.W.hideAll_get _ q hb)
  have slots : ∀ b o, b ∈ frs (envOfC qual scope s₀.heap.objs.size f cd :: outer) → s.heap.get? b = some o → ∃ sl, h2.get? b = some { o with slots := sl } := fun b o hb q => by
    obtain ⟨_, o1, e1, hd⟩ := hst.mem hb
    rw [q] at e1; cases e1
    exact up b o (hx.keeps b o q) hd
  refine ⟨e, C, .ref t, H, _, rfl, I.os, I.bare, ⟨fun b o q n hb hx => ?_, fun b o q n hb hx => ?_, I.base.free, fun b o q hx => ?_, I.base.tups, I.base.frzs, I.base.tbls⟩, fun b u q => ?_, fl, fun b o q => ?_, fun b hb hh => ?_, fun b hb => hfree b ((hfr b).mpr (.inr hb)), c2, hE⟩
  · refine keep b o (fun z => ?_) (I.base.keep b o q n hb hx)
    rcases (hfr b).mp z with z | z
    · exact old b o q z
    · exact hb z
  · obtain ⟨sl, e1⟩ := I.base.slot b o q n hb hx
    obtain ⟨sl2, e2⟩ := slots b _ ((hfr b).mpr (.inr hb)) e1
    exact ⟨sl2, e2⟩
  · obtain ⟨o1, e1⟩ := I.base.there b o q hx
    by_cases z : b ∈ frs (envOfC qual scope s₀.heap.objs.size f cd :: outer)
    · obtain ⟨sl2, e2⟩ := slots b _ z e1
      exact ⟨_, e2⟩
    · exact ⟨_, keep b _ z e1⟩
  · refine (I.hok b u q).stay (fun d v hd r => keep d v (fun z => ?_) r) (fun _ r => r) fun _ _ r => r
    have hn : ∃ o, H d = some o := by
      rcases hd with rfl | hd
      · exact ⟨_, q⟩
      · exact ⟨_, hd⟩
    obtain ⟨o, ho⟩ := hn
    rw [hfree d z] at ho; cases ho
  · refine PySem.W.hideAll_get _ (I.bk b o q) fun z => ?_
    have := (hst.mem z).1
    have q' : base.get? b = some o := q
    rw [show (cxOf (CX1 P w base) P w K mg base N qual scope f cd A outer s₀ H₀ E).base = base from rfl] at this
    rw [q'] at this; cases this
  · have hs : (∃ o, s.heap.get? b = some o) ∧ b ≠ s₀.heap.objs.size := by
      rcases hh with ⟨o, ho⟩ | ⟨o, ho⟩
      · exact ⟨I.base.there b o ho (by intro z; cases z), old b o ho⟩
      · refine ⟨hok_there I.hok ho, fun z => ?_⟩
        have := I.free
        rw [z] at ho
        rw [show (cxOf (CX1 P w base) P w K mg base N qual scope f cd A outer s₀ H₀ E).env.locals = s₀.heap.objs.size from rfl] at this
        rw [this] at ho; cases ho
    obtain ⟨⟨o, ho⟩, hne⟩ := hs
    exact ⟨o, PySem.W.hideAll_get _ ho fun z => ((hfr b).mp z).elim hne hb⟩
/-- an exception of a callee leaves the caller too -/
theorem passes_on : Passes (CX1 P w base) (cxOf (CX1 P w base) P w K mg base N qual scope f cd A outer s₀ H₀ E) E := by
  intro pins σ H s e s' I h
  obtain ⟨a, C, a0, H', B, rfl, os, bare, un, hok, fl, st, cov, nf, c0, hE⟩ := h
  have hfr : ∀ b, b ∈ frs (envOfC qual scope s₀.heap.objs.size f cd :: outer) ↔ b = s₀.heap.objs.size ∨ b ∈ frs outer := fun b => by
    show b ∈ s₀.heap.objs.size :: frs outer ↔ _
    exact List.mem_cons
  have old : ∀ b o, s₀.heap.get? b = some o → b ≠ s₀.heap.objs.size := fun b o q => Nat.ne_of_lt (Heap.lt_size q)
  refine wpAny_mono (tame_any (a := a) (s := s') tame_leaving c0 (wpAny_leaves_onW (E := fun _ _ => False) (Q := fun _ s2 => ∃ h2 : Heap, s2 = { s' with heap := h2 } ∧ Heap.FlyingW B outer a (.ref C) a0 h2 ∧ s'.heap.UpToSlots h2) I.ok.frames rfl fl fun h2 fl2 up => ⟨h2, rfl, fl2, up⟩)) (fun _ s2 ⟨⟨h2, e2, fl2, up⟩, c2⟩ => ?_) (fun _ _ z => z.1.elim)
  subst e2
  have un2 := un_step un cov fl.1 fl2.1 up (flying_data fl)
  have I2 : Inv (cxOf (CX1 P w base) P w K mg base N qual scope f cd A outer s₀ H₀ E) pins σ H' { s' with heap := h2 } := I.call' (s' := { s' with heap := h2 }) os un2 (hok_step hok cov fl.1 fl2.1 nf) bare (fun b z => by cases z)
  refine ⟨a, C, a0, H', B, rfl, I2.os, I2.bare, I2.base, I2.hok, fl2, st, fun b hb hh => ?_, fun b hb => nf b ((hfr b).mpr (.inr hb)), c2, hE⟩
  have hne : b ≠ s₀.heap.objs.size := by
    rcases hh with ⟨o, ho⟩ | ⟨o, ho⟩
    · exact old b o ho
    · intro z
      have := nf b ((hfr b).mpr (.inl z))
      rw [this] at ho; cases ho
  refine cov b (fun z => ((hfr b).mp z).elim hne hb) ?_
  rcases hh with ⟨o, ho⟩ | hh
  · exact .inl (I.base.there b o ho (by intro z; cases z))
  · exact .inr hh
end
end L2

set_option Elab.async false
set_option linter.all false
set_option maxRecDepth 100000
namespace L2
open PySem PySem.Spec PyProof.Rows

/-! ### raise C(..) -/
abbrev bmV : List Value := [.type "ValueError", .type "Exception", .type "BaseException", .type "object"]
theorem exc_in {K : PySem.W.Frag} {h : Heap} {C : Addr} {bmB : List Value} {newId : String} (X : K.In h) (q : PySem.W.excIn K C bmB newId = true) :
    ∃ bm N nm qn bs hdct sn sub ab col dd k0 k1 k2 k3 k5 mN, h.get? C = some (excClassObj nm qn C N bs bm hdct sn sub ab col dd k0 k1 k2 k3 k5 newId) ∧ h.Ns N mN ∧ mN "__init__" = none ∧ OwnTail h bmB bm := by
  revert q
  unfold PySem.W.excIn
  split
  · rename_i d1 cdat slots hlook
    split
    · rename_i C1 tl1 z0 z1 z2 z3 nid z5 hmro hslots
      intro q
      rw [Bool.and_eq_true, Bool.and_eq_true, Bool.and_eq_true, Bool.and_eq_true, Bool.and_eq_true] at q
      obtain ⟨⟨⟨⟨⟨qa, qb⟩, qc⟩, qd⟩, qe⟩, qf⟩ := q
      have ea : C1 = C := by simpa using qa
      have eb : nid = newId := by simpa using qb
      have ec : cdat.hasDel = false := by simpa using qc
      have ef : PySem.W.nsIn K cdat.ns "__init__" = some none := by simpa using qf
      subst ea eb
      cases cdat with
      | mk nm bs mro ns qn hd sn sub ab col del =>
        simp only at hmro ec qe ef
        subst hmro ec
        cases slots with
        | mk sl =>
          simp only at hslots
          subst hslots
          exact ⟨tl1, ns, nm, qn, bs, hd, sn, sub, ab, col, d1, z0, z1, z2, z3, z5, _, X _ _ hlook, .of_isNs (PySem.W.isNs_of_in X qe), PySem.W.nsMap_none_of_in X qe ef, PySem.W.tail_of_in X qd⟩
    · intro q; cases q
  · intro q; cases q
def tRaise (C : Addr) (E : XK) (ta : TA) : TS := fun _ σ H => ta σ H fun vs H1 => vs.length ≤ sizeLine ∧ E (.ref C) none H1
section
variable {P : Program} {w : World} {K : PySem.W.Frag} {mg : Str → Option Value} {base : Heap} {N : List Str} {qual : Str} {scope : Scope} {f : Addr} {cd : Value} {A : Around} {outer : List Env} {s₀ : Shared} {H₀ : Hp} {E : XK}
/-- the context of a def that may raise -/
abbrev cxR (P : Program) (w : World) (K : PySem.W.Frag) (mg : Str → Option Value) (base : Heap) (N : List Str) (qual : Str) (scope : Scope) (f : Addr) (cd : Value) (A : Around) (outer : List Env) (s₀ : Shared) (H₀ : Hp) (E : XK) : Cx :=
  cxOf (CX1 P w base) P w K mg base N qual scope f cd A outer s₀ H₀ E
theorem ps_raise {x : Str} {np cpos pos : Pos} {e : Expr} {es : List Expr} {ta : TA} {C : Addr} (q : PySem.W.excIn K C bmV "ValueError.__new__" = true) (hm : mg x = some (.ref C)) (ha : PA (cxR P w K mg base N qual scope f cd A outer s₀ H₀ E) (e :: es) ta)
    (hg : Gl (cxR P w K mg base N qual scope f cd A outer s₀ H₀ E) x := by rfl) (he : notStar e = true := by rfl) (hpl : es.all notStar = true := by rfl) (hdb : (x == ("__debug__" : Str)) = false := by decide) :
    PS (cxR P w K mg base N qual scope f cd A outer s₀ H₀ E) (.Raise (some (.Call (.Name x np) (e :: es) [] cpos)) none pos) (tRaise C E ta) := by
  intro pins s σ H D I h
  obtain ⟨bm, Nn, nm, qn, bs, hdct, sn, sub, ab, col, dd, k0, k1, k2, k3, k5, mN, hC, hN, hni, T⟩ := exc_in (X := I.mod.kin) q
  have hh : (cxR P w K mg base N qual scope f cd A outer s₀ H₀ E).A.handled = none := I.ok.hd rfl
  have hall : (e :: es).all notStar = true := by rw [List.all_cons, he, hpl]; rfl
  refine wpAny_Raise_call_subU (nm := nm) (q := qn) (C := C) (N := Nn) (bs := bs) (hdct := hdct) (sn := sn) (sub := sub) (ab := ab) (col := col) (dd := dd) (k0 := k0) (k1 := k1) (k2 := k2) (k3 := k3) (k5 := k5) PySem.F.excBase_ValueError (by decide) PySem.F.excBase_ValueError (T.hasType (by decide)) hh (star_none hall) hni ?_
  refine ld_glob I hg hm ⟨rfl, ?_⟩ hdb
  have hA := ha cpos pins s σ H _ I h
  rw [star_cons he] at hA ⊢
  refine Calls.evalArgs_plain ?_
  refine thn hA fun us s2 ⟨vs, H2, I2, r2, hl, q2⟩ => ⟨rfl, ?_, I2.bk _ _ hC, hN.keeps I2.bk, T.keeps I2.bk, fun h' a hx => raise_leaves I2 hx q2⟩
  rw [← r2.length]; exact hl
end

/-! ### a def that may raise, and its contract -/
section
variable {P : Program} {w : World} {K : PySem.W.Frag} {mg : Str → Option Value} {base : Heap}
theorem Fun.okX {x qual : Str} {st : Stmt} {f : Addr} {fd : FuncData} {N ps : List Str} {k : Nat} {sp : Sp} (F : Fun K x qual st f fd) (S : FnScope N ps (defScope st)) (len : ∀ vs H Q E, sp vs H Q E → vs.length = ps.length)
    (hbody : ∀ (cdv : Value) (A : Around) (outer : List Env) (s : Shared) (H : Hp) (vs : List V) (Q : VK) (E : XK), Room k (A.deeper (envOfC qual (defScope st) s.heap.objs.size f cdv)) → sp vs H Q E →
      ∃ t, PSs (cxR P w K mg base N qual (defScope st) f cdv A outer s H E) (defBody st) t ∧ t { nx := fun _ H' => Q .non H', rt := Q } (start N vs) H) : FnOk P w K mg base (CX1 P w base) (k + 1) f fd ps sp := by
  obtain ⟨oc, od, kV, doc, pm, an, cdv, ct, osl, rfl, lk, hcd⟩ := F.ex
  exact fn_of lk hcd S len fun A outer s H vs Q E hr hsp => hbody cdv A outer s H vs Q E hr hsp
/-- a method of a class -/
def KnowsM (CX : CXT) (P : Program) (w : World) (K : PySem.W.Frag) (mg : Str → Option Value) (base : Heap) (k : Nat) (C : Addr) (m : Str) (ps : List Str) (sp : Sp) : Prop :=
  ∃ f fd, Meth K C m f ∧ Binds K fd ps [] ∧ FnOk P w K mg base CX k f fd ps sp
end
section
variable {X : Cx} {CX : CXT} {x m : Str} {ps : List Str} {sp : Sp} {j k : Nat} {e o : Expr} {es : List Expr} {ta : TE} {t : TA} {p pos apos : Pos} {E : XK} {C : Addr}
theorem pe_methM {pl : Sem Bool} (F : KnowsM CX X.prog X.w X.K X.mg X.base j C m ps sp) (c : Cls X.K C) (hr : Room k X.A) (hx : Passes CX X E) (ho : PE X o ta) (ha : PA X (e :: es) t) (hjk : j ≤ k := by decide)
    (he : notStar e = true := by rfl) (hpl : es.all notStar = true := by rfl)
    (ht : eval (.Call (.Attribute o m apos) (e :: es) [] pos) X.env = (do
      let ov ← eval o X.env
      standAt apos.atName
      let (f, first) ← holding [ov] (getMethod ov m pl)
      callWith pos f first (backTo pos (starEach (e :: es) X.env)) (backToKw pos (keywordEach [] X.env))) := by rfl) : PE X (.Call (.Attribute o m apos) (e :: es) [] pos) (tMeth C m sp [] E ta t) := by
  obtain ⟨f, fd, hm, hb, F⟩ := F
  exact pe_meth (pl := pl) ho c hm F (hr.mono hjk) hb .nil hx ha (star_cons he) (star_none hpl) ht
theorem pe_methM0 {pl : Sem Bool} (F : KnowsM CX X.prog X.w X.K X.mg X.base j C m ps sp) (c : Cls X.K C) (hr : Room k X.A) (hx : Passes CX X E) (ho : PE X o ta) (hjk : j ≤ k := by decide)
    (ht : eval (.Call (.Attribute o m apos) [] [] pos) X.env = (do
      let ov ← eval o X.env
      standAt apos.atName
      let (f, first) ← holding [ov] (getMethod ov m pl)
      callWith pos f first (backTo pos (starEach [] X.env)) (backToKw pos (keywordEach [] X.env))) := by rfl) : PE X (.Call (.Attribute o m apos) [] [] pos) (tMeth C m sp [] E ta tNil) := by
  obtain ⟨f, fd, hm, hb, F⟩ := F
  exact pe_meth0 (pl := pl) ho c hm F (hr.mono hjk) hb .nil hx ht
end
end L2

set_option Elab.async false
set_option linter.all false
set_option maxRecDepth 100000
namespace L2
open PySem PySem.Spec PyProof.Rows

/-! ### try: .. except NAME: .. -/
/-- within the try's suite: the pins that stood are borne by every state -/
abbrev Cx.inTry (X : Cx) (pn : List (Addr × Obj)) (xe : Value → Shared → Prop) : Cx := { X with pn := pn, xe := xe }
/-- within the except's suite -/
abbrev Cx.inExc (X : Cx) (a : Addr) : Cx := { X with A := X.A.mark (some (.ref a)), calm := false }
section
variable {X : Cx} {pins : List (Addr × Obj)} {σ : St} {H : Hp} {s : Shared} {xe : Value → Shared → Prop} {a : Addr}
theorem Inv.inTry (I : Inv X pins σ H s) (xe : Value → Shared → Prop) : Inv (X.inTry (X.pn ++ pins) xe) [] σ H s :=
  ⟨⟨I.ok.mod, I.ok.kind, I.ok.glob, I.ok.blt, I.ok.above, I.ok.inj, I.ok.has, I.ok.cab, I.ok.hd, I.ok.frames, I.ok.stk, I.ok.exf, I.ok.bs, I.ok.bsz, I.ok.noex, I.ok.exfs, I.ok.funs, I.ok.frf⟩,
    I.os, I.bare, I.base, I.loc, I.cell, I.free, I.freeC, fun p hp => I.pin p (by simpa using hp), I.hok, I.len⟩
theorem Inv.outTry {pins' : List (Addr × Obj)} (I : Inv (X.inTry (X.pn ++ pins) xe) pins' σ H s) : Inv X pins σ H s :=
  ⟨⟨I.ok.mod, I.ok.kind, I.ok.glob, I.ok.blt, I.ok.above, I.ok.inj, I.ok.has, I.ok.cab, I.ok.hd, I.ok.frames, I.ok.stk, I.ok.exf, I.ok.bs, I.ok.bsz, I.ok.noex, I.ok.exfs, I.ok.funs, I.ok.frf⟩,
    I.os, I.bare, I.base, I.loc, I.cell, I.free, I.freeC, fun p hp => I.pin p (List.mem_append_left _ hp), I.hok, I.len⟩
theorem Inv.inExc (I : Inv X pins σ H s) (a : Addr) : Inv (X.inExc a) pins σ H s :=
  ⟨⟨I.ok.mod, I.ok.kind, I.ok.glob, I.ok.blt, I.ok.above, I.ok.inj, I.ok.has, I.ok.cab, (fun z => by cases z), I.ok.frames, I.ok.stk, I.ok.exf, I.ok.bs, I.ok.bsz, I.ok.noex, I.ok.exfs, I.ok.funs, I.ok.frf⟩,
    I.os, I.bare, I.base, I.loc, I.cell, I.free, I.freeC, I.pin, I.hok, I.len⟩
theorem SP.outTry {D : Ends} {f : Flow} {s' : Shared} (h : SP (X.inTry (X.pn ++ pins) xe) [] D f s') : SP X pins D f s' := by
  cases f with
  | next => obtain ⟨σ', H', I, q⟩ := h; exact ⟨σ', H', I.outTry, q⟩
  | brk => obtain ⟨σ', H', I, q⟩ := h; exact ⟨σ', H', I.outTry, q⟩
  | cont => obtain ⟨σ', H', I, q⟩ := h; exact ⟨σ', H', I.outTry, q⟩
  | ret u => obtain ⟨v, σ', H', I, r, q⟩ := h; exact ⟨v, σ', H', I.outTry, r, q⟩
end
/-- the exceptions of the suite's calls, by the names' values at the call -/
abbrev Lands (X : Cx) (Eb : St → XK) : Prop := ∀ (pins : List (Addr × Obj)) (σ : St) (H : Hp) (s : Shared) (e : Value) (s' : Shared), Inv X pins σ H s → CX1 X.prog X.w X.base X.stack H s (Eb σ) e s' → X.xe e s'
section
variable {X : Cx} {x : Str} {np hpos pos : Pos} {body : List Stmt} {b₀ : Stmt} {suite : List Stmt} {Dc : Addr} {tb : (St → XK) → TS} {ts : TS}
end
end L2

set_option Elab.async false
set_option linter.all false
set_option maxRecDepth 100000
namespace L2
open PySem PySem.Spec PyProof.Rows

/-! ### calls within a try's suite -/
section
variable {X : Cx} {k j : Nat} {f C : Addr} {fd : FuncData} {ps : List Str} {sp : Sp} {Eb : St → XK} {x m : Str} {p pos apos : Pos} {e o : Expr} {es : List Expr} {ta : TE} {t : TA}
theorem run_fnS {pins : List (Addr × Obj)} {σ : St} {H : Hp} {s : Shared} {Q : VK} {us : List Value} {vs : List V} (F : FnOk X.prog X.w X.K X.mg X.base (CX1 X.prog X.w X.base) k f fd ps sp) (hr : Room k X.A) (hb : Binds X.K fd ps []) (hx : Lands X Eb)
    (I : Inv X pins σ H s) (r : Vals vs us) (h : sp vs H Q (Eb σ)) : wpAny (model X.prog X.w) X.A (call (.ref f) us) (EP X pins σ Q) X.xe s := by
  have hl : us.length = ps.length := by rw [← r.length]; exact F.len _ _ _ _ h
  have hbind := hb s us I.kIn (by rw [List.append_nil]; exact hl)
  rw [List.append_nil] at hbind
  refine wpAny_call (codeAny_mono (F.run X.A X.stack s H ⟨us, []⟩ us vs Q (Eb σ) hr I.env0 hbind r h) fun res s' hq => ?_)
  cases res with
  | error e => exact hx pins σ H s e s' I hq
  | ok fl =>
    cases fl with
    | ret u => exact I.after hq
    | next => exact False.elim hq
    | brk => exact False.elim hq
    | cont => exact False.elim hq
def tMethS (C : Addr) (m : Str) (sp : Sp) (Eb : St → XK) (ta : TE) (t : TA) : TE := fun σ H Q => ta σ H fun x H1 => ∃ a dx fs, x = .ref a ∧ H1 a = some (.ins C dx fs) ∧ fs.lookup m = none ∧ t σ H1 fun vs H2 => sp (x :: vs) H2 Q (Eb σ)
theorem pe_methS {pl : Sem Bool} (F : KnowsM (CX1 X.prog X.w X.base) X.prog X.w X.K X.mg X.base j C m ps sp) (c : Cls X.K C) (hr : Room k X.A) (hx : Lands X Eb) (ho : PE X o ta) (ha : PA X (e :: es) t) (hjk : j ≤ k := by decide)
    (he : notStar e = true := by rfl) (hpl : es.all notStar = true := by rfl)
    (ht : eval (.Call (.Attribute o m apos) (e :: es) [] pos) X.env = (do
      let ov ← eval o X.env
      standAt apos.atName
      let (f, first) ← holding [ov] (getMethod ov m pl)
      callWith pos f first (backTo pos (starEach (e :: es) X.env)) (backToKw pos (keywordEach [] X.env))) := by rfl) : PE X (.Call (.Attribute o m apos) (e :: es) [] pos) (tMethS C m sp Eb ta t) := by
  obtain ⟨f, fd, hm, hb, F⟩ := F
  intro pins s σ H Q I h
  refine PySem.W.methodCall_KW (pl := pl) (thn (ho pins s σ H _ I h) fun u s1 ⟨x, H1, I1, rx, a, dx, fs, ex, ea, l, q⟩ => ?_) ht
  subst ex
  obtain rfl : u = Value.ref a := rx
  refine getmeth_ok I1 ea c hm l ?_
  refine PySem.W.callWith_K (first := [.ref a]) (h₀ := X.base) I.ok.mod.kin hm.kp (thn (ha pos pins s1 σ H1 _ I1 q) fun us s2 ⟨vs, H2, I2, r, q2⟩ => ⟨I2.kIn, ?_⟩) (star_cons he) (star_none hpl)
  exact run_fnS (us := .ref a :: us) (vs := .ref a :: vs) F (hr.mono hjk) hb hx I2 (.cons rfl r) q2
end
end L2

set_option Elab.async false
set_option linter.all false
set_option maxRecDepth 100000
namespace L2
open PySem PySem.Spec PyProof.Rows

/-! ### for k, x in enumerate(xs) -/
end L2

set_option Elab.async false
set_option linter.all false
set_option maxRecDepth 100000
namespace L2
open PySem PySem.Spec PyProof.Rows
open PySem.AutoSeq1 (wpAny_loadPart')
open PySem.MeetsSeq

/-! ### in, not in, != of data -/
theorem eqD_l (xs ys : List D) : eqD (.l xs) (.l ys) = eqDs xs ys := by unfold eqD; rfl
theorem eqD_t (xs ys : List D) : eqD (.t xs) (.t ys) = eqDs xs ys := by unfold eqD; rfl
section
variable {X : Cx}
theorem rcne_fl {s : Shared} {A : Around} {x : V} {u : Value} {p : Addr} {items : Array Value} (f : flatV x = true) (r : RelV x u) (hl : s.heap.IsList p items) (hu : A.units < cLine) : SeqAt.RcNeAt A s u (.ref p) true := by
  cases x with
  | non => cases r; exact .none_list hl hu
  | bl b => cases r; exact .bool_list b hl hu
  | int b => obtain ⟨t, rfl⟩ := r; exact .int_list b t hl hu
  | str b => obtain ⟨t, rfl⟩ := r; exact .str_list b t hl hu
  | _ => exact absurd (show false = true from f) Bool.false_ne_true
theorem rcne_lf {s : Shared} {A : Around} {x : V} {u : Value} {p : Addr} {items : Array Value} (f : flatV x = true) (r : RelV x u) (hl : s.heap.IsList p items) (hu : A.units < cLine) : SeqAt.RcNeAt A s (.ref p) u true := by
  cases x with
  | non => cases r; exact .list_none hl hu
  | bl b => cases r; exact .list_bool b hl hu
  | int b => obtain ⟨t, rfl⟩ := r; exact .list_int b t hl hu
  | str b => obtain ⟨t, rfl⟩ := r; exact .list_str b t hl hu
  | _ => exact absurd (show false = true from f) Bool.false_ne_true
theorem rcne_ft {s : Shared} {A : Around} {x : V} {u : Value} {p : Addr} {items : Array Value} (f : flatV x = true) (r : RelV x u) (hl : s.heap.IsTuple p items) (hu : A.units < cLine) : SeqAt.RcNeAt A s u (.ref p) true := by
  cases x with
  | non => cases r; exact .none_tuple hl hu
  | bl b => cases r; exact .bool_tuple b hl hu
  | int b => obtain ⟨t, rfl⟩ := r; exact .int_tuple b t hl hu
  | str b => obtain ⟨t, rfl⟩ := r; exact .str_tuple b t hl hu
  | _ => exact absurd (show false = true from f) Bool.false_ne_true
theorem rcne_tf {s : Shared} {A : Around} {x : V} {u : Value} {p : Addr} {items : Array Value} (f : flatV x = true) (r : RelV x u) (hl : s.heap.IsTuple p items) (hu : A.units < cLine) : SeqAt.RcNeAt A s (.ref p) u true := by
  cases x with
  | non => cases r; exact .tuple_none hl hu
  | bl b => cases r; exact .tuple_bool b hl hu
  | int b => obtain ⟨t, rfl⟩ := r; exact .tuple_int b t hl hu
  | str b => obtain ⟨t, rfl⟩ := r; exact .tuple_str b t hl hu
  | _ => exact absurd (show false = true from f) Bool.false_ne_true
theorem rcne_flat {s : Shared} {A : Around} {y x : V} {u v : Value} (ry : RelV y u) (rx : RelV x v) (fy : flatV y = true) (fx : flatV x = true) : SeqAt.RcNeAt A s u v (!eqV y x) := by
  cases y with
  | non =>
    cases ry
    cases x with
    | non => cases rx; exact SeqAt.RcNeAt.none_none
    | bl b => cases rx; exact SeqAt.RcNeAt.none_bool b
    | int b => obtain ⟨t, rfl⟩ := rx; exact SeqAt.RcNeAt.none_int b t
    | str b => obtain ⟨t, rfl⟩ := rx; exact SeqAt.RcNeAt.none_str b t
    | _ => exact absurd (show false = true from fx) Bool.false_ne_true
  | bl c =>
    cases ry
    cases x with
    | non => cases rx; exact SeqAt.RcNeAt.bool_none c
    | bl b => cases rx; exact SeqAt.RcNeAt.bool_bool c b
    | int b => obtain ⟨t, rfl⟩ := rx; exact SeqAt.RcNeAt.bool_int c b t
    | str b => obtain ⟨t, rfl⟩ := rx; exact SeqAt.RcNeAt.bool_str c b t
    | _ => exact absurd (show false = true from fx) Bool.false_ne_true
  | int c =>
    obtain ⟨t', rfl⟩ := ry
    cases x with
    | non => cases rx; exact SeqAt.RcNeAt.int_none c t'
    | bl b => cases rx; exact SeqAt.RcNeAt.int_bool c t' b
    | int b => obtain ⟨t, rfl⟩ := rx; exact SeqAt.RcNeAt.int_int c t' b t
    | str b => obtain ⟨t, rfl⟩ := rx; exact SeqAt.RcNeAt.int_str c t' b t
    | _ => exact absurd (show false = true from fx) Bool.false_ne_true
  | str c =>
    obtain ⟨t', rfl⟩ := ry
    cases x with
    | non => cases rx; exact SeqAt.RcNeAt.str_none c t'
    | bl b => cases rx; exact SeqAt.RcNeAt.str_bool c t' b
    | int b => obtain ⟨t, rfl⟩ := rx; exact SeqAt.RcNeAt.str_int c t' b t
    | str b => obtain ⟨t, rfl⟩ := rx; exact SeqAt.RcNeAt.str_str c t' b t
    | _ => exact absurd (show false = true from fx) Bool.false_ne_true
  | _ => exact absurd (show false = true from fy) Bool.false_ne_true
def rNeD (K : PySem.W.Frag) : R2 := fun x y H Q => ∃ d e, Rep K H x d ∧ Rep K H y e ∧ depD d ≤ 60 ∧ Q (.bl (!eqD d e)) H
theorem op_neD (hu : X.A.units + 64 < cLine) : OpR X (compareOp .NotEq) (rNeD X.K) := by
  intro pins s σ H x y v u Q I rx ry h
  obtain ⟨d, e, r1, r2, hd, q⟩ := h
  have hu' : X.A.units < cLine := by omega
  have hin : X.A.in1.units + 60 < cLine := by show X.A.units + 1 + 60 < cLine; omega
  have fin : ∀ b, (!eqD d e) = b → EP X pins σ Q (.bool b) s := fun b hb => ⟨.bl b, H, I, rfl, by rw [← hb]; exact q⟩
  cases r1 with
  | a f =>
    cases r2 with
    | a f' => exact EqBoolInt.of_rcne (rcne_flat rx ry f f') (fin _ (by unfold eqD; rfl))
    | l h r => cases ry; obtain ⟨_, _, pl, _⟩ := I.list h; exact EqBoolInt.of_rcne (rcne_fl f rx pl.isList hu') (fin _ (by unfold eqD; rfl))
    | t h r => cases ry; obtain ⟨_, _, pl, _⟩ := I.tuple h; exact EqBoolInt.of_rcne (rcne_ft f rx pl hu') (fin _ (by unfold eqD; rfl))
  | @l p vs ds h r =>
    cases rx
    obtain ⟨its, rv, pl, _⟩ := I.list h
    cases r2 with
    | a f' => exact EqBoolInt.of_rcne (rcne_lf f' ry pl.isList hu') (fin _ (by unfold eqD; rfl))
    | @t p' vs' ds' h' r' =>
      cases ry
      obtain ⟨its', rv', pt, _⟩ := I.tuple h'
      exact EqBoolInt.of_rcne (.list_tuple pl.isList pt hu') (fin _ (by unfold eqD; rfl))
    | @l p' vs' ds' h' r' =>
      cases ry
      obtain ⟨its', rv', pl', _⟩ := I.list h'
      have e1 := rv.length
      have e2 := rv'.length
      have e3 := r.len
      have e4 := r'.len
      by_cases hl : ds.length = ds'.length
      · refine EqBoolInt.of_rcne (SeqAt.RcNeAt.lists (e := fun j => eqD (ds.getD j (.l [])) (ds'.getD j (.l []))) pl.isList pl'.isList (by simp only [List.size_toArray]; omega) hu' (fun j h1 h2 => ?_)) (fin _ ?_)
        · obtain ⟨v1, a1, b1, c1⟩ := getD_rep j h1 rv r
          obtain ⟨v2, a2, b2, c2⟩ := getD_rep j h2 rv' r'
          have hdj : depD (ds.getD j (.l [])) ≤ 60 := Nat.le_trans (depDs_mem c1) (by unfold depD at hd; omega)
          exact (eqD_at I 60 hdj hin b1 b2 a1 a2).2
        · rw [eqD_l, List.size_toArray, ← e1, e3, eqDs_range hl]
      · refine EqBoolInt.of_rcne (SeqAt.RcNeAt.lists_lengths pl.isList pl'.isList (by simp only [List.size_toArray]; simp; omega) hu') (fin _ ?_)
        rw [eqD_l, eqDs_len hl]
        rfl
  | @t p vs ds h r =>
    cases rx
    obtain ⟨its, rv, pl, _⟩ := I.tuple h
    cases r2 with
    | a f' => exact EqBoolInt.of_rcne (rcne_tf f' ry pl hu') (fin _ (by unfold eqD; rfl))
    | @l p' vs' ds' h' r' =>
      cases ry
      obtain ⟨its', rv', pl', _⟩ := I.list h'
      exact EqBoolInt.of_rcne (.tuple_list pl pl'.isList hu') (fin _ (by unfold eqD; rfl))
    | @t p' vs' ds' h' r' =>
      cases ry
      obtain ⟨its', rv', pl', _⟩ := I.tuple h'
      have e1 := rv.length
      have e2 := rv'.length
      have e3 := r.len
      have e4 := r'.len
      refine EqBoolInt.of_rcne (SeqAt.RcNeAt.tuples (e := fun j => eqD (ds.getD j (.l [])) (ds'.getD j (.l []))) pl pl' hu' (fun j h1 h2 => ?_)) (fin _ ?_)
      · obtain ⟨v1, a1, b1, c1⟩ := getD_rep j h1 rv r
        obtain ⟨v2, a2, b2, c2⟩ := getD_rep j h2 rv' r'
        have hdj : depD (ds.getD j (.l [])) ≤ 60 := Nat.le_trans (depDs_mem c1) (by unfold depD at hd; omega)
        exact (eqD_at I 60 hdj hin b1 b2 a1 a2).2
      · rw [eqD_t]
        by_cases hl : ds.length = ds'.length
        · have em : min its.toArray.size its'.toArray.size = ds.length := by simp only [List.size_toArray]; omega
          have eb : (its.toArray.size == its'.toArray.size) = true := by simp only [List.size_toArray]; simp; omega
          rw [em, eb, Bool.and_true, eqDs_range hl]
        · have eb : (its.toArray.size == its'.toArray.size) = false := by simp only [List.size_toArray]; simp; omega
          rw [eb, Bool.and_false, eqDs_len hl]
/-! ### xs.insert(i, y), xs.remove(y), a ** n -/
def CPowS (i j : Int) : Prop := 0 ≤ j ∧ (Builtin.Int.intBits i : Int) * j ≤ 2 ^ 27
theorem op_powS : OpR X (binaryOp .Pow) (rI CPowS fun i j => .int (i ^ j.toNat)) := opI fun _ _ _ _ _ _ _ hc q => pow_int hc.1 hc.2 q
end
end L2

set_option Elab.async false
set_option linter.all false
set_option maxRecDepth 100000
namespace L2
open PySem PySem.Spec PyProof.Rows
section
variable {X : Cx} {pos : Pos}
end

/-! ### the law's head, with the size of the script's ints -/
theorem weight_all {ns : List Int} : ∀ v ∈ ns, (PySem.W.WData.weight (.int v)) ≤ PySem.W.WData.weightAll (ns.map .int) := by
  intro v hv
  induction ns with
  | nil => cases hv
  | cons n r ih =>
    have e : PySem.W.WData.weightAll ((n :: r).map PySem.W.WData.int) = PySem.W.WData.weight (.int n) + 1 + PySem.W.WData.weightAll (r.map .int) := by
      rw [List.map_cons, PySem.W.WData.weightAll]
    rw [e]
    rcases List.mem_cons.mp hv with rfl | hv
    · omega
    · have := ih hv
      omega
end L2

set_option Elab.async false
set_option linter.all false
set_option maxRecDepth 100000
namespace Att
open PySem PySem.W PySem.Calls PyProof.Rows L2
theorem small_of {ns : List Int} (h : WData.layableAll [WData.list (ns.map WData.int)] = true) : ∀ v ∈ ns, Builtin.Int.intBits v ≤ 1048576 := by
  intro v hv
  unfold WData.layableAll at h
  rw [List.all_cons, Bool.and_eq_true] at h
  have h1 := h.1
  unfold WData.layable at h1
  rw [Bool.and_eq_true] at h1
  have h2 := of_decide_eq_true h1.2
  have e : WData.weight (WData.list (ns.map WData.int)) = WData.weightAll (ns.map WData.int) := by rw [WData.weight]
  rw [e] at h2
  have h3 := weight_all v hv
  have e2 : WData.weight (.int v) = Builtin.Int.intBits v := by
    rw [WData.weight]
    rfl
  rw [e2] at h3
  have : (2 : Nat) ^ 20 = 1048576 := by decide
  omega
theorem attach_callW {l : OpenLaw} {n : Nat} {q : Program} {loose : List Str} {XP : (Str → Option Value) → Heap → Prop} {YP : World → Heap → Prop} {d : DefRec}
    (hn : l.most = some n) (hdf : d.params.defaults = [])
    (call : ∀ (w : World) (s₀ s₁ : Shared) (mg mb : Str → Option Value) (fa : Addr) (o : Obj) (pm cd doc : Value) (a : Addr) (vs : List Value) (ns : List Int),
      Ground q loose [] XP w s₀ mg mb s₁.heap → YP w s₁.heap →
      s₁.heap.get? fa = some o → o.data = .func (docDef d.name d.params d.body d.scope pm cd doc) → s₁.heap.CodeRec cd d.name → mg d.name = some (.ref fa) →
      s₁.heap.get? a = some { cls := .type "list", data := .seq vs.toArray } → IntsAre vs ns → ns.length ≤ n → (∀ v ∈ ns, Builtin.Int.intBits v ≤ 1048576) → s₁.gens = #[] →
      codeAny (model l.prog w) callerA (.call (.ref fa) ⟨[.ref a], []⟩) (fun r s' => r = .ok (.ret (.bool true)) ∧ OldK s₁.heap s'.heap ∧ s'.os = s₁.os ∧ AllBare s'.gens) s₁) :
    WalkO q loose XP YP l.row.toRowW d [] (fun f vs => PySem.call f vs) := by
  intro w s₀ s₁ mg mb G Y fa o pm cd doc dV kV ho hd hcd hD hmg hg args vals as hpre hlay hrd hwl hlo
  obtain rfl : dV = .none := Dflts.none hD hdf
  obtain rfl : kV = .none := Dflts.noKw hD
  obtain ⟨a, vs, ns, rfl, rfl, hobj, hints, hlen⟩ := script_of hn hpre hwl
  refine enter_call (codeAny_mono (call w s₀ s₁ mg mb fa o pm cd doc a vs ns G Y ho (fd_plain hd) hcd hmg hobj hints hlen (small_of hlay) hg) fun r s' hq => ?_)
  obtain ⟨rfl, h2, h3, h4⟩ := hq
  exact ⟨.inl ⟨.bool true, .bool true, [], rfl, fun _ => rfl, .bool true, post_true l _, fun _ => ⟨List.Pairwise.nil, fun _ hm => (nomatch hm)⟩⟩, h2, h3, h4⟩
end Att
namespace L2
open PySem PySem.Spec PyProof.Rows
theorem walk_ofW {l : PySem.W.OpenLaw} {n k : Nat} {q : Program} {loose : List Str} {XP : (Str → Option Value) → Heap → Prop} {YP : World → Heap → Prop} {d : DefRec} {K : Params → PySem.W.Frag} {CX : World → CXT} {sp : World → Sp} {x : Str}
    (hn : l.most = some n) (hn2 : n ≤ sizeLine) (hdf : d.params.defaults = []) (hr : Room k callerA)
    (hY : ∀ (w : World) (h : Heap), YP w h → (K w.params).In h)
    (F : ∀ (w : World) (mg : Str → Option Value) (fa : Addr) (h : Heap), (K w.params).In h → h.Ns mainGlobals mg → mg d.name = some (.ref fa) →
      ∃ fd : FuncData, (∀ (s : Shared) (u : Value), BindsTo s fd ⟨[u], []⟩ [(x, u)]) ∧
        ∀ base : Heap, (K w.params).In base → base.Ns mainGlobals mg → FnOk l.prog w (K w.params) mg base (CX w) k fa fd [x] (sp w))
    (hsp : ∀ (w : World) (H : Hp) (a : Addr) (ns : List Int), ns.length ≤ n → (∀ v ∈ ns, Builtin.Int.intBits v ≤ 1048576) → Only H → SqL (K w.params) H a (ns.map V.int) → sp w [.ref a] H (fun v _ => v = .bl true) fun _ _ _ => False)
    (hCX : ∀ (w : World) (H : Hp) (s : Shared) (e : Value) (s' : Shared), CX w [] H s (fun _ _ _ => False) e s' → False) :
    PySem.W.WalkO q loose XP YP l.row.toRowW d [] (fun f vs => PySem.call f vs) := by
  refine Att.attach_callW hn hdf fun w s₀ s₁ mg mb fa o pm cd doc a vs ns G Y ho hd hcd hmg hobj hints hlen hsm hg => ?_
  have KX := hY w _ Y
  obtain ⟨fd, hb, hF⟩ := F w mg fa _ KX G.T.g hmg
  exact law_call KX G.T.g G.T.b G.T.builtins G.T.nolimit hg hobj hints (Nat.le_trans hlen hn2) hr hF hb (fun H hO hS => hsp w H a ns hlen hsm hO hS) fun H e s' => hCX w H s₁ e s'
end L2

set_option Elab.async false
set_option linter.all false
set_option maxRecDepth 100000
namespace L2
open PySem PySem.Spec PyProof.Rows
/-- a class of the text whose __init__ has a contract -/
def KnowsI (CX : CXT) (P : Program) (w : World) (K : PySem.W.Frag) (mg : Str → Option Value) (base : Heap) (k : Nat) (C : Addr) (ps : List Str) (sp : Sp) : Prop :=
  ∃ f fd, Mk K C f ∧ Binds K fd ps [] ∧ FnOk P w K mg base CX k f fd ps sp
section
variable {X : Cx} {CX : CXT} {x : Str} {ps : List Str} {sp : Sp} {j k : Nat} {e : Expr} {es : List Expr} {t : TA} {p pos : Pos} {E : XK} {C : Addr}
theorem pe_makeM (F : KnowsI CX X.prog X.w X.K X.mg X.base j C ps sp) (hr : Room k X.A) (hm : X.mg x = some (.ref C)) (hx : Passes CX X E) (ha : PA X (e :: es) t) (hjk : j + 1 ≤ k := by decide) (hg : Gl X x := by rfl)
    (hdb : (x == ("__debug__" : Str)) = false := by decide) (he : notStar e = true := by rfl) (hpl : es.all notStar = true := by rfl) : PE X (.Call (.Name x p) (e :: es) [] pos) (tMake C sp [] E t) := by
  obtain ⟨f, fd, M, hb, F⟩ := F
  exact pe_make M F (hr.mono hjk) hg hm hb .nil hx ha hdb (star_cons he) (star_none hpl)
end
end L2

set_option Elab.async false
set_option linter.all false
set_option maxRecDepth 100000
namespace L2
open PySem PySem.Spec PyProof.Rows
theorem def_mk {K : PySem.W.Frag} {h : Heap} {mg : Str → Option Value} (X : K.In h) (G : h.Ns mainGlobals mg) {x : Str} {st : Stmt} {ps : List Str} {f : Addr} {oc : Value} {od an : Option Addr} {osl : Array (Option Value)} {kV doc pm cdv ct : Value}
    (a : PySem.W.nsIn K mainGlobals x = some (some (.ref f))) (l : K.lookup f = some ⟨oc, od, .func (PySem.W.fnOf x x (defArgs st) (defBody st) (defScope st) .none kV doc pm an cdv ct), osl⟩) (c : PySem.W.codeIn K cdv x = true) (k : PySem.W.keepIn K (.ref f) = true)
    (b : ∀ (kV doc pm : Value) (an : Option Addr) (cdv ct : Value) (us : List Value), us.length = ps.length → bindArgs (PySem.W.fnOf x x (defArgs st) (defBody st) (defScope st) .none kV doc pm an cdv ct) ⟨us, []⟩ = pure (ps.zip us)) : Def K mg x st ps :=
  ⟨⟨_, _, fun_mk l c k, PySem.W.mg_of X G a, (fun_mk l c k).binds b⟩⟩
/-- a method's def -/
structure MDef (K : PySem.W.Frag) (C : Addr) (m qual : Str) (st : Stmt) (ps : List Str) : Prop where
  ex : ∃ f fd, Meth K C m f ∧ Fun K m qual st f fd ∧ Binds K fd ps []
/-- the def of __init__ of a class that is called -/
structure IDef (K : PySem.W.Frag) (C : Addr) (qual : Str) (st : Stmt) (ps : List Str) : Prop where
  ex : ∃ f fd, Mk K C f ∧ Fun K "__init__" qual st f fd ∧ Binds K fd ps []
theorem meth_mk {K : PySem.W.Frag} {C : Addr} {m qual : Str} {st : Stmt} {ps : List Str} {f : Addr} {oc : Value} {od an : Option Addr} {osl : Array (Option Value)} {kV doc pm cdv ct : Value}
    (a : PySem.W.findIn K (.ref C) m = some (some (.ref f))) (n : PySem.W.isFn K (.ref f) = true) (l : K.lookup f = some ⟨oc, od, .func (PySem.W.fnOf m qual (defArgs st) (defBody st) (defScope st) .none kV doc pm an cdv ct), osl⟩) (c : PySem.W.codeIn K cdv qual = true) (k : PySem.W.keepIn K (.ref f) = true)
    (b : ∀ (kV doc pm : Value) (an : Option Addr) (cdv ct : Value) (us : List Value), us.length = ps.length → bindArgs (PySem.W.fnOf m qual (defArgs st) (defBody st) (defScope st) .none kV doc pm an cdv ct) ⟨us, []⟩ = pure (ps.zip us)) : MDef K C m qual st ps :=
  ⟨⟨f, _, ⟨a, n, k⟩, fun_mk l c k, (fun_mk l c k).binds b⟩⟩
theorem init_mk {K : PySem.W.Frag} {C : Addr} {qual : Str} {st : Stmt} {ps : List Str} {f : Addr} {oc : Value} {od an : Option Addr} {osl : Array (Option Value)} {kV doc pm cdv ct : Value}
    (a : PySem.W.findIn K (.ref C) "__init__" = some (some (.ref f))) (n : PySem.W.isFn K (.ref f) = true) (l : K.lookup f = some ⟨oc, od, .func (PySem.W.fnOf "__init__" qual (defArgs st) (defBody st) (defScope st) .none kV doc pm an cdv ct), osl⟩) (c : PySem.W.codeIn K cdv qual = true) (k : PySem.W.keepIn K (.ref f) = true)
    (mk : PySem.W.makesIn K C = true) (kC : PySem.W.keepIn K (.ref C) = true)
    (b : ∀ (kV doc pm : Value) (an : Option Addr) (cdv ct : Value) (us : List Value), us.length = ps.length → bindArgs (PySem.W.fnOf "__init__" qual (defArgs st) (defBody st) (defScope st) .none kV doc pm an cdv ct) ⟨us, []⟩ = pure (ps.zip us)) : IDef K C qual st ps :=
  ⟨⟨f, _, ⟨mk, a, n, kC⟩, fun_mk l c k, (fun_mk l c k).binds b⟩⟩
section
variable {P : Program} {w : World} {K : PySem.W.Frag} {mg : Str → Option Value} {base : Heap} {C : Addr}
theorem MDef.knows {CX : CXT} {m qual : Str} {st : Stmt} {ps : List Str} {k : Nat} {sp : Sp} (D : MDef K C m qual st ps) (h : ∀ f fd, Fun K m qual st f fd → FnOk P w K mg base CX k f fd ps sp) : KnowsM CX P w K mg base k C m ps sp := by
  obtain ⟨f, fd, hm, F, hb⟩ := D.ex
  exact ⟨f, fd, hm, hb, h f fd F⟩
theorem IDef.knows {CX : CXT} {qual : Str} {st : Stmt} {ps : List Str} {k : Nat} {sp : Sp} (D : IDef K C qual st ps) (h : ∀ f fd, Fun K "__init__" qual st f fd → FnOk P w K mg base CX k f fd ps sp) : KnowsI CX P w K mg base k C ps sp := by
  obtain ⟨f, fd, hm, F, hb⟩ := D.ex
  exact ⟨f, fd, hm, hb, h f fd F⟩
end
end L2

set_option Elab.async false
set_option linter.all false
set_option maxRecDepth 100000
namespace L2
open PySem PySem.Spec PyProof.Rows
section
variable {X : Cx}
theorem kvLen {κ : Type} : ∀ {a : List (κ × V)} {b : List (κ × Value)}, KV a b → a.length = b.length
  | _, _, .nil => rfl
  | _, _, .cons _ r => by rw [List.length_cons, List.length_cons, kvLen r]
theorem kvKey {κ : Type} : ∀ {a : List (κ × V)} {b : List (κ × Value)} {i : Nat} {p : κ × V} {k : κ} {x : Value}, KV a b → a[i]? = some p → b[i]? = some (k, x) → p.1 = k
  | _, _, _, _, _, _, .nil, h, _ => by simp at h
  | _, _, 0, _, _, _, .cons h _, h1, h2 => by
    simp at h1 h2
    rw [← h1]
    have := h.1
    rw [h2] at this
    exact this
  | _, _, i + 1, _, _, _, .cons _ r, h1, h2 => kvKey r (i := i) (by simpa using h1) (by simpa using h2)
theorem vals_of : ∀ {vs : List V} {us : List Value}, vs.length = us.length → (∀ (i : Nat) (v : V) (u : Value), vs[i]? = some v → us[i]? = some u → RelV v u) → Vals vs us
  | [], [], _, _ => .nil
  | [], _ :: _, h, _ => by cases h
  | _ :: _, [], h, _ => by cases h
  | v :: vs, u :: us, h, k => .cons (k 0 v u rfl rfl) (vals_of (Nat.succ.inj h) fun i v' u' a b => k (i + 1) v' u' (by simpa using a) (by simpa using b))
end
end L2

set_option Elab.async false
set_option linter.all false
set_option maxRecDepth 100000
namespace L2
open PySem PySem.Spec PyProof.Rows
set_option maxHeartbeats 1000000 in
/-- what is known of the block's own dict at its end -/
structure CEnd (X : Cx) (pins : List (Addr × Obj)) (H : Hp) (C : Addr) : Prop where
  no : H C = none
  ne : C ≠ X.env.locals
  new : X.s₀.heap.objs.size ≤ C
  cl : ∀ x c, X.env.cells.lookup x = some c → c ≠ C
  pn : ∀ p ∈ X.pn ++ pins, p.1 ≠ C
set_option maxHeartbeats 1000000 in
theorem comp_gen {X : Cx} {elt iter tg : Expr} {pos ppos : Pos} {ifs : List Expr} {scope : Scope} {wi : TI} {g : TG} {tc : TT} {te : TE} {use : Option (Value → Sem Unit)} {Qf : Value → Shared → Prop} (own : List Str) (js : List Nat) (N' : List Str) (hc : X.calm = true)
    (hi : PI X tg iter wi)
    (hg : ∀ C s₀ H₀ ex, PG (cxComp X scope N' C s₀ H₀ ex) tg g)
    (ht : ∀ C s₀ H₀ ex, PTs (cxComp X scope N' C s₀ H₀ ex) ifs tc)
    (he : ∀ C s₀ H₀ ex, PE (cxComp X scope N' C s₀ H₀ ex) elt te)
    (hN' : N' = own ++ js.map fun j => X.N.getD j Str.empty)
    (hk : scope.kind = .function)
    (hcell : ∀ y ∈ scope.names, y.2 ≠ .cell)
    (hnames : ∀ y ∈ scope.names, y.2 = .local → scope.names.lookup y.1 = some .local)
    (hfr : (scope.names.all fun y => y.2 != .free || X.env.scope.names.lookup y.1 == some .cell) = true)
    (hjs : (js.all fun j => scope.names.lookup (X.N.getD j Str.empty) == some .free && (X.N[j]?).isSome) = true)
    (hs : ∀ z, foldedSetIterable iter X.env z = pure z)
    {pins : List (Addr × Obj)} {s : Shared} {σ : St} {H : Hp} {Q : VK} (I : Inv X pins σ H s) (h : tComp own.length js wi g tc te σ H Q)
    (fin : ∀ (D C : Addr) (H' : Hp) (s4 : Shared) (m : Str → Option Value), Inv X pins σ H' s4 → Q (.ref D) H' → s4.heap.Ns C m → CEnd X pins H' C → compPost (model X.prog X.w) X.A X.xe use Qf (.ref D) C (.ok .next) s4) :
    wpAny (model X.prog X.w) X.A (comprehension (.ListComp elt [⟨tg, iter, ifs, 0⟩] scope pos) scope X.env ppos (newList []) false (eval iter X.env) use) Qf X.xe s := by
  have free_cell : ∀ y ∈ scope.names, y.2 = .free → X.env.kindOf y.1 = some .cell := fun y hy hf => by
    have := List.all_eq_true.mp hfr y hy
    rw [hf] at this
    simp at this
    exact this
  have hcl : ∀ y ∈ scope.names, y.2 = .free → ∃ c, X.env.cells.lookup y.1 = some c := fun y hy hf => I.ok.has y.1 (.inl (free_cell y hy hf))
  refine wpAny_comprehension_free (use := use) rfl hs (closureFor_eq hcl) hk hnames ?_
  refine thn (hi pins s σ H _ I h) fun v s1 h1 => thn h1 fun itv s2 h2 => ?_
  obtain ⟨it, fp, tn, J, H2, e, I2, T, st2, f2, W, ⟨m0, w0⟩, turn⟩ := h2
  subst e
  refine wpAny_newObj_type (wpAny_newFunctionEnv hcell (by intro y hy; simp at hy) (fun h₁ hns₁ hsb₁ => ?_) hk)
  dsimp only at hns₁ hsb₁ ⊢
  generalize hG : s2.heap.push { cls := .type "list", dict := none, data := .seq ([] : List Value).toArray } = G at hns₁ hsb₁ ⊢
  have hC : G.objs.size = s2.heap.objs.size + 1 := by rw [← hG, Heap.size_push]
  have hDC : s2.heap.objs.size ≠ G.objs.size := by rw [hC]; exact Nat.ne_of_lt (Nat.lt_succ_self _)
  have below : ∀ b, b < s2.heap.objs.size → b ≠ G.objs.size ∧ b ≠ s2.heap.objs.size := fun b hb => ⟨by rw [hC]; exact Nat.ne_of_lt (Nat.lt_succ_of_lt hb), Nat.ne_of_lt hb⟩
  have old : ∀ b o, s2.heap.get? b = some o → h₁.get? b = some o := fun b o e => hsb₁.extBut b o (below b (Heap.lt_size e)).1 (Heap.get?_push_of_some _ (hG ▸ Heap.get?_push_of_some _ e))
  have hacc : h₁.get? s2.heap.objs.size = some { cls := .type "list", data := .seq ([] : List Value).toArray 0 } := hsb₁.extBut _ _ hDC (Heap.get?_push_of_some _ (hG ▸ Heap.get?_push_size _ rfl))
  have fplt : ∀ b ∈ fp, b < s2.heap.objs.size := fun b hb => let ⟨_, e, _⟩ := T.obj _ _ st2 b hb; Heap.lt_size e
  have ok' : (cxComp X scope N' G.objs.size s2 H2 fp).Ok := by
    refine ⟨I2.ok.mod, hk, I2.ok.glob, I2.ok.blt, by show s2.heap.objs.size ≤ G.objs.size; rw [hC]; exact Nat.le_succ _, fun x y c e1 e2 => I2.ok.inj x y c (lookup_closOf hcl e1) (lookup_closOf hcl e2), fun x hx => ?_,
      fun x c hx _ => (nomatch hx), I2.ok.hd, I2.ok.frames, .inl rfl, fun b hb => ⟨(below b (fplt b hb)).1, fun x c e => (f2 b hb).2.2.2.2.1 x c (lookup_closOf hcl e)⟩, I2.bs, Nat.le_trans I2.ok.bsz I2.sz, fun b o e hb => ?_, fun b hb z => ?_, I2.stack, I2.stkFree⟩
    · have hx' : (relabel scope X.env).names.lookup x = some .cell ∨ (relabel scope X.env).names.lookup x = some .free := hx
      have : (x, NameKind.free) ∈ scope.names ∨ (x, NameKind.cell) ∈ scope.names := by
        rcases hx' with z | z
        · exact relabel_back z (.inl rfl)
        · exact relabel_back z (.inr rfl)
      rcases this with z | z
      · exact has_closOf z
      · exact absurd rfl (hcell _ z)
    · rcases (f2 b hb).2.2.2.1 with z | z
      · exact I2.ok.noex b o e z
      · have h1 : b < X.base.objs.size := Heap.lt_size e
        exact absurd (Nat.lt_of_lt_of_le h1 (Nat.le_trans I2.ok.bsz z)) (Nat.lt_irrefl _)
    · rcases List.mem_cons.mp (I2.stkSub b z) with e | e
      · exact (f2 b hb).2.1 e
      · exact (f2 b hb).2.2.1 e
  have kindCap : ∀ i y, (js.map fun j => X.N.getD j Str.empty)[i]? = some y → ∃ j, js[i]? = some j ∧ X.N[j]? = some y ∧ scope.names.lookup y = some .free := fun i y e => by
    rw [List.getElem?_map] at e
    cases q : js[i]? with
    | none => rw [q] at e; cases e
    | some j =>
      rw [q] at e
      have e' : X.N.getD j Str.empty = y := Option.some.inj e
      have hj := List.all_eq_true.mp hjs j (List.mem_of_getElem? q)
      rw [Bool.and_eq_true] at hj
      obtain ⟨hj1, hj2⟩ := hj
      rw [e'] at hj1
      obtain ⟨z, hz⟩ := Option.isSome_iff_exists.mp hj2
      rw [List.getD_eq_getElem?_getD, hz] at e'
      exact ⟨j, q, by rw [hz]; exact congrArg some e', by simpa using hj1⟩
  have I0 : ∀ tk : Nat, Inv (cxComp X scope N' G.objs.size s2 H2 fp) [(s2.heap.objs.size, { cls := .type "list", data := .seq ([] : List Value).toArray 0 })] (List.replicate own.length none ++ caps σ js) H2 { s2 with heap := h₁, toks := tk } := fun tk => by
    refine ⟨ok', rfl, I2.bare, Un.kept old, ⟨_, hns₁, fun i y v e1 e2 e3 => ?_⟩, fun x c e => ?_, I2.hok.fresh (by show s2.heap.objs.size ≤ G.objs.size; rw [hC]; exact Nat.le_succ _), fun x c e => I2.freeC x c (lookup_closOf hcl e), fun p hp => ?_, I2.hok.kept old, ?_⟩
    · by_cases hlt : i < own.length
      · rw [List.getElem?_append_left (by simpa using hlt), List.getElem?_replicate] at e2
        split at e2 <;> cases e2
      · have e1' : N'[i]? = some y := e1
        rw [hN', List.getElem?_append_right (by omega)] at e1'
        rw [List.getElem?_append_right (by simpa using hlt), List.length_replicate] at e2
        obtain ⟨j, hj, hs2⟩ := caps_get e2
        obtain ⟨j', hj', hN, hfree⟩ := kindCap _ _ e1'
        rw [hj] at hj'; cases hj'
        obtain ⟨m, hm, hl⟩ := I2.loc
        have hcell' : X.env.kindOf y = some .cell := free_cell (y, .free) (PySem.mem_of_lookup hfree) rfl
        obtain ⟨u, r, l⟩ := hl j y v hN hs2 (.inr (.inl hcell'))
        refine ⟨u, r, ?_⟩
        rcases l with ⟨hk', _⟩ | ⟨hk', c, hc', z⟩
        · rw [hcell'] at hk'; cases hk'
        · obtain ⟨c', e'⟩ := has_closOf (env := X.env) (PySem.mem_of_lookup hfree)
          have := lookup_closOf hcl e'
          rw [hc'] at this; cases this
          refine .inr ⟨.inl (lookup_relabel_free I2.ok.kind hfree hcell'), c, e', ?_⟩
          obtain ⟨o, ho, hd⟩ := z
          exact ⟨o, old _ _ ho, hd⟩
    · obtain ⟨v, o, ho, hd⟩ := I2.cell x c (lookup_closOf hcl e)
      exact ⟨v, o, old _ _ ho, hd⟩
    · have hp' : p = (s2.heap.objs.size, { cls := .type "list", data := .seq ([] : List Value).toArray 0 }) := by
        rcases List.mem_append.mp hp with z | z
        · exact absurd (show p ∈ ([] : List (Addr × Obj)) from z) (by simp)
        · simpa using z
      subst hp'
      refine ⟨hacc, I2.hok.fresh (Nat.le_refl _), hDC, fun z => ?_, fun v z => by cases z⟩
      exact absurd (show s2.heap.objs.size ∈ frs X.stack from z) fun z => by
        rcases List.mem_cons.mp (I2.stkSub _ z) with e | e
        · have := I2.lt
          rw [← e] at this
          exact Nat.lt_irrefl _ this
        · exact I2.nofs (Nat.le_refl _) e
    · show _ = N'.length
      rw [hN']
      simp [caps]
  have stat : ∀ {H' : Hp} {ob : Obj}, (∀ b ∈ fp, H' b = none) → ∀ b ∈ fp, FpOk (cxComp X scope N' G.objs.size s2 H2 fp) [(s2.heap.objs.size, ob)] H' b := fun {H' ob} hn b hb =>
    ⟨hn b hb, (below b (fplt b hb)).1, fun z => ok'.exfs b hb z, .inl hb, fun x c e => (f2 b hb).2.2.2.2.1 x c (lookup_closOf hcl e), fun p hp => by
      have hp' : p = (s2.heap.objs.size, ob) := by
        rcases List.mem_append.mp hp with z | z
        · exact absurd (show p ∈ ([] : List (Addr × Obj)) from z) (by simp)
        · simpa using z
      subst hp'
      exact Ne.symm (below b (fplt b hb)).2⟩
  have loop : ∀ s₃ : Shared, s₃ = { s2 with heap := h₁, toks := s2.toks + ([] : List (Str × Value)).length } →
      codeAny (model X.prog X.w) X.A (.compLoop (.ListComp elt [⟨tg, iter, ifs, 0⟩] scope pos) 0 (.ref it) (.ref s2.heap.objs.size) (compEnvC scope (closOf scope X.env) G.objs.size X.env))
        (compPost (model X.prog X.w) X.A X.xe use Qf (.ref s2.heap.objs.size) G.objs.size) s₃ := by
    rintro s₃ rfl
    refine comp_loop (fun n s' => ∃ (i : Nat) (os : St) (H' : Hp) (ys : List V) (its : List Value) (k : Nat), os.length = own.length ∧
      Inv (cxComp X scope N' G.objs.size s2 H2 fp) [(s2.heap.objs.size, { cls := .type "list", data := .seq its.toArray k })] (os ++ caps σ js) H' s' ∧ tn i s'.heap ∧ (∀ b ∈ fp, H' b = none) ∧ Vals ys its ∧ W i n ys H') ?_ m0
      ⟨0, _, H2, [], [], 0, by simp, I0 _, T.keep _ _ _ st2 fun b _ o e => old b o e, fun b hb => (f2 b hb).1, .nil, w0⟩
    rintro n s3 ⟨i, os, H3, ys, its, k, hos, I3, st3, fr3, rv3, w3⟩
    have pinD : ∀ {σ' : St} {H' : Hp} {s' : Shared}, Inv (cxComp X scope N' G.objs.size s2 H2 fp) [(s2.heap.objs.size, { cls := .type "list", data := .seq its.toArray k })] σ' H' s' → s'.heap.get? s2.heap.objs.size = some { cls := .type "list", data := .seq its.toArray k } ∧ H' s2.heap.objs.size = none :=
      fun I => let q := I.pin (s2.heap.objs.size, { cls := .type "list", data := .seq its.toArray k }) (List.mem_append_right _ (by simp)); ⟨q.1, q.2.1⟩
    rcases turn i n ys H3 w3 with ⟨stop, hz, qn⟩ | ⟨go, hz, step⟩
    · refine thn (T.done (cxComp X scope N' G.objs.size s2 H2 fp) rfl rfl rfl hc i _ s3 _ H3 _ I3 (stat fr3) st3 stop) fun r s4 ⟨hr, I4⟩ => ?_
      subst hr
      obtain ⟨hD4, hn4⟩ := pinD I4
      obtain ⟨m, hm, _⟩ := I4.loc
      have hsb : Heap.SameBut G.objs.size s4.heap s4.heap := ⟨rfl, fun _ _ => rfl⟩
      have b4 := I4.base
      have nC : ∀ b o, s2.heap.get? b = some o → b ≠ G.objs.size := fun b o e => (below b (Heap.lt_size e)).1
      have nD : ∀ b o, s2.heap.get? b = some o → b ≠ s2.heap.objs.size := fun b o e => (below b (Heap.lt_size e)).2
      have hok' : HOk X.prog X.w H3 s4.heap := fun b ob e => by
        refine (I4.hok b ob e).stay (fun c w' hc' q => (hsb.2 c ?_).trans q) (fun _ q => q) fun _ _ q => q
        rintro rfl
        rcases hc' with hc' | hc'
        · rw [← hc', show H3 G.objs.size = none from I4.free] at e; cases e
        · rw [show H3 G.objs.size = none from I4.free] at hc'; cases hc'
      have hD' : s4.heap.get? s2.heap.objs.size = some { cls := .type "list", data := .seq its.toArray k } := (hsb.2 _ hDC).trans hD4
      have hCn : H3 G.objs.size = none := I4.free
      have hC2 : s2.heap.objs.size ≤ G.objs.size := by rw [hC]; exact Nat.le_succ _
      refine fin s2.heap.objs.size G.objs.size (upd H3 s2.heap.objs.size (.lst ys)) s4 m ?_ (qn _ hn4) hm ⟨by rw [upd_ne (Ne.symm hDC)]; exact hCn, fun z => ?_, Nat.le_trans I2.sz hC2, fun x c e z => ?_, fun p hp z => ?_⟩
      rotate_left
      · have h9 := I2.lt
        rw [← z] at h9
        exact Nat.lt_irrefl _ (Nat.lt_of_lt_of_le h9 hC2)
      · obtain ⟨v, o, ho, _⟩ := I2.cell x c e
        have h9 := Heap.lt_size ho
        rw [z] at h9
        exact Nat.lt_irrefl _ (Nat.lt_of_lt_of_le h9 hC2)
      · have h9 := Heap.lt_size (I2.pin p hp).1
        rw [z] at h9
        exact Nat.lt_irrefl _ (Nat.lt_of_lt_of_le h9 hC2)
      refine I2.call' (ch := fp) I4.os ⟨fun b o e n hb hx => ?_, fun b o e n hb hx => ?_, fun b o e n hx => ?_, fun b o e hx => ?_, fun b xs q => ?_, fun b o u q => ?_, fun b ps q => ?_⟩ (hok'.track hn4 ⟨hz, its, k, rv3, hD'⟩) I4.bare fun b hb => ⟨(f2 b hb).2.2.2.1, (f2 b hb).2.1, (f2 b hb).2.2.2.2.1, (f2 b hb).2.2.2.2.2⟩
      · exact (hsb.2 b (nC b o e)).trans (b4.keep b o e n hb hx)
      · obtain ⟨sl, e1⟩ := b4.slot b o e n hb hx
        exact ⟨sl, (hsb.2 b (nC b o e)).trans e1⟩
      · rw [upd_ne (nD b o e)]; exact b4.free b o e n hx
      · obtain ⟨o', e1⟩ := b4.there b o e hx
        exact ⟨o', (hsb.2 b (nC b o e)).trans e1⟩
      · have z := b4.tups b xs q
        rw [upd_ne (ne_of_none z hn4)]; exact z
      · have z := b4.frzs b o u q
        rw [upd_ne (ne_of_none z hn4)]; exact z
      · obtain ⟨more, z⟩ := b4.tbls b ps q
        exact ⟨more, by rw [upd_ne (ne_of_none z hn4)]; exact z⟩
    · refine thn (T.item (cxComp X scope N' G.objs.size s2 H2 fp) rfl rfl rfl hc i _ s3 _ H3 _ I3 (stat fr3) st3 go) fun r s4 ⟨u, hr, h4⟩ => ?_
      subst hr
      refine thn h4 fun _ s5 ⟨x, H5, I5, r5, y5, st5, fr5⟩ => ?_
      have fpo := T.obj _ _ st5
      have I5' := I5.pinned (stat fr5) fpo
      refine wpAny_mono (hg _ _ _ _ _ s5 _ H5 x u _ I5' r5 (step x H5 y5 os hos)) (fun _ s6 ⟨σ6, H6, I6, ⟨os', hos', e6⟩, q6⟩ => ?_) fun _ _ z => False.elim z
      subst e6
      refine wpAny_mono (ht _ _ _ _ _ s6 _ H6 _ I6 q6) (fun ok s7 ⟨H7, I7, q7⟩ => ?_) fun _ _ z => False.elim z
      have keepFp : ∀ {σ' : St} {H' : Hp} {s' : Shared}, Inv (cxComp X scope N' G.objs.size s2 H2 fp) ([(s2.heap.objs.size, { cls := .type "list", data := .seq its.toArray k })] ++ pinsAt fp s5.heap) σ' H' s' → tn (i + 1) s'.heap ∧ ∀ b ∈ fp, H' b = none := fun I => by
        refine ⟨T.keep _ _ _ st5 fun b hb o e => (I.pin (b, o) (List.mem_append_right _ (List.mem_append_right _ (mem_pinsAt hb e)))).1, fun b hb => ?_⟩
        obtain ⟨o, e, d⟩ := fpo b hb
        exact (I.pin (b, o) (List.mem_append_right _ (List.mem_append_right _ (mem_pinsAt hb e)))).2.1
      cases ok with
      | false =>
        obtain ⟨m', hm', w'⟩ := q7
        obtain ⟨k1, k2⟩ := keepFp I7
        exact ⟨m', hm', i + 1, os', H7, ys, its, k, hos', I7.unpinned, k1, k2, rv3, w'⟩
      | true =>
        rw [if_pos rfl]
        refine wpAny_mono (he _ _ _ _ _ s7 _ H7 _ I7 q7) (fun yv s8 ⟨y, H8, I8, r8, q8⟩ => ?_) fun _ _ z => False.elim z
        obtain ⟨m', hm', w'⟩ := q8
        obtain ⟨k1, k2⟩ := keepFp I8
        have I8' := I8.unpinned
        obtain ⟨hD8, hn8⟩ := pinD I8'
        have hil : its.length < sizeLine := by rw [← rv3.length]; exact hz
        refine call_meets F.slot_list_append ⟨_, hD8, rfl⟩ F.entry_list_append (F.args_list_append_2 _ _) (PySem.list_append _ its.toArray k yv (by rw [List.size_toArray]; omega)) ⟨hD8, ?_⟩
        have q : (s8.heap.update s2.heap.objs.size (Obj.mapSeq fun a => a.push yv)).get? s2.heap.objs.size = some { cls := .type "list", data := .seq (its ++ [yv]).toArray (if (its.toArray.push yv).size == its.toArray.size then k else k + 1) } := by
          have q0 := PySem.IsL.update hD8 (fun a : Array Value => a.push yv)
          have ea : its.toArray.push yv = (its ++ [yv]).toArray := by simp
          rw [← ea]
          exact q0
        refine ⟨m', hm', i + 1, os', H8, ys ++ [y], its ++ [yv], (if (its.toArray.push yv).size == its.toArray.size then k else k + 1), hos', ?_, T.keep _ _ _ k1 fun b hb o e => (Heap.get?_update_other s8.heap _ (below b (fplt b hb)).2.symm).trans e, k2, rv3.append (.cons r8 .nil), w'⟩
        have In : Inv (cxComp X scope N' G.objs.size s2 H2 fp) [] (os' ++ caps σ js) H8 s8 := I8'.pins_of fun p hp => absurd hp (by simp)
        have It : Inv (cxComp X scope N' G.objs.size s2 H2 fp) [] (os' ++ caps σ js) H8 { s8 with heap := s8.heap.update s2.heap.objs.size (Obj.mapSeq fun a => a.push yv) } :=
          In.turned (it := s2.heap.objs.size) (t' := s8.toks) (fun b o hb e => (Heap.get?_update_other s8.heap _ (Ne.symm hb)).trans e) hn8 hDC (.inr (Nat.le_refl _)) (fun x c e z => by
            obtain ⟨v, o, ho, hd⟩ := I8'.cell x c e
            rw [z, hD8] at ho
            cases ho
            cases hd) fun p hp => absurd hp (by simp [cxComp])
        refine It.pins_of fun p hp => ?_
        have hp' : p = (s2.heap.objs.size, { cls := .type "list", data := .seq (its ++ [yv]).toArray (if (its.toArray.push yv).size == its.toArray.size then k else k + 1) }) := List.mem_singleton.mp hp
        subst hp'
        exact ⟨q, hn8, hDC, (I8'.pin _ (List.mem_append_right _ (List.mem_singleton.mpr rfl))).2.2.2.1, fun v z => by cases z⟩
  exact codeAny_compStart_list (loop _ rfl) (T.self _ 0 _ _ _ (T.keep _ _ _ st2 fun b _ o e => old b o e) (loop _ rfl))
/-- y = [elt for x in iter if ..], y a local name of the def: it is stored ahead of the block's own names' end -/
theorem ps_setC {X : Cx} {elt iter : Expr} {x y : Str} {px py pos spos : Pos} {ifs : List Expr} {scope : Scope} {wi : TI} {tc : TT} {te : TE} {i : Nat} (js : List Nat) (N' : List Str) (hN : X.N.Nodup) (hy : X.N[i]? = some y) (hl : Loc X.env.scope y) (hc : X.calm = true)
    (hi : PI X (.Name x px) iter wi)
    (ht : ∀ C s₀ H₀ ex, PTs (cxComp X scope N' C s₀ H₀ ex) ifs tc)
    (he : ∀ C s₀ H₀ ex, PE (cxComp X scope N' C s₀ H₀ ex) elt te)
    (hsw : swapsWith (.ListComp elt [⟨.Name x px, iter, ifs, 0⟩] scope pos) (some (.Name y py)) spos.line X.env = pure true := by rfl)
    (hf : X.fn y = true ∨ X.env.scope.names.lookup y = some .local := by first | exact .inl rfl | exact .inr rfl | assumption)
    (nd : N'.Nodup := by decide +kernel)
    (hx : scope.names.lookup x = some .local := by rfl)
    (hN' : N' = [x] ++ js.map fun j => X.N.getD j Str.empty := by rfl)
    (hk : scope.kind = .function := by rfl)
    (hcell : ∀ y ∈ scope.names, y.2 ≠ .cell := by decide +kernel)
    (hnames : ∀ y ∈ scope.names, y.2 = .local → scope.names.lookup y.1 = some .local := by decide +kernel)
    (hfr : (scope.names.all fun y => y.2 != .free || X.env.scope.names.lookup y.1 == some .cell) = true := by rfl)
    (hjs : (js.all fun j => scope.names.lookup (X.N.getD j Str.empty) == some .free && (X.N[j]?).isSome) = true := by rfl)
    (hs : ∀ z, foldedSetIterable iter X.env z = pure z := by intro _; rfl) :
    PS X (.Assign [.Name y py] (.ListComp elt [⟨.Name x px, iter, ifs, 0⟩] scope pos) spos) (tAsg (tComp 1 js wi (gName 0) tc te) (gName i)) := by
  intro pins s σ H D I h
  rw [exec_Assign_Name_used _ _ _ _ hsw]
  refine wpAny_bind (wpAny_standAt (wpAny_bind ?_))
  show wpAny _ _ (do let _ ← comprehension (.ListComp elt [⟨.Name x px, iter, ifs, 0⟩] scope pos) scope X.env _ (newList []) false (eval iter X.env) (some (assign (.Name y py) X.env))) _ _ s
  refine wpAny_bind (wpAny_mono (comp_gen (use := some (assign (.Name y py) X.env)) (Qf := fun _ s' => SP X pins D .next s') [x] js N' hc hi (fun C s₀ H₀ ex => pg_name (X := cxComp X scope N' C s₀ H₀ ex) (i := 0) nd (by show N'[0]? = some x; rw [hN']; rfl) (Or.inl (lookup_relabel_local hx)) (.inr (lookup_relabel_local hx)))
    ht he hN' hk hcell hnames hfr hjs hs I h ?_) (fun _ s' hq => wpAny_pure (wpAny_pure hq)) fun _ _ e => e)
  intro B C H' s4 m I4 q hn ce
  refine wpAny_assign_Name (store_ok2 I4 hN hy hl (v := .ref B) rfl (fun s5 I5 ⟨a, sb, ha⟩ => ?_) hf)
  have hne : C ≠ a := by
    rcases ha with rfl | ha
    · exact ce.ne
    · exact Ne.symm (ce.cl _ _ ha)
  refine ⟨m, hn.sameBut sb hne, fun h' hsb => ⟨_, H', I5.turned (t' := s5.toks) (it := C) (fun b o hb e => (hsb.2 b hb).trans e) ce.no ce.ne (.inr ce.new) ce.cl ce.pn, q⟩⟩
end L2

set_option Elab.async false
set_option linter.all false
set_option maxRecDepth 100000
set_option maxHeartbeats 1000000
namespace L2
open PySem PySem.Spec PyProof.Rows
/-! ### for x, y in zip(t, u), t and u tuples -/
section
variable {P : Program} {w : World} {A : Around} {E : Value → Shared → Prop} {s : Shared}
end
end L2

set_option Elab.async false
set_option linter.all false
set_option maxRecDepth 100000
set_option maxHeartbeats 3200000
namespace L2
open PySem PySem.Spec PyProof.Rows
/-! ### the unlike ones of a row of keys -/
@[reducible] def keyBEq : BEq Key := instBEqOfDecidableEq
local instance (priority := 10000) keyBEqI : BEq Key := keyBEq
local instance (priority := 10000) keyLaw : @LawfulBEq Key keyBEq := inferInstanceAs (@LawfulBEq Key instBEqOfDecidableEq)
def addK (σ : List Key) (k : Key) : List Key := if k ∈ σ then σ else σ ++ [k]
def metK (val : Nat → Key) : Nat → List Key
  | 0 => []
  | i + 1 => addK (metK val i) (val i)
theorem metK_le (val : Nat → Key) : ∀ i, (metK val i).length ≤ i
  | 0 => Nat.le_refl _
  | i + 1 => by
    have := metK_le val i
    show (addK (metK val i) (val i)).length ≤ i + 1
    unfold addK
    split
    · omega
    · rw [List.length_append]; simp; omega
def uniqK (ks : List Key) : List Key := metK (fun i => ks.getD i (.inl 0)) ks.length
section
variable {P : Program} {w : World} {A : Around} {R : Result → Shared → Prop} {I : Addr} {fp wr : List Addr} {G : Array GenState → Array GenState → Prop} {n : Nat} {Pr : Nat → Value → Prop} {St : Nat → Shared → Prop}
theorem setFill (W : WalksS P w A.in1 I fp wr G n Pr St) (D : Addr) (hD : D ∉ fp) (val : Nat → Key) (hval : ∀ i v, Pr i v → (mixKind P w).is (val i) v = true ∧ v.scannable = true) (hb : n + 1 < scanBound) :
    ∀ (k i : Nat) (s : Shared), n - i = k → i ≤ n → St i s → s.heap.SetOf (mixKind P w) D (fun q => decide (q ∈ metK val i)) (metK val i).length →
      (∀ s', Moved (D :: wr) G s s' → s'.heap.SetOf (mixKind P w) D (fun q => decide (q ∈ metK val n)) (metK val n).length → R (.ok (.ret .none)) s') →
      codeAny (model P w) A (.builtin "set.update.loop" ⟨[.ref D, .ref I], []⟩) R s := by
  have hDw : D ∉ wr := fun h => hD (W.sub _ h)
  have sub : ∀ b ∈ wr, b ∈ D :: wr := fun b h => List.mem_cons_of_mem _ h
  have mv : ∀ {s s' : Shared} {T : Key → Bool} {m : Nat}, Moved wr G s s' → s.heap.SetOf (mixKind P w) D T m → s'.heap.SetOf (mixKind P w) D T m := fun hm h => by
    obtain ⟨o, es, ep, tb, ho, rest⟩ := h
    exact ⟨o, es, ep, tb, hm.heap D _ hDw ho, rest⟩
  intro k
  induction k with
  | zero =>
    intro i s hk hi hst hS hR
    obtain rfl : i = n := by omega
    refine codeAny_builtin F.entry_set_update_loop ?_
    rw [Around.under_plainId F.plain_set_update_loop _]
    exact wpAny_bind (m := pyNext (.ref I)) (W.done s _ _ hst fun s' hm => wpAny_pure (hR s' (hm.mono sub) (mv hm hS)))
  | succ k ih =>
    intro i s hk hi hst hS hR
    have lt : i < n := by omega
    refine codeAny_builtin F.entry_set_update_loop ?_
    rw [Around.under_plainId F.plain_set_update_loop _]
    refine wpAny_bind (m := pyNext (.ref I)) (W.item i s _ _ lt hst fun v s' hP hst' hm => ?_)
    obtain ⟨hi1, hi2⟩ := hval i v hP
    have hS' := mv hm hS
    refine wpAny_bind (m := holding [v] (setAdd D v)) (wpAny_holding ?_)
    unfold setAdd
    refine wpAny_holding (wpAny_bind ((mixKind P w).pyHash (k := val i) hi1 ?_))
    have room : (metK val i).length + 1 < scanBound := by have := metK_le val i; omega
    refine wpAny_setAddHashed_of (knd := mixKind P w) (s := { s' with toks := s'.toks + 1 }) hi1 hi2 hS' room fun h' sb S2 => ?_
    have Sn : h'.SetOf (mixKind P w) D (fun q => decide (q ∈ metK val (i + 1))) (metK val (i + 1)).length := by
      refine SetOf_congr S2 (fun q => ?_) ?_
      · show (decide (q ∈ metK val i) || decide (q = val i)) = decide (q ∈ addK (metK val i) (val i))
        unfold addK
        by_cases h1 : val i ∈ metK val i
        · rw [if_pos h1]
          by_cases e : q = val i
          · subst e; simp [h1]
          · simp [e]
        · rw [if_neg h1]
          simp
      · show (if decide (val i ∈ metK val i) = true then _ else _) = (addK (metK val i) (val i)).length
        unfold addK
        by_cases h1 : val i ∈ metK val i
        · rw [if_pos h1, if_pos (decide_eq_true h1)]
        · rw [if_neg h1, if_neg (by simpa using h1)]
          simp
    refine wpAny_pure ⟨plainId_quiet F.plain_set_update_loop _, ih (i + 1) _ (by omega) lt (W.frame _ s' _ _ hst' (Nat.le_succ _) fun b hb' o e => ?_) Sn fun s'' m2 T2 => ?_⟩
    · rw [sb.2 b (fun h => hD (h ▸ hb'))]; exact e
    · refine hR s'' (Moved.trans W.gtrans ((hm.mono sub).then_heap (Nat.le_succ _) fun b o hb' e => ?_) m2) T2
      rw [sb.2 b (fun h => hb' (h ▸ List.mem_cons_self))]; exact e
end
section
variable {P : Program} {w : World} {A : Around} {E : Value → Shared → Prop} {s : Shared}
theorem call_set_keys {l : Addr} {items : Array Value} {ks : List Key} {Q : Value → Shared → Prop} (hh : A.handled = none) (hl : s.heap.IsList l items) (hlen : items.size = ks.length) (hi : ∀ i v, items[i]? = some v → (mixKind P w).is (ks.getD i (.inl 0)) v = true ∧ v.scannable = true) (hb : items.size + 1 < scanBound)
    (h : ∀ (h' : Heap) (tk : Nat), h'.SetOf (mixKind P w) s.heap.objs.size (fun q => decide (q ∈ uniqK ks)) (uniqK ks).length → (∀ b o, b < s.heap.objs.size → s.heap.get? b = some o → h'.get? b = some o) → Q (.ref s.heap.objs.size) { s with heap := h', toks := tk }) :
    wpAny (model P w) A (call (.type "set") [.ref l]) Q E s := by
  obtain ⟨c, tl, hmro⟩ := F.called_set.mro
  have hmade := F.called_set.made
  have hsub := F.called_set.sub
  refine wpAny_call (codeAny_of_tree (?_ : wpAny _ _ (callAny (.type "set") _) _ _ _))
  refine wpAny_pure ⟨Code.quiet_builtin _ (by decide +kernel), codeAny_builtin F.entry_type_call ?_⟩
  rw [Around.under_plain (weight_type_call_type "set" [.ref l] []) rfl]
  have k1 := F.called_set.notType
  have k2 := F.called_set.canCreate
  have hct := F.typeCall_set_1 (.ref l)
  repeat (any_goals (first | assumption | wp_step))
  refine codeAny_mono (code_set_new_1 (.ref l) (E := E) (Q₁ := fun obj s₁ => ∃ led : Bool, obj = .ref s.heap.objs.size ∧ s₁ = { s with heap := s.heap.push ⟨.type "set", none, .set #[] 0 (.fresh 0 0 led), #[]⟩ }) fun led => ⟨led, rfl, rfl⟩) fun r s₁ hr => ?_
  cases r with
  | error e => exact hr
  | ok fl =>
    cases fl with
    | ret obj =>
      obtain ⟨led, rfl, rfl⟩ := hr
      have hS : (s.heap.push ⟨.type "set", none, .set #[] 0 (.fresh 0 0 led), #[]⟩).get? s.heap.objs.size = some ⟨.type "set", none, .set #[] 0 (.fresh 0 0 led), #[]⟩ := Heap.get?_push_size _ rfl
      have hT : Shared.TypeIs { s with heap := s.heap.push ⟨.type "set", none, .set #[] 0 (.fresh 0 0 led), #[]⟩ } (.ref s.heap.objs.size) "set" := ⟨_, hS, rfl⟩
      have hli := F.called_set.init.lookup
      have hbi := F.called_set.init.bind (.ref s.heap.objs.size)
      repeat (any_goals (first | assumption | wp_step))
      refine codeAny_mono (codeAny_call_builtin (R := wants (fun r s₂ => r = .none ∧ ∃ h' tk, s₂ = { s with heap := h', toks := tk } ∧ h'.SetOf (mixKind P w) s.heap.objs.size (fun q => decide (q ∈ uniqK ks)) (uniqK ks).length ∧ (∀ b o, b < s.heap.objs.size → s.heap.get? b = some o → h'.get? b = some o)) E) F.called_set.init.plain F.entry_set_init (check_set_init_1 hT ?_)) fun r₂ s₂ hr₂ => ?_
      · obtain ⟨ol, hol, hcl, nl, hdl⟩ := hl
        obtain ⟨ocls, odict, odata, oslots⟩ := ol
        simp only at hcl hdl
        subst hcl; subst hdl
        have hol' : (s.heap.push ⟨.type "set", none, .set #[] 0 (.fresh 0 0 led), #[]⟩).get? l = some { cls := .type "list", dict := odict, data := .seq items nl, slots := oslots } := Heap.get?_push_of_some _ hol
        have hsls := F.sub_list_set
        have hslf := F.sub_list_frozenset
        have hne : (Value.type "list" == Value.type "dict") = false := by decide
        have hl1 : (s.heap.push ⟨.type "set", none, .set #[] 0 (.fresh 0 0 led), #[]⟩).IsList l items := ⟨_, hol', rfl, nl, rfl⟩
        unfold Builtin.«set.__init__» noKeywords Builtin.Frozenset.updateFrom
        generalize hPI : pyIter = PI
        wp_walk
        subst hPI
        refine wpAny_pyIter_list hl1 (wpAny_bind (wpAny_runValue ?_))
        have hlS : l < s.heap.objs.size := Heap.lt_size hol
        have hh3 : A.in1.in1.in1.handled = none := by simp [hh]
        have hneI : l ≠ (s.heap.push ⟨.type "set", none, .set #[] 0 (.fresh 0 0 led), #[]⟩).objs.size := by rw [Heap.size_push]; exact Nat.ne_of_lt (Nat.lt_succ_of_lt hlS)
        have hSf : s.heap.objs.size ∉ [(s.heap.push ⟨.type "set", none, .set #[] 0 (.fresh 0 0 led), #[]⟩).objs.size, l] := by
          rw [Heap.size_push]
          intro q
          rcases List.mem_cons.mp q with q | q
          · exact Nat.ne_of_lt (Nat.lt_succ_self _) q
          · exact Nat.ne_of_gt hlS (List.mem_singleton.mp q)
        refine setFill ((Walks.list hh3 _ l hneI items).toS) s.heap.objs.size hSf (fun i => ks.getD i (.inl 0)) hi hb (items.size - 0) 0 _ (by omega) (Nat.zero_le _) ⟨⟨_, Heap.get?_push_size _ rfl, rfl, rfl⟩, (hl1.push _)⟩ ?hS0 ?hR
        case hS0 =>
          have hget : ((s.heap.push ⟨.type "set", none, .set #[] 0 (.fresh 0 0 led), #[]⟩).push { cls := .type "list_iterator", data := .fields #[.ref l, .int 0 0] }).get? s.heap.objs.size = some ⟨.type "set", none, .set #[] 0 (.fresh 0 0 led), #[]⟩ := Heap.get?_push_of_some _ hS
          exact SetOf_congr ((setObjOf_fresh (knd := mixKind P w) led).setOf hget (by unfold scanBound; omega)) (fun q => by show false = decide (q ∈ ([] : List Key)); simp) rfl
        case hR =>
          intro s' hm hS'
          obtain ⟨h', g', d', tk', os'⟩ := s'
          obtain rfl : g' = s.gens := hm.gens
          obtain rfl : d' = s.drawn := hm.drawn
          obtain rfl : os' = s.os := hm.os
          show wpAny _ _ _ _ _ _
          refine wpAny_pure (?_ : wpAny _ _ (ret Value.none) _ _ _)
          rw [hlen] at hS'
          refine wpAny_pure ⟨rfl, h', tk', rfl, hS', fun b o hb' e => ?_⟩
          have n1 : b ≠ s.heap.objs.size := Nat.ne_of_lt hb'
          have n2 : b ≠ (s.heap.push ⟨.type "set", none, .set #[] 0 (.fresh 0 0 led), #[]⟩).objs.size := by rw [Heap.size_push]; exact Nat.ne_of_lt (Nat.lt_succ_of_lt hb')
          refine hm.heap b o (fun q => ?_) (Heap.get?_push_of_some _ (Heap.get?_push_of_some _ e))
          rcases List.mem_cons.mp q with q | q
          · exact n1 q
          · exact n2 (List.mem_singleton.mp q)
      · cases r₂ with
        | error e => exact hr₂
        | ok fl₂ =>
          cases fl₂ with
          | ret r =>
            obtain ⟨rfl, h', tk, rfl, hS', hk'⟩ := hr₂
            repeat (any_goals (first | assumption | wp_step))
            exact h _ _ hS' hk'
          | _ => exact hr₂.elim
    | _ => exact hr.elim
end
end L2

set_option Elab.async false
set_option linter.all false
set_option maxRecDepth 100000
set_option maxHeartbeats 1000000
namespace L2
open PySem PySem.Spec PyProof.Rows
/-! ### len(set(l)), sum(l), list(range(n)), l[a:b:c] -/
section
variable {X : Cx} {e l : Expr} {te tl : TE} {p pos p2 pos2 : Pos}
def tLenSet (K : PySem.W.Frag) (tl : TE) : TE := fun σ H Q => tl σ H fun x H1 => ∃ a ks, x = .ref a ∧ SqL K H1 a (ks.map kV) ∧ ks.length + 1 < scanBound ∧ Q (.int ((uniqK ks).length : Int)) H1
theorem boot_set : bootBuiltins "set" = some (.type "set") := by kernel_rfl
theorem kV_scan {k : Key} {u : Value} (r : RelV (kV k) u) : u.scannable = true := by
  cases k with
  | inl i => obtain ⟨t, rfl⟩ := (show ∃ t, u = Value.int i t from r); rfl
  | inr x => obtain ⟨t, rfl⟩ := (show ∃ t, u = Value.str x t from r); rfl
theorem pe_lenset (hc : X.calm = true) (h1 : X.mg "len" = none) (h2 : X.mg "set" = none) (hl : PE X l tl) (hg1 : Gl X "len" := by rfl) (hg2 : Gl X "set" := by rfl) (hs : notStar l = true := by rfl) :
    PE X (.Call (.Name "len" p) [.Call (.Name "set" p2) [l] [] pos2] [] pos) (tLenSet X.K tl) := by
  intro pins s σ H Q I h
  refine wpAny_Call_Name_kw (ld_blt I hg1 h1 boot_len ?_)
  refine PyProof.Rows.callWith_builtin1 ?_ (star_cons rfl) (star_none rfl)
  rw [star_cons rfl]
  refine (Calls.spliced_cons ?_ : wpAny _ _ (spliced ((false, eval (.Call (.Name "set" p2) [l] [] pos2) X.env) :: backTo pos (starEach [] X.env))) _ _ s)
  refine wpAny_Call_Name_kw (ld_blt I hg2 h2 boot_set ?_)
  have h' : (tCons tl tNil) σ H (fun vs H1 => match vs with | [x] => (∃ a ks, x = .ref a ∧ SqL X.K H1 a (ks.map kV) ∧ ks.length + 1 < scanBound ∧ Q (.int ((uniqK ks).length : Int)) H1) | _ => False) := h
  refine PyProof.Rows.callWith_type1 (thn ((pa_c hl pa_nil hs) pos2 pins s σ H _ I h') fun us s1 ⟨vs, H1, I1, r1, q1⟩ => ?_) (star_cons hs) (star_none rfl)
  match vs, q1, r1 with
  | [x], q1, r1 =>
  obtain ⟨a, ks, rfl, hq, hb, q⟩ := q1
  obtain ⟨u, rfl, ru⟩ := r1.one
  cases ru
  obtain ⟨its, rv, pl, hz⟩ := I1.list hq
  have hlen := rv.length
  rw [List.length_map] at hlen
  refine call_set_keys (ks := ks) (I1.ok.hd hc) pl.isList (by simpa using hlen.symm) (fun i v hv => ?_) (by rw [List.size_toArray, ← hlen]; exact hb) fun h' tk so k => Calls.spliced_nil ?_
  · have hv' : its[i]? = some v := by simpa using hv
    have hi : i < ks.length := by have := (List.getElem?_eq_some_iff.mp hv').1; omega
    obtain ⟨u', e', r'⟩ := rv.get (i := i) (x := kV ks[i]) (by simp [hi])
    rw [e'] at hv'
    cases hv'
    have e2 : ks.getD i (.inl 0) = ks[i] := by simp [List.getD_eq_getElem?_getD, hi]
    rw [e2]
    exact ⟨kV_is r', kV_scan r'⟩
  · obtain ⟨o, es, ep, t, ho, hex, hd, _, _, hsz, hf, hn⟩ := so
    have hbig : scanBound ≤ 2 ^ 62 := by decide
    refine call_len_set ho hex hd hf (by omega) ⟨.int ((uniqK ks).length : Int), H1, ?_, ⟨_, by rw [hn]⟩, q⟩
    exact I1.kept fun b o e => k b o (Heap.lt_size e) e
variable {lo hi : Option Expr} {st : Expr} {t1 t2 t3 : TO}
end
/-! ### isinstance(x, (T, ..)) -/
section
variable {X : Cx} {pins : List (Addr × Obj)} {σ : St} {H : Hp} {s : Shared}
end
end L2

set_option Elab.async false
set_option linter.all false
set_option maxRecDepth 100000
set_option maxHeartbeats 1000000
namespace L2
open PySem PySem.Spec PyProof.Rows
/-! ### a class of the text that is called with keywords, defaults left out -/
section
variable {P : Program} {w : World} {K : PySem.W.Frag} {mg : Str → Option Value} {base : Heap}
end
section
variable {X : Cx} {CX : CXT} {x : Str} {ps ks : List Str} {sp : Sp} {j k np : Nat} {T : List Bi} {e : Expr} {es : List Expr} {kws : List Keyword} {t tk : TA} {p pos : Pos} {E : XK} {C f : Addr} {fd : FuncData} {Bs : PySem.W.Frag → FuncData → Prop}
end
end L2

set_option Elab.async false
set_option linter.all false
set_option maxRecDepth 100000
set_option maxHeartbeats 3200000
namespace L2
open PySem PySem.Spec PyProof.Rows
/-! ### dict(l), l a list of pairs -/
section
variable {P : Program} {w : World} {A : Around} {E : Value → Shared → Prop} {s : Shared}
end
namespace F
end F
section
variable {P : Program} {w : World} {A : Around} {R : Result → Shared → Prop} {I : Addr} {fp wr : List Addr} {G : Array GenState → Array GenState → Prop} {n : Nat} {Pr : Nat → Value → Prop} {St : Nat → Shared → Prop}
end
section
variable {P : Program} {w : World} {A : Around} {E : Value → Shared → Prop} {s : Shared}
end
section
variable {X : Cx}
end
end L2

set_option Elab.async false
set_option linter.all false
set_option maxRecDepth 100000
set_option maxHeartbeats 1000000
namespace L2
open PySem PySem.Spec PyProof.Rows
section
variable {X : Cx}
theorem ints_vals : ∀ {vs : List Value} {ns : List Int}, IntsAre vs ns → Vals (ns.map V.int) vs
  | _, _, .nil => .nil
  | _, _, .cons n t r => .cons ⟨t, rfl⟩ (ints_vals r)
theorem boot_sorted' : bootBuiltins "sorted" = some (.builtin "sorted") := by kernel_rfl
end
/-! ### isinstance(x, C), C a class of the text -/
section
variable {X : Cx} {pins : List (Addr × Obj)} {σ : St} {H : Hp} {s : Shared}
end
end L2

set_option Elab.async false
set_option linter.all false
set_option maxRecDepth 100000
namespace L2
open PySem PySem.Spec PyProof.Rows
end L2

set_option Elab.async false
set_option linter.all false
set_option maxRecDepth 100000
namespace L2
open PySem PySem.Spec PyProof.Rows
/-! ### a method of an object whose class is one of some -/
section
variable {X : Cx} {CX : CXT} {ι : Type} {c : ι → Addr} {m : Str} {ps : List Str} {sp : ι → Sp} {j k : Nat} {o e : Expr} {es : List Expr} {ta : TE} {t : TA} {apos pos : Pos} {E : XK}
end
/-! ### a comprehension over a list of pairs, with a test -/
end L2

set_option Elab.async false
set_option linter.all false
set_option maxRecDepth 100000
namespace L2
open PySem PySem.Spec PyProof.Rows
/-! ### what is being handled, if anything is, has no context of its own -/
def Quiet (A : Around) (h : Heap) : Prop := A.handled = none ∨ ∃ (a : Addr) (o : Obj) (fs : Array Value), A.handled = some (.ref a) ∧ h.get? a = some o ∧ o.data = .fields fs ∧ fs[2]? = some .none
theorem Quiet.ext {A : Around} {h h' : Heap} (q : Quiet A h) (e : ∀ a o, A.handled = some (.ref a) → h.get? a = some o → h'.get? a = some o) : Quiet A h' := by
  rcases q with q | ⟨a, o, fs, a1, a2, a3, a4⟩
  · exact .inl q
  · exact .inr ⟨a, o, fs, a1, e a o a1 a2, a3, a4⟩
theorem Quiet.in1 {A : Around} {h : Heap} (q : Quiet A h) : Quiet A.in1 h := q
theorem entry_unchain : entryFor table "proto.unchain" = some Builtin.«proto.unchain» := by kernel_rfl
section
variable {prog : Program} {w : World} {A : Around} {E : Value → Shared → Prop} {s : Shared}
theorem raiseNewQ {α : Type} {x : Addr} {ox : Obj} {vs : Array Value} {Q : α → Shared → Prop} (hq : Quiet A s.heap) (hx : s.heap.get? x = some ox) (hd : ox.data = .fields vs) (h3 : 2 < vs.size) (hne : A.handled ≠ some (.ref x))
    (hE : ∀ h', Heap.SameBut x s.heap h' → (∃ o', h'.get? x = some o' ∧ o'.cls = ox.cls) → E (.ref x) { s with heap := h' }) : wpAny (model prog w) A (raiseNew (.ref x) : Sem α) Q E s := by
  simp only [raiseNew]
  refine wpAny_bind (wpAny_handled ?_)
  rcases hq with q | ⟨a, o, fs, a1, a2, a3, a4⟩
  · rw [q]
    exact wpAny_bind (wpAny_pure (wpAny_throw (hE s.heap (Heap.SameBut.refl ..) ⟨_, hx, rfl⟩)))
  · rw [a1]
    have hax : a ≠ x := fun z => hne (by rw [a1, z])
    have hb : ((Value.ref a) != (Value.ref x)) = true := by
      rw [bne_iff_ne]
      exact fun z => hax (by injection z)
    dsimp only
    rw [if_pos hb]
    refine wpAny_bind (wpAny_holding (wpAny_runValue ?_))
    refine codeAny_builtin entry_unchain ?_
    show wpAny _ _ (field (.ref a) 2 >>= _) _ _ s
    refine wpAny_bind (wpAny_field a2 a3 a4 ?_)
    show wpAny _ _ (ret Value.none) _ _ s
    refine wpAny_pure ?_
    refine wpAny_bind ?_
    simp only [updateField]
    refine wpAny_bind (wpAny_load hx ?_)
    rw [hd]
    dsimp only
    rw [if_pos h3]
    exact wpAny_update hx (wpAny_throw (hE _ (Heap.SameBut.update ..) ⟨_, Heap.get?_update_self _ hx (Obj.isFreed_of_fields (Obj.data_mapFields hd _)), Obj.cls_mapFields ..⟩))
end
end L2

set_option Elab.async false
set_option linter.all false
set_option maxRecDepth 100000
namespace L2
open PySem PySem.Spec PyProof.Rows
/-! ### an exception that is being handled, tracked -/
/-- an exception without a dict and without a context, of the class at C -/
def ExcO (a C : Addr) : HO := .ext fun h => ∃ o fs, h.get? a = some o ∧ o.cls = .ref C ∧ o.data = .fields fs ∧ fs[2]? = some Value.none ∧ o.dict = none
theorem exc_ok {P : Program} {w : World} {H : Hp} {h : Heap} {a C : Addr} (c : Ctx0 a h) (hc : ∃ o, h.get? a = some o ∧ o.cls = .ref C) : ObjOk P w H h a (ExcO a C) := by
  obtain ⟨o, fs, e, d, g, k⟩ := c
  obtain ⟨o', e', q⟩ := hc
  rw [e] at e'; cases e'
  refine ⟨⟨o, fs, e, q, d, g, k⟩, ⟨o, e⟩, fun h1 h2 p st => ?_⟩
  obtain ⟨o, fs, e, rest⟩ := p
  exact ⟨o, fs, st o e, rest⟩
theorem exc_at {P : Program} {w : World} {H : Hp} {h : Heap} {a C : Addr} (ok : HOk P w H h) (e : H a = some (ExcO a C)) : ∃ o fs, h.get? a = some o ∧ o.cls = .ref C ∧ o.data = .fields fs ∧ fs[2]? = some Value.none ∧ o.dict = none := (ok a _ e).1
/-- what of the text an exception's class must have -/
structure ECls (K : PySem.W.Frag) (C : Addr) : Prop where
  ga : PySem.W.findIn K (.ref C) "__getattribute__" = some (some (.builtin "BaseException.__getattribute__"))
  gh : PySem.W.findIn K (.ref C) "__getattr__" = some none
  be : PySem.W.mroIn K C (.type "BaseException") = some true
  hd : PySem.W.hasDictIn K C = true
  ha : PySem.W.findIn K (.ref C) "__class__" = some (some (.builtin "object.__class__"))
  hm : PySem.W.mroIn K C (.type "object") = some true
structure ECls0 (K : PySem.W.Frag) : Prop where
  hn : PySem.W.specialIn K (.builtin "object.__class__") "__get__" = some (some (.builtin "getset_descriptor.__get__"))
  htk : PySem.W.takesIn K (.builtin "object.__class__") = some true
theorem exc_class {prog : Program} {w : World} {A : Around} {E : Value → Shared → Prop} {s : Shared} {K : PySem.W.Frag} {x C : Addr} {ox : Obj} {Q : Option Value → Shared → Prop} (X : K.In s.heap) (I : PySem.W.InstAt s.heap x ox C none) (c : ECls K C) (c0 : ECls0 K)
    (q : Q (some (.ref C)) { s with toks := s.toks + 1 }) : wpAny (model prog w) A (getAttr? (.ref x) "__class__") Q E s := by
  obtain ⟨cd, hcd, _⟩ := PySem.W.any_some c.hd
  have hf : PySem.W.findObj K C none "__class__" = some (.bind (.builtin "getset_descriptor.__get__") (.builtin "object.__class__")) := by
    unfold PySem.W.findObj
    rw [hcd, Option.bind_some, c.ha, Option.bind_some]
    simp [c0.hn, c0.htk]
  obtain ⟨hh, g, d, t, os⟩ := s
  have L0 := I.type (M := model prog w)
  have L1 := PySem.W.looks_findIn (M := model prog w) X c.ga
  have LH : PySem.W.Looks (model prog w) hh (hookBefore (.ref C)) none := PySem.W.looks_hook X (by exact c.gh)
  have L2 := PySem.W.looks_find (M := model prog w) X I hf
  unfold getAttr? getAttrBy? getAttrBy
  refine wpAny_bind (wpAny_mkText (wpAny_bind (wpAny_attempt (wpAny_holding (wpAny_bind (L0.at (wpAny_bind (L1.at ?_))))))))
  dsimp only
  rw [show (onTheHeap (Value.ref C) && Value.builtin "BaseException.__getattribute__" == Value.builtin "object.__getattribute__") = false from by rw [show (Value.builtin "BaseException.__getattribute__" == Value.builtin "object.__getattribute__") = false from by decide +kernel, Bool.and_false], if_neg (by decide)]
  unfold getAttrByItsOwn
  refine wpAny_bind (LH.at (wpAny_bind (wpAny_attempt (wpAny_holding ?_))))
  unfold callGetattribute
  rw [show (false && onTheHeap (Value.builtin "BaseException.__getattribute__")) = false from rfl, if_neg (by decide)]
  unfold boundAndCalled
  rw [F.excAttr_ValueError.ga.bind]
  refine wpAny_bind (wpAny_pure ?_)
  show wpAny _ _ (call (.builtin "BaseException.__getattribute__") [.ref x, .str "__class__" t]) _ _ _
  refine wpAny_call ?_
  refine codeAny_call_builtin F.excAttr_ValueError.ga.plain F.entry_bexc_ga ?_
  refine @PySem.W.check_slot (model prog w) _ _ { heap := hh, gens := g, drawn := d, toks := t + 1, os := os } "BaseException.__getattribute__" "BaseException" "__getattribute__" (.ref x) [.str "__class__" t] [] _ (by decide +kernel) (by decide +kernel) (L0.andThen (PySem.W.looks_subIn X c.be)) (F.args_bexc_ga _ _) ?_
  unfold Builtin.«object.__getattribute__»
  refine wpAny_bind (wpAny_pure (wpAny_bind (wpAny_pure (wpAny_bind (L0.at (wpAny_bind (L2.at ?_)))))))
  show wpAny _ _ (holding [.builtin "object.__class__"] (call (.builtin "getset_descriptor.__get__") [.builtin "object.__class__", .ref x, .ref C]) >>= ret) _ _ _
  refine wpAny_bind (wpAny_holding (wpAny_call (PySem.W.class_get (s := { heap := hh, gens := g, drawn := d, toks := t + 1, os := os }) (ox := ox) (od := none) X I c.hm ?_)))
  refine wpAny_pure ?_
  exact PySem.W.handed_on rfl (wpAny_pure q)
theorem kitx_exc {K : PySem.W.Frag} {a C : Addr} (c : ECls K C) (c0 : ECls0 K) : PySem.W.KitX K (.ref a) (.ref C) (fun h => ∃ ox, PySem.W.InstAt h a ox C none) := by
  obtain ⟨cd, hcd, _⟩ := PySem.W.any_some c.hd
  have hc : ∃ o, K.lookup C = some o ∧ ∃ d, o.data = .cls d := by
    unfold PySem.W.clsIn at hcd
    split at hcd
    · rename_i ho
      exact ⟨_, ho, _, rfl⟩
    · cases hcd
  obtain ⟨oc, hl, dc, hdc⟩ := hc
  refine ⟨fun M h X p => ?_, fun M h X p => ?_, fun h tp dd its n sl X htp => ?_, fun {prog w A E Q s} X p q => ?_⟩
  · obtain ⟨ox, I⟩ := p
    exact I.type
  · intro A' Q' E' s' k q
    unfold isType loadHead
    refine wpAny_bind (wpAny_loadPart (k _ _ (X _ _ hl)) ?_)
    rw [hdc]
    exact wpAny_pure q
  · refine Bool.eq_false_iff.mpr fun q => ?_
    have e : C = tp := Value.ref.inj (beq_iff_eq.mp q)
    subst e
    have z := (X _ _ hl).symm.trans htp
    injection z with z
    rw [z] at hdc
    cases hdc
  · obtain ⟨ox, I⟩ := p
    exact exc_class X I c c0 q
section
variable {X : Cx}
/-- isinstance(e, D), e an exception, D a class of the text or a built-in one -/
def rIsiE (K : PySem.W.Frag) (D : Value) (vD : V) : List V → Hp → VK → Prop := fun xs H Q => ∃ a C b, xs = [.ref a, vD] ∧ H a = some (ExcO a C) ∧ ECls K C ∧ PySem.W.kitOne K (.ref C) D = some b ∧ Q (.bl b) H
theorem call_isiE {D : Value} {vD : V} (hD : ∀ u, RelV vD u → u = D) (c0 : ECls0 X.K) : CallR X (.builtin "isinstance") (rIsiE X.K D vD) := by
  intro pins s σ H xs us Q I r h
  obtain ⟨a, C, b, rfl, e, c, kit, q⟩ := h
  cases r with
  | cons rx rest =>
  obtain ⟨u, rfl, ru⟩ := Vals.one rest
  cases hD _ ru
  cases rx
  obtain ⟨o, fs, e1, e2, e3, e4, e5⟩ := exc_at I.hok e
  refine PySem.W.kia_one (kitx_exc c c0) I.kIn ⟨o, e1, e2, ?_, ?_⟩ kit (fun z => nomatch z) fun tk => ⟨.bl b, H, I.tok _, rfl, q⟩
  · unfold PySem.W.notCls
    rw [e3]
  · rw [e5]
    trivial
end
end L2

set_option Elab.async false
set_option linter.all false
set_option maxRecDepth 100000
namespace L2
open PySem PySem.Spec PyProof.Rows
section
variable {prog : Program} {w : World} {A : Around} {E : Value → Shared → Prop} {s : Shared}
/-- StopIteration is raised: what it leaves -/
theorem stopQ {α : Type} {Q : α → Shared → Prop} (hq : Quiet A s.heap) (hlt : ∀ a, A.handled = some (.ref a) → a < s.heap.objs.size)
    (hE : ∀ x h', s.heap.objs.size ≤ x → (∀ b o, s.heap.get? b = some o → h'.get? b = some o) → (∃ o', h'.get? x = some o' ∧ o'.cls = .type "StopIteration") → E (.ref x) { s with heap := h' }) :
    wpAny (model prog w) A (newExc (.type "StopIteration") [] >>= fun e => (raiseNew e : Sem α)) Q E s := by
  have ht : (s.heap.push { cls := Value.type "tuple", data := Data.seq #[] }).objs.size = s.heap.objs.size + 1 := by simp [Heap.push]
  have none_ : firstArgMember (.type "StopIteration") [] = pure Value.none := by first | rfl | (simp only [firstArgMember]; rfl)
  refine wpAny_bind ?_
  simp only [newExc, newTuple]
  refine wpAny_bind (wpAny_newObj_type (wpAny_bind (m := firstArgMember _ _) (wpAny_of_eq none_ (wpAny_newObj_type ?_ (by size_fits)))) (by size_fits))
  refine raiseNewQ (hq.ext fun a o h1 h2 => Heap.get?_push_of_some _ (Heap.get?_push_of_some _ h2)) (Heap.get?_push_size _ rfl) rfl (show 2 < 6 by decide) (fun z => ?_) fun h' sb ho => ?_
  · have h3 : (s.heap.push { cls := Value.type "tuple", data := Data.seq #[] }).objs.size < s.heap.objs.size := hlt _ z
    omega
  · obtain ⟨o', h1, h2⟩ := ho
    refine hE _ h' ?_ (fun b o e => ?_) ⟨o', h1, h2⟩
    · show s.heap.objs.size ≤ (s.heap.push { cls := Value.type "tuple", data := Data.seq #[] }).objs.size
      omega
    · exact (sb.2 b (Nat.ne_of_lt (Nat.lt_of_lt_of_le (Heap.lt_size e) (by rw [ht]; exact Nat.le_succ _)))).trans (Heap.get?_push_of_some _ (Heap.get?_push_of_some _ e))
/-- the iterator at it has come to its end: its sequence is let go, StopIteration is raised -/
theorem letGoQ {it : Addr} {o : Obj} {fs : Array Value} {x : Value} {Q : Option Value → Shared → Prop} {α : Type} {Q0 : α → Shared → Prop} (hq : Quiet A s.heap) (hni : A.handled ≠ some (.ref it)) (hlt : ∀ a, A.handled = some (.ref a) → a < s.heap.objs.size) (ho : s.heap.get? it = some o) (hd : o.data = .fields fs) (h0 : 0 < fs.size)
    (hE : ∀ x h', Heap.ExtBut it s.heap h' → (∃ o', h'.get? x = some o' ∧ o'.cls = .type "StopIteration") → E (.ref x) { s with heap := h' }) :
    wpAny (model prog w) A (setField (.ref it) 0 x >>= fun _ => newExc (.type "StopIteration") [] >>= fun e => (raiseNew e : Sem α)) Q0 E s := by
  refine wpAny_bind (wpAny_setField ho hd h0 (stopQ (hq.ext fun a oa h1 h2 => ?_) (fun a ha => ?_) fun y h' hx1 hx2 hx3 => ?_))
  · exact ((Heap.SameBut.update ..).2 a fun z => hni (by rw [← z]; exact h1)).trans h2
  · show a < (Heap.update _ _ _).objs.size
    rw [show (Heap.update s.heap it _).objs.size = s.heap.objs.size by simp [Heap.update]]
    exact hlt a ha
  · exact hE y h' (fun b ob hb e => hx2 b ob (((Heap.SameBut.update ..).2 b hb).trans e)) hx3
theorem list_endQ {it l : Addr} {i : Nat} {items : Array Value} {Q : Option Value → Shared → Prop} (hq : Quiet A s.heap) (hni : A.handled ≠ some (.ref it)) (hlt : ∀ a, A.handled = some (.ref a) → a < s.heap.objs.size)
    (hit : s.heap.IsListIter it l i) (hl : s.heap.IsList l items) (hx : items[i]? = none)
    (hQ : ∀ h', Heap.ExtBut it s.heap h' → Q none { s with heap := h' }) : wpAny (model prog w) A (pyNext (.ref it)) Q E s := by
  have ty := hit.typeIs
  obtain ⟨o, ho, hc, hd⟩ := hit
  obtain ⟨ol, hol, _, nl, hdl⟩ := hl
  unfold pyNext
  refine wpAny_bind (wpAny_attempt ?_)
  refine wpAny_callSpecial?_slot (name := Str.ofString "__next__") ty slot_listiter_next ?_
  refine wpAny_call_entry slot_listiter_next ty entry_listiter_next ?_ (args_listiter_next _)
  refine (show wpAny (model prog w) A.in1 (field (.ref it) 0 >>= _) _ _ s from wpAny_bind (wpAny_field (x := .ref l) ho hd rfl ?_))
  have nn : ¬ ((Value.ref l == Value.none) = true) := by simp
  dsimp only
  rw [if_neg nn]
  refine wpAny_bind (wpAny_field (x := .int i 0) ho hd rfl ?_)
  refine wpAny_bind (wpAny_seqItems hol hdl ?_)
  simp only [Int.toNat_natCast, hx]
  refine wpAny_bind (wpAny_rule ?_)
  refine letGoQ (Q := Q) hq.in1 hni hlt ho hd (show 0 < 2 by decide) fun y h' ext ⟨o', g1, g2⟩ => ?_
  exact wpAny_bind (wpAny_isInstance (T := "StopIteration") (b := true) ⟨o', g1, g2⟩ isSubtype_stop (wpAny_pure (hQ _ ext)))
theorem tup_endQ {it t : Addr} {i : Nat} {items : Array Value} {Q : Option Value → Shared → Prop} (hq : Quiet A s.heap) (hni : A.handled ≠ some (.ref it)) (hlt : ∀ a, A.handled = some (.ref a) → a < s.heap.objs.size)
    (hit : IsTupIter s.heap it t i) (ht : IsTup s.heap t items) (hx : items[i]? = none)
    (hQ : ∀ h', Heap.ExtBut it s.heap h' → Q none { s with heap := h' }) : wpAny (model prog w) A (pyNext (.ref it)) Q E s := by
  have ty := hit.typeIs
  obtain ⟨o, ho, hc, hd⟩ := hit
  obtain ⟨ol, hol, _, nl, hdl⟩ := ht
  unfold pyNext
  refine wpAny_bind (wpAny_attempt ?_)
  refine wpAny_callSpecial?_slot (name := Str.ofString "__next__") ty slot_tupleiter_next ?_
  refine wpAny_call_entry slot_tupleiter_next ty entry_tupleiter_next ?_ (args_tupleiter_next _)
  refine (show wpAny (model prog w) A.in1 (field (.ref it) 0 >>= _) _ _ s from wpAny_bind (wpAny_field (x := .ref t) ho hd rfl ?_))
  have nn : ¬ ((Value.ref t == Value.none) = true) := by simp
  dsimp only
  rw [if_neg nn]
  refine wpAny_bind (wpAny_field (x := .int i 0) ho hd rfl ?_)
  refine wpAny_bind (wpAny_seqItems hol hdl ?_)
  simp only [Int.toNat_natCast, hx]
  refine wpAny_bind (wpAny_rule ?_)
  refine letGoQ (Q := Q) hq.in1 hni hlt ho hd (show 0 < 2 by decide) fun y h' ext ⟨o', g1, g2⟩ => ?_
  exact wpAny_bind (wpAny_isInstance (T := "StopIteration") (b := true) ⟨o', g1, g2⟩ isSubtype_stop (wpAny_pure (hQ _ ext)))
/-- a tuple taken apart -/
theorem unpackQ {t : Addr} {items : Array Value} {targets : List (Bool × (Value → Sem Unit))} {Q : Unit → Shared → Prop} (hq : Quiet A s.heap) (hlt : ∀ a, A.handled = some (.ref a) → a < s.heap.objs.size) (ht : IsTup s.heap t items)
    (hn : targets.length = items.size) (hstar : targets.findIdx? (·.1) = none)
    (h : ∀ h', Heap.ExtBut s.heap.objs.size s.heap h' → wpAny (model prog w) A (assignInOrder (targets.map (·.2)) items.toList) Q E { s with heap := h' }) : wpAny (model prog w) A (unpack (.ref t) targets) Q E s := by
  have hne : t ≠ s.heap.objs.size := by obtain ⟨o, ho, _⟩ := ht; exact Nat.ne_of_lt (Heap.lt_size ho)
  have new : ∀ a, A.handled = some (.ref a) → a ≠ s.heap.objs.size := fun a ha => Nat.ne_of_lt (hlt a ha)
  have all : List.take items.size (List.drop 0 items.toList) = items.toList := by rw [List.drop_zero]; exact List.take_of_length_le (by simp)
  unfold unpack unpackItems notIterableAtAll
  rw [hn, hstar]
  refine wpAny_bind (wpAny_holding (wpAny_bind (wpAny_bind (wpAny_specialOf ht.typeIs slot_tuple_iter.lookup (wpAny_pure ?_)))))
  simp only [Bool.false_eq_true, if_false]
  refine wpAny_bind (wpAny_holding (iter_tuple ht (wpAny_bind (wpAny_holding (draw_tuple hne items.size 0 _ _ ⟨_, Heap.get?_push_size _ rfl, rfl, rfl⟩ (ht.push _) (by omega) fun h1 hit1 hs1 => ?_)))))
  rw [all, if_neg (by simp)]
  have q1 : Quiet A h1 := hq.ext fun a o ha e => hs1.extBut a o (new a ha) (Heap.get?_push_of_some _ e)
  have l1 : ∀ a, A.handled = some (.ref a) → a < h1.objs.size := fun a ha => by
    rcases q1 with z | ⟨a', o', fs', z, e, _⟩
    · rw [z] at ha; cases ha
    · rw [z] at ha
      cases ha
      exact Heap.lt_size e
  refine wpAny_bind (wpAny_holding (tup_endQ (s := { s with heap := h1 }) q1 (fun z => new _ z rfl) l1 hit1 ((ht.push _).extBut hs1.extBut hne) (by simp) fun h2 he2 => ?_))
  simp only [Option.isSome_none, Bool.false_eq_true, if_false]
  exact wpAny_pure (h h2 fun b o hb e => he2 b o hb (hs1.extBut b o hb (Heap.get?_push_of_some _ e)))
end
/-! ### the exception that is handled is tracked -/
def HQ (A : Around) (H : Hp) : Prop := ∃ a C, A.handled = some (.ref a) ∧ H a = some (ExcO a C)
section
variable {X : Cx} {pins : List (Addr × Obj)} {σ : St} {H : Hp} {s : Shared}
theorem HQ.quiet (q : HQ X.A H) (I : Inv X pins σ H s) : Quiet X.A s.heap := by
  obtain ⟨a, C, h1, h2⟩ := q
  obtain ⟨o, fs, e1, e2, e3, e4, e5⟩ := exc_at I.hok h2
  exact .inr ⟨a, o, fs, h1, e1, e3, e4⟩
theorem HQ.lt (q : HQ X.A H) (I : Inv X pins σ H s) : ∀ a, X.A.handled = some (.ref a) → a < s.heap.objs.size := by
  obtain ⟨a, C, h1, h2⟩ := q
  obtain ⟨o, fs, e1, _⟩ := exc_at I.hok h2
  intro b hb
  rw [h1] at hb; cases hb
  exact Heap.lt_size e1
theorem HQ.ne {A : Around} {it : Addr} (q : HQ A H) (h : H it = none) : A.handled ≠ some (.ref it) := by
  obtain ⟨a, C, h1, h2⟩ := q
  intro z
  rw [h1] at z; cases z
  rw [h2] at h; cases h
theorem HQ.same {A : Around} {H' : Hp} (q : HQ A H) (e : Same H H') : HQ A H' := by
  obtain ⟨a, C, h1, h2⟩ := q
  exact ⟨a, C, h1, e _ _ h2⟩
/-- (a, b, ..) = a tuple of that length -/
def gTupQ (A : Around) (K : PySem.W.Frag) (n : Nat) (t : TGs) : TG := fun v σ H Q => HQ A H ∧ gTup K n t v σ H Q
theorem pg_tupQ {K0 : PySem.W.Frag} {es : List Expr} {k : Nat} {t : TGs} {n : Nat} {pos : Pos} (hK : X.K = K0) (h : PGs X es t)
    (hn : (assignEach es X.env).length = n := by rfl) (hst : (assignEach es X.env).findIdx? (·.1) = none := by rfl) : PG X (.Tuple es k pos) (gTupQ X.A K0 n t) := by
  subst hK
  intro pins s σ H v u Q I r hw
  obtain ⟨hq, a, xs, e1, hs, hl, hw⟩ := hw
  subst e1
  cases r
  obtain ⟨its, rv, ht, hz⟩ := I.tuple hs
  rw [assign_Tuple]
  refine wpAny_bind (wpAny_standAt (unpackQ (hq.quiet I) (hq.lt I) ht (by simp [hn, ← hl, rv.length]) hst fun h' hx => ?_))
  exact h pins _ σ H xs _ Q (I.kept (t' := s.toks) fun b o e => hx b o (Nat.ne_of_lt (Heap.lt_size e)) e) (by simpa using rv) hw
end
end L2

set_option Elab.async false
set_option linter.all false
set_option maxRecDepth 100000
namespace L2
open PySem PySem.Spec PyProof.Rows
/-! ### comprehensions where an exception is handled -/
structure TurnQ (P : Program) (w : World) (K : PySem.W.Frag) (A0 : Around) (tg : Expr) (J : It) (fp : List Addr) (it : Addr) (tn : Nat → Heap → Prop) : Prop where
  mem : it ∈ fp
  obj : ∀ i h, tn i h → ∀ b ∈ fp, ∃ o, h.get? b = some o ∧ ∀ v, o.data ≠ .cell v
  keep : ∀ i h h', tn i h → (∀ b ∈ fp, ∀ o, h.get? b = some o → h'.get? b = some o) → tn i h'
  item : ∀ (X : Cx), X.prog = P → X.w = w → X.K = K → X.A = A0 → ∀ (i : Nat) (pins : List (Addr × Obj)) (s : Shared) (σ : St) (H : Hp) (E : Value → Shared → Prop), Inv X pins σ H s → (∀ b ∈ fp, FpOk X pins H b) → tn i s.heap → J.go i H →
    wpAny (model P w) X.A (pyNext (.ref it)) (fun r s1 => ∃ u, r = some u ∧
      wpAny (model P w) X.A (letOwnedTupleGo tg (.ref it) u) (fun _ s2 => ∃ x H', Inv X pins σ H' s2 ∧ RelV x u ∧ J.yld i H x H' ∧ tn (i + 1) s2.heap ∧ ∀ b ∈ fp, H' b = none) E s1) E s
  done : ∀ (X : Cx), X.prog = P → X.w = w → X.K = K → X.A = A0 → ∀ (i : Nat) (pins : List (Addr × Obj)) (s : Shared) (σ : St) (H : Hp) (E : Value → Shared → Prop), Inv X pins σ H s → (∀ b ∈ fp, FpOk X pins H b) → tn i s.heap → J.stop i H →
    wpAny (model P w) X.A (pyNext (.ref it)) (fun r s1 => r = none ∧ Inv X pins σ H s1) E s
  self : ∀ (A : Around) (i : Nat) (s : Shared) (Q : Value → Shared → Prop) (E : Value → Shared → Prop), tn i s.heap → Q (.ref it) s → wpAny (model P w) A (pyIter (.ref it)) Q E s
def PIEQ (X : Cx) (pins : List (Addr × Obj)) (σ : St) (tg : Expr) (R : It → Hp → Prop) (itv : Value) (s2 : Shared) : Prop :=
  ∃ (it : Addr) (fp : List Addr) (tn : Nat → Heap → Prop) (J : It) (H' : Hp), itv = .ref it ∧ Inv X pins σ H' s2 ∧ TurnQ X.prog X.w X.K X.A tg J fp it tn ∧ tn 0 s2.heap ∧ (∀ b ∈ fp, FpOk X pins H' b) ∧ R J H'
def PIQ (X : Cx) (tg iter : Expr) (wi : TI) : Prop :=
  ∀ (pins : List (Addr × Obj)) (s : Shared) (σ : St) (H : Hp) (R : It → Hp → Prop), Inv X pins σ H s → wi σ H R →
    wpAny (model X.prog X.w) X.A (eval iter X.env) (fun v s1 => wpAny (model X.prog X.w) X.A (pyIter v) (PIEQ X pins σ tg R) X.xe s1) X.xe s
/-- the list at a, where an exception is handled -/
def Itq (K : PySem.W.Frag) (A : Around) (a : Addr) : It := ⟨(Itl K a).go, (Itl K a).yld, fun i H => (Itl K a).stop i H ∧ HQ A H⟩
theorem turn_listQ {P : Program} {w : World} {K : PySem.W.Frag} {A0 : Around} {tg : Expr} (a it : Addr) : TurnQ P w K A0 tg (Itq K A0 a) [it] it (fun i h => h.IsListIter it a i) where
  mem := (turn_list (P := P) (w := w) (K := K) (tg := tg) a it).mem
  obj := (turn_list (P := P) (w := w) (K := K) (tg := tg) a it).obj
  keep := (turn_list (P := P) (w := w) (K := K) (tg := tg) a it).keep
  item := by
    intro X hP hw hK hA i pins s σ H E I hf st hg
    subst hP hw hK
    obtain ⟨xs, x, hq, hx⟩ := hg
    obtain ⟨its, rv, p, hz⟩ := I.list hq
    obtain ⟨u, hu, ru⟩ := rv.get hx
    obtain ⟨f0, f1, f2, f3, f4, f5⟩ := hf it (by simp)
    refine wpAny_pyNext_list_item st p.isList (x := u) (by simpa using hu) fun h' st' sb => ?_
    have I1 : Inv X pins σ H { s with heap := h' } := I.turned (t' := s.toks) (fun b o hb e => (sb.2 b hb).trans e) f0 f1 f3 f4 f5
    obtain ⟨o, e, c, d⟩ := id st'
    exact ⟨u, rfl, go_of (s := { s with heap := h' }) e c d (by decide) ⟨x, H, I1, ru, ⟨rfl, fun ys hy => by rw [I.list_inj hy hq]; exact hx⟩, st', fun b hb => (hf b hb).1⟩⟩
  done := by
    intro X hP hw hK hA i pins s σ H E I hf st hg
    subst hP hw hK hA
    obtain ⟨⟨xs, hq, hx⟩, hQ⟩ := hg
    obtain ⟨its, rv, p, hz⟩ := I.list hq
    obtain ⟨f0, f1, f2, f3, f4, f5⟩ := hf it (by simp)
    have hl := rv.length
    exact list_endQ (hQ.quiet I) (hQ.ne f0) (hQ.lt I) st p.isList (by simp; omega) fun h' eb => ⟨rfl, I.turned (t' := s.toks) (fun b o hb e => eb b o hb e) f0 f1 f3 f4 f5⟩
  self := (turn_list (P := P) (w := w) (K := K) (tg := tg) a it).self
def iListQ (K : PySem.W.Frag) (A : Around) (tl : TE) : TI := fun σ H R => tl σ H fun x H1 => ∃ a, x = .ref a ∧ (∃ xs, SqL K H1 a xs) ∧ R (Itq K A a) H1
theorem pi_listQ {X : Cx} {tg l : Expr} {tl : TE} (hl : PE X l tl) : PIQ X tg l (iListQ X.K X.A tl) := by
  intro pins s σ H R I h
  refine thn (hl pins s σ H _ I h) fun v s1 ⟨x, H1, I1, r1, q1⟩ => ?_
  obtain ⟨a, e, ⟨xs, hq⟩, q⟩ := q1
  subst e
  cases r1
  obtain ⟨its, rv, p, hz⟩ := I1.list hq
  refine wpAny_pyIter_list p.isList ?_
  refine ⟨s1.heap.objs.size, [s1.heap.objs.size], _, _, H1, rfl, I1.kept (t' := s1.toks) fun b o e => Heap.get?_push_of_some _ e, turn_listQ a _, ⟨_, Heap.get?_push_size _ rfl, rfl, rfl⟩, fun b hb => ?_, q⟩
  have e : b = s1.heap.objs.size := by simpa using hb
  subst e
  exact I1.fpOk (Nat.le_refl _) (I1.hok.fresh (Nat.le_refl _))
theorem comp2_listQ {K : PySem.W.Frag} {A : Around} {l : Addr} {js : List Nat} {xs : List V} {σ : St} {H1 : Hp} {tc : TT} {te : TE} {Q : VK} (Pv : Nat → List V → Hp → Prop) (h0 : Pv 0 [] H1) (hP : ∀ i ys H, i ≤ xs.length → Pv i ys H → SqL K H l xs ∧ HQ A H ∧ ys.length ≤ i) (hsz : xs.length ≤ sizeLine)
    (hs : ∀ i x ys H (Nx : List V → Hp → Prop), xs[i]? = some x → Pv i ys H → (∀ ys' H', Pv (i + 1) ys' H' → Nx ys' H') → ∃ T u v, x = .ref T ∧ SqT K H T [u, v] ∧ tc (some u :: some v :: caps σ js) H fun b H3 => if b = true then te (some u :: some v :: caps σ js) H3 fun y H4 => Nx (ys ++ [y]) H4 else Nx ys H3)
    (hd : ∀ ys H, Pv xs.length ys H → ∀ D, H D = none → Q (.ref D) (upd H D (.lst ys))) :
    tCompB 2 js (gTupQ A K 2 (gCons (gName 0) (gCons (gName 1) gNil))) tc te σ Q (Itq K A l) H1 := by
  have wk := wk_list K l xs
  refine ⟨fun i m ys H => m = xs.length - i ∧ i ≤ xs.length ∧ Pv i ys H, ⟨xs.length, by simp, Nat.zero_le _, h0⟩, ?_⟩
  rintro i m ys H ⟨rfl, hi, p⟩
  obtain ⟨q, hqq, hl⟩ := hP i ys H hi p
  by_cases hlt : i < xs.length
  · refine .inr ⟨wk.go i H hlt q, by omega, fun x H' y os hos => ?_⟩
    obtain ⟨e, y2⟩ := wk.yld i H x H' q y
    subst e
    obtain ⟨T, u, v, rfl, ht, hh⟩ := hs i x ys _ (fun ys' H' => ∃ m', m' < xs.length - i ∧ m' = xs.length - (i + 1) ∧ i + 1 ≤ xs.length ∧ Pv (i + 1) ys' H') (y2 hlt) p fun ys' H' p' => ⟨xs.length - (i + 1), by omega, rfl, hlt, p'⟩
    match os, hos with
    | [o0, o1], _ =>
      exact ⟨hqq, T, _, rfl, ht, rfl, _, _, rfl, _, _, rfl, rfl, ⟨[some u, some v], rfl, rfl⟩, hh⟩
  · have e : i = xs.length := by omega
    subst e
    exact .inl ⟨⟨wk.stop H q, hqq⟩, by omega, hd ys H p⟩
end L2

set_option Elab.async false
set_option linter.all false
set_option maxRecDepth 100000
namespace L2
open PySem PySem.Spec PyProof.Rows
/-! ### a def that is called where an exception is handled -/
structure RoomQ (k : Nat) (A : Around) : Prop where
  dp : A.depth + 3 * k + 5 < recursionLimit
  un : A.units + 16 * k + 200 < cLine
theorem RoomQ.mono {j k : Nat} {A : Around} (r : RoomQ k A) (h : j ≤ k) : RoomQ j A := ⟨by have := r.dp; omega, by have := r.un; omega⟩
theorem RoomQ.deeper {k : Nat} {A : Around} (r : RoomQ (k + 1) A) (env : Env) : RoomQ k (A.deeper env) :=
  ⟨by have := r.dp; show A.depth + 1 + 3 * k + 5 < _; omega, by have := r.un; show A.units + 3 + 16 * k + 200 < _; omega⟩
theorem RoomQ.depth {k : Nat} {A : Around} (r : RoomQ k A) : A.depth < recursionLimit := by have := r.dp; omega
theorem RoomQ.units0 {k : Nat} {A : Around} (r : RoomQ k A) : A.units < cLine := by have := r.un; omega
theorem Room.q {k : Nat} {A : Around} (r : Room k A) : RoomQ k A := ⟨r.dp, r.un⟩
theorem RoomQ.mark {k : Nat} {A : Around} (r : RoomQ k A) (h : Option Value) : RoomQ k (A.mark h) := ⟨r.dp, r.un⟩
structure FnOkQ (P : Program) (w : World) (K : PySem.W.Frag) (mg : Str → Option Value) (base : Heap) (CX : CXT) (k : Nat) (f : Addr) (fd : FuncData) (ps : List Str) (sp : Sp) : Prop where
  len : ∀ vs H Q E, sp vs H Q E → vs.length = ps.length
  run : ∀ (A : Around) (outer : List Env) (s : Shared) (H : Hp) (args : Args) (us : List Value) (vs : List V) (Q : VK) (E : XK), RoomQ k A → HQ A H → Env0 P w K mg base A outer s H → BindsTo s fd args (ps.zip us) → Vals vs us → sp vs H Q E →
    codeAny (model P w) A (.call (.ref f) args) (CR CX outer P w H s Q E) s
def cxOfQ (CX : CXT) (P : Program) (w : World) (K : PySem.W.Frag) (mg : Str → Option Value) (base : Heap) (N : List Str) (qual : Str) (scope : Scope) (f : Addr) (cd : Value) (A : Around) (outer : List Env) (s : Shared) (H : Hp) (E : XK) : Cx :=
  { cxOf CX P w K mg base N qual scope f cd A outer s H E with calm := false }
theorem inv_startQ {CX : CXT} {P : Program} {w : World} {K : PySem.W.Frag} {mg : Str → Option Value} {base : Heap} {N ps : List Str} {qual : Str} {scope : Scope} {f : Addr} {cd : Value} {A : Around} {outer : List Env} {s s1 : Shared} {H : Hp} {E : XK} {us : List Value} {vs : List V}
    (S : FnScope N ps scope) (e0 : Env0 P w K mg base A outer s H) (hl : vs.length = ps.length) (r : Vals vs us)
    (x : InCallC s s.heap.objs.size (bindL (envOfC qual scope s.heap.objs.size f cd).kindOf (ps.zip us) fun _ => none) (cellsFrom (s.heap.objs.size + 1) scope.names []) (bindC (envOfC qual scope s.heap.objs.size f cd).kindOf (ps.zip us) fun _ => none) s1) :
    Inv (cxOfQ CX P w K mg base N qual scope f cd A outer s H E) [] (start N vs) H s1 := by
  have hpl : ps.length ≤ N.length := by have := congrArg List.length S.pre; rw [List.length_take] at this; omega
  obtain ⟨h1, tk, rfl, hk⟩ := x.done
  have noA : ∀ b : Addr, b ∉ (cxOfQ CX P w K mg base N qual scope f cd A outer s H E).ex := fun b z => absurd (show b ∈ ([] : List Addr) from z) (by simp)
  refine ⟨⟨e0.mod, S.kind, rfl, rfl, Nat.le_refl _, fun y z c h1 h2 => ?_, fun y hy => ?_, fun y c _ h => ?_, (fun z => by cases z), Around.frames_deeper e0.frames, .inr ⟨rfl, rfl⟩, fun b z => absurd z (noA b), e0.bs, e0.bsz, fun b _ _ => noA b, fun b z => absurd z (noA b), e0.funs, e0.frf⟩,
    rfl, e0.bare, Un.kept hk, ⟨_, x.toInCall.ns, fun i y v h1 h2 h3 => ?_⟩, fun y c h => ⟨_, x.cell y c h⟩, e0.hok.fresh (Nat.le_refl _), fun y c h => ?_, fun p hp => absurd (show p ∈ ([] : List (Addr × Obj)) from hp) (by simp), e0.hok.kept hk, ?_⟩
  · exact name_of_addr x.apart (PySem.mem_of_lookup h1) (PySem.mem_of_lookup h2)
  · have hy : scope.names.lookup y = some .cell ∨ scope.names.lookup y = some .free := hy
    rcases hy with hy | hy
    · exact cell_has hy
    · exact absurd rfl (S.nofree _ (PySem.mem_of_lookup hy))
  · exact Nat.le_of_lt (x.above y c (PySem.mem_of_lookup h))
  · have hi : i < vs.length := by
      unfold start at h2
      by_cases hi : i < vs.length
      · exact hi
      · rw [List.getElem?_append_right (by simpa using hi)] at h2
        rw [List.getElem?_replicate] at h2
        split at h2 <;> cases h2
    have ha : vs[i]? = some v := by
      unfold start at h2
      rw [List.getElem?_append_left (by simpa using hi), List.getElem?_map] at h2
      cases e : vs[i]? with
      | none => rw [e] at h2; cases h2
      | some a => rw [e] at h2; cases h2; rfl
    obtain ⟨u, hu, rv⟩ := r.get ha
    have hp : ps[i]? = some y := by
      rw [← S.pre, List.getElem?_take_of_lt (by omega)]; exact h1
    have ndP : ps.Nodup := by rw [← S.pre]; exact S.nd.sublist (List.take_sublist _ _)
    refine ⟨u, rv, ?_⟩
    rcases S.par y (List.mem_of_getElem? hp) with k | k
    · exact .inl ⟨k, bindL_get ndP hp hu k⟩
    · obtain ⟨c, e⟩ := cell_has (n := s.heap.objs.size + 1) k
      refine .inr ⟨.inl k, c, e, ?_⟩
      have q := x.cell y c e
      rw [bindC_get ndP hp hu (by show scope.names.lookup y ≠ _; rw [k]; decide)] at q
      exact q
  · exact e0.hok.fresh (Nat.le_of_lt (x.above y c (PySem.mem_of_lookup h)))
  · unfold start
    show _ = N.length
    rw [List.length_append, List.length_map, List.length_replicate]
    omega

theorem fn_ofQ {CX : CXT} {P : Program} {w : World} {K : PySem.W.Frag} {mg : Str → Option Value} {base : Heap} {k : Nat} {f : Addr} {name qual : Str} {params : Arguments} {body : List Stmt} {scope : Scope} {dV kV doc pm cdv ct oc : Value} {an od : Option Addr}
    {osl : Array (Option Value)} {N ps : List Str} {sp : Sp} (lk : K.lookup f = some ⟨oc, od, .func (PySem.W.fnOf name qual params body scope dV kV doc pm an cdv ct), osl⟩) (hcd : PySem.W.codeIn K cdv qual = true) (S : FnScope N ps scope)
    (len : ∀ vs H Q E, sp vs H Q E → vs.length = ps.length)
    (hbody : ∀ (A : Around) (outer : List Env) (s : Shared) (H : Hp) (vs : List V) (Q : VK) (E : XK), RoomQ k (A.deeper (envOfC qual scope s.heap.objs.size f cdv)) → HQ (A.deeper (envOfC qual scope s.heap.objs.size f cdv)) H → sp vs H Q E →
      ∃ t, PSs (cxOfQ CX P w K mg base N qual scope f cdv A outer s H E) body t ∧ t { nx := fun _ H' => Q .non H', rt := Q } (start N vs) H) :
    FnOkQ P w K mg base CX (k + 1) f (PySem.W.fnOf name qual params body scope dV kV doc pm an cdv ct) ps sp := by
  refine ⟨len, fun A outer s H args us vs Q E hr hq0 e0 hb r hsp => ?_⟩
  have hl := len _ _ _ _ hsp
  have KX : K.In s.heap := e0.mod.kin.keeps fun b o e => (e0.bs b o e).1
  have lim : s.heap.NoLimit := e0.mod.nolimit.keeps fun b o e => (e0.bs b o e).1
  have hkind : ∀ y ∈ ps.zip us, scope.names.lookup y.1 = some .local ∨ (scope.names.lookup y.1 = some .cell ∧ ((cellsFrom (s.heap.objs.size + 1) scope.names []).lookup y.1).isSome = true) := fun ⟨n, v⟩ hy => by
    rcases S.par n (List.of_mem_zip hy).1 with q | q
    · exact .inl q
    · exact .inr ⟨q, PySem.W.cellsFrom_some _ _ _ (.inl q)⟩
  refine codeAny_call_function hr.depth (KX _ _ lk) rfl S.co S.gen rfl (PySem.W.codeRec_of KX hcd) (hb _ _ _ _ ?_)
  refine wpAny_newFunctionEnv_cells S.kind hkind fun env he s1 x => ?_
  subst he
  refine ⟨lim.keeps x.toInCall.keep, codeAny_func ?_⟩
  obtain ⟨t, ht, hq⟩ := hbody A outer s H vs Q E (hr.deeper _) hq0 hsp
  have I : Inv (cxOfQ CX P w K mg base N qual scope f cdv A outer s H E) [] (start N vs) H s1 := inv_startQ S e0 hl r x
  refine wpAny_mono (ht [] s1 (start N vs) H _ I hq) (fun fl s' hs => ?_) fun e s' hs => hs
  have fin : ∀ {σ' : St} {H' : Hp} {v : V} {u : Value}, Inv (cxOfQ CX P w K mg base N qual scope f cdv A outer s H E) [] σ' H' s' → RelV v u → Q v H' → CE outer P w H s Q u s' :=
    fun {σ' H' v u} J rv q => ⟨v, H', J.os, J.bare, J.base, J.hok, rv, q⟩
  cases fl with
  | ret u =>
    obtain ⟨v, σ', H', J, rv, q⟩ := hs
    exact fin J rv q
  | next =>
    obtain ⟨σ', H', J, q⟩ := hs
    exact fin (v := V.non) (u := Value.none) J rfl q
  | brk =>
    obtain ⟨_, _, _, q⟩ := hs
    exact False.elim q
  | cont =>
    obtain ⟨_, _, _, q⟩ := hs
    exact False.elim q

def KnowsQ (P : Program) (w : World) (K : PySem.W.Frag) (mg : Str → Option Value) (base : Heap) (k : Nat) (x : Str) (ps : List Str) (sp : Sp) : Prop :=
  ∃ f fd, mg x = some (.ref f) ∧ PySem.W.keepIn K (.ref f) = true ∧ Binds K fd ps [] ∧ FnOkQ P w K mg base CX0 k f fd ps sp
theorem Def.okQ {P : Program} {w : World} {K : PySem.W.Frag} {mg : Str → Option Value} {base : Heap} {x : Str} {st : Stmt} {N ps : List Str} {k : Nat} {sp : Sp} (D : Def K mg x st ps) (S : FnScope N ps (defScope st)) (len : ∀ vs H Q E, sp vs H Q E → vs.length = ps.length)
    (hbody : ∀ (f : Addr) (cdv : Value) (A : Around) (outer : List Env) (s : Shared) (H : Hp) (vs : List V) (Q : VK) (E : XK), RoomQ k (A.deeper (envOfC x (defScope st) s.heap.objs.size f cdv)) → HQ (A.deeper (envOfC x (defScope st) s.heap.objs.size f cdv)) H → sp vs H Q E →
      ∃ t, PSs (cxOfQ CX0 P w K mg base N x (defScope st) f cdv A outer s H E).nox (defBody st) t ∧ t { nx := fun _ H' => Q .non H', rt := Q } (start N vs) H) : KnowsQ P w K mg base (k + 1) x ps sp := by
  obtain ⟨f, fd, F, hm, hb⟩ := D.ex
  refine ⟨f, fd, hm, F.kp, hb, ?_⟩
  obtain ⟨oc, od, kV, doc, pm, an, cdv, ct, osl, rfl, lk, hcd⟩ := F.ex
  refine fn_ofQ lk hcd S len fun A outer s H vs Q E hr hq hsp => ?_
  obtain ⟨t, h, q⟩ := hbody f cdv A outer s H vs Q E hr hq hsp
  exact ⟨t, h.nox, q⟩
def tCallQ (A : Around) (sp : Sp) (t : TA) : TE := fun σ H Q => t σ H fun vs H1 => HQ A H1 ∧ sp vs H1 Q E0
section
variable {X : Cx} {x : Str} {ps : List Str} {sp : Sp} {j k : Nat} {e : Expr} {es : List Expr} {t : TA} {p pos : Pos}
theorem pe_callQ (F : KnowsQ X.prog X.w X.K X.mg X.base j x ps sp) (hr : RoomQ k X.A) (ha : PA X (e :: es) t) (hjk : j ≤ k := by decide) (hg : Gl X x := by rfl) (hdb : (x == ("__debug__" : Str)) = false := by decide)
    (he : notStar e = true := by rfl) (hpl : es.all notStar = true := by rfl) : PE X (.Call (.Name x p) (e :: es) [] pos) (tCallQ X.A sp t) := by
  obtain ⟨f, fd, hm, hk, hb, F⟩ := F
  intro pins s σ H Q I h
  refine wpAny_Call_Name_kw (ld_glob I hg hm ?_ hdb)
  refine PySem.W.callWith_K (h₀ := X.base) I.ok.mod.kin hk (thn (ha pos pins s σ H _ I h) fun us s1 ⟨vs, H1, I1, r, q0, q⟩ => ⟨I1.kIn, ?_⟩) (star_cons he) (star_none hpl)
  have hl : us.length = ps.length := by rw [← r.length]; exact F.len _ _ _ _ q
  have hbind := hb s1 us I1.kIn (by rw [List.append_nil]; exact hl)
  rw [List.append_nil] at hbind
  refine wpAny_call (codeAny_mono (F.run X.A X.stack s1 H1 ⟨us, []⟩ us vs Q E0 (hr.mono hjk) q0 I1.env0 hbind r q) fun res s' hq => ?_)
  cases res with
  | error e => exact pass0 pins σ H1 s1 e s' I1 hq
  | ok fl =>
    cases fl with
    | ret u => exact I1.after hq
    | next => exact False.elim hq
    | brk => exact False.elim hq
    | cont => exact False.elim hq
end
end L2

set_option Elab.async false
set_option linter.all false
set_option maxRecDepth 100000
namespace L2
open PySem PySem.Spec PyProof.Rows
/-! ### try: .. except NAME as n: return .. -/
theorem un_track {fs ex : List Addr} {H H' : Hp} {h h' : Heap} {a : Addr} {o : HO} (u : Un fs ex H H' h h') (n : H' a = none) (new : h.get? a = none) : Un fs ex H (upd H' a o) h h' := by
  refine ⟨u.keep, u.slot, fun b ob e hn hx => ?_, u.there, fun b xs q => ?_, fun b ob v q => ?_, fun b ps q => ?_⟩
  · rw [upd_ne (fun z => by rw [z, new] at e; cases e)]
    exact u.free b ob e hn hx
  · have z := u.tups b xs q
    rw [upd_ne (ne_of_none z n)]; exact z
  · have z := u.frzs b ob v q
    rw [upd_ne (ne_of_none z n)]; exact z
  · obtain ⟨more, z⟩ := u.tbls b ps q
    exact ⟨more, by rw [upd_ne (ne_of_none z n)]; exact z⟩
/-- a name is gone: nothing is said of the names -/
theorem inv_gone {X : Cx} {pins : List (Addr × Obj)} {σ : St} {H : Hp} {s : Shared} {h' : Heap} {m' : Str → Option Value} {t' : Nat} (I : Inv X pins σ H s) (hn' : h'.Ns X.env.locals m') (hs : Heap.SameBut X.env.locals s.heap h') :
    Inv X pins (List.replicate X.N.length none) H { s with heap := h', toks := t' } := by
  have cne := I.cne
  obtain ⟨m, hn, _⟩ := id I.loc
  have lt : ∀ b o, X.s₀.heap.get? b = some o → b ≠ X.env.locals := fun b o e => Nat.ne_of_lt (Nat.lt_of_lt_of_le (Heap.lt_size e) I.ok.above)
  refine ⟨I.ok, I.os, I.bare, ⟨fun b o e n hb hx => ?_, fun b o e n hb hx => ?_, I.base.free, fun b o e hx => ?_, I.base.tups, I.base.frzs, I.base.tbls⟩, ⟨m', hn', fun j y v' e1 e2 e3 => ?_⟩, fun y c e => ?_, I.free, I.freeC, fun p hp => ?_, fun b ob e => ?_, by simp⟩
  · exact (hs.2 b (lt b o e)).trans (I.base.keep b o e n hb hx)
  · obtain ⟨sl, e1⟩ := I.base.slot b o e n hb hx
    exact ⟨sl, (hs.2 b (lt b o e)).trans e1⟩
  · obtain ⟨o', e1⟩ := I.base.there b o e hx
    exact ⟨o', (hs.2 b (lt b o e)).trans e1⟩
  · rw [List.getElem?_replicate] at e2
    split at e2 <;> cases e2
  · obtain ⟨w', z⟩ := I.cell y c e
    exact ⟨w', z.sameBut hs (cne y c e)⟩
  · obtain ⟨e, n, ne, nf, d⟩ := I.pin p hp
    exact ⟨(hs.2 p.1 ne).trans e, n, ne, nf, d⟩
  · refine (I.hok b ob e).stay (fun c w' hc q => (hs.2 c ?_).trans q) (fun _ q => q) fun _ _ q => q
    rintro rfl
    have hfree := I.free
    rcases hc with rfl | hc
    · rw [hfree] at e; cases e
    · rw [hfree] at hc; cases hc
/-- within the except's suite, which raises nothing -/
abbrev Cx.inExcN (X : Cx) (a : Addr) : Cx := { X with A := X.A.mark (some (.ref a)), calm := false, xe := fun _ _ => False }
section
variable {X : Cx} {pins : List (Addr × Obj)} {σ : St} {H : Hp} {s : Shared} {a : Addr}
theorem Inv.inExcN (I : Inv X pins σ H s) (a : Addr) : Inv (X.inExcN a) pins σ H s :=
  ⟨⟨I.ok.mod, I.ok.kind, I.ok.glob, I.ok.blt, I.ok.above, I.ok.inj, I.ok.has, I.ok.cab, (fun z => by cases z), I.ok.frames, I.ok.stk, I.ok.exf, I.ok.bs, I.ok.bsz, I.ok.noex, I.ok.exfs, I.ok.funs, I.ok.frf⟩,
    I.os, I.bare, I.base, I.loc, I.cell, I.free, I.freeC, I.pin, I.hok, I.len⟩
theorem Inv.outExcN (ok : X.Ok) (I : Inv (X.inExcN a) pins σ H s) : Inv X pins σ H s :=
  ⟨ok, I.os, I.bare, I.base, I.loc, I.cell, I.free, I.freeC, I.pin, I.hok, I.len⟩
end
def tTryAs (K : PySem.W.Frag) (Dc : Addr) (i : Nat) (tb : (St → XK) → TS) (ts : Addr → TS) : TS := fun D σ H => ∃ Eb : St → XK, tb Eb D σ H ∧ ∀ σ' C H', Eb σ' (.ref C) none H' → PySem.W.exmOne K (.ref C) (.ref Dc) = some true ∧
  ∀ a, H' a = none → ts a { nx := fun _ _ => False, rt := D.rt } (σ'.set i (some (.ref a))) (upd H' a (ExcO a C))
section
variable {X : Cx} {x n : Str} {i : Nat} {np hpos pos : Pos} {body : List Stmt} {b₀ : Stmt} {suite : List Stmt} {Dc : Addr} {tb : (St → XK) → TS} {ts : Addr → TS}
theorem ps_tryAs (hst : X.stack = X.env :: X.outer) (hfm : X.env.frame = some X.env.locals) (hm : X.mg x = some (.ref Dc)) (hE : ∀ a, PassesOwnAt (model X.prog X.w) (X.A.mark (some (.ref a))) X.A X.env X.xe)
    (hN : X.N.Nodup) (hi : X.N[i]? = some n) (hln : X.env.scope.names.lookup n = some .local)
    (hb : ∀ (Eb : St → XK) (pn : List (Addr × Obj)) (xe : Value → Shared → Prop), Lands (X.inTry pn xe) Eb → PSs (X.inTry pn xe) body (tb Eb)) (hs : ∀ a, PSs (X.inExcN a) (b₀ :: suite) (ts a))
    (hg : Gl X x := by rfl) (hdb : (x == ("__debug__" : Str)) = false := by decide) : PS X (.Try body [.ExceptHandler (some (.Name x np)) (some n) (b₀ :: suite) hpos] [] [] pos) (tTryAs X.K Dc i tb ts) := by
  intro pins s σ H D I h
  obtain ⟨Eb, htb, hts⟩ := h
  refine wpAny_Try_except ?_
  refine wpAny_mono ((hb Eb (X.pn ++ pins) _ ?_) [] s σ H D (I.inTry _) htb) (fun f s1 hsp => ?_) (fun e s1 z => z)
  · intro pins' σ' H1 s1 e s' I1 hx
    obtain ⟨a, C, a0, H', B, rfl, os, bare, un, hok, fl, st, cov, nf, c0, hEb⟩ := hx
    obtain ⟨hmatch, hts'⟩ := hts σ' C H' hEb
    rw [show (X.inTry (X.pn ++ pins) _).stack = X.stack from rfl] at fl un cov nf
    have fl1 := fl
    rw [hst] at fl1
    have hfr : X.A.frames = some (X.env :: X.outer) := by rw [← hst]; exact I.ok.frames
    have afs : a ∉ frs X.stack := fun z => by
      obtain ⟨o, e1, hd⟩ := flying_data fl a z
      obtain ⟨o', fs, e2, d, _⟩ := c0
      rw [e1] at e2; cases e2
      exact hd _ d
    have hBa : B.get? a = none := fl.2.1
    have hHa : H' a = none := by
      cases z : H' a with
      | none => rfl
      | some o =>
        obtain ⟨ob, e⟩ := cov a afs (.inr ⟨o, z⟩)
        rw [hBa] at e; cases e
    have hsa : s1.heap.get? a = none := by
      cases z : s1.heap.get? a with
      | none => rfl
      | some o =>
        obtain ⟨ob, e⟩ := cov a afs (.inl ⟨o, z⟩)
        rw [hBa] at e; cases e
    have go : ∀ (h5 : Heap) (a0' : Value), Heap.FlyingW B (X.env :: X.outer) a (.ref C) a0' h5 → s'.heap.UpToSlots h5 → Inv X pins σ' H' { s' with heap := h5 } := fun h5 a0' fl5 up5 =>
      (I1.call' (s' := { s' with heap := h5 }) os (un_step un cov fl.1 fl5.1 up5 (flying_data fl)) (hok_step hok cov fl.1 fl5.1 nf) bare (fun b z => by cases z)).outTry
    have go2 : ∀ (h5 : Heap) (a0' : Value), Heap.FlyingW B (X.env :: X.outer) a (.ref C) a0' h5 → s'.heap.UpToSlots h5 → Ctx0 a h5 → Inv X pins σ' (upd H' a (ExcO a C)) { s' with heap := h5 } := fun h5 a0' fl5 up5 c5 =>
      (I1.call' (s' := { s' with heap := h5 }) os (un_track (un_step un cov fl.1 fl5.1 up5 (flying_data fl)) hHa hsa) ((hok_step hok cov fl.1 fl5.1 nf).track hHa (exc_ok c5 fl5.there)) bare (fun b z => by cases z)).outTry
    refine wpAny_mono (tame_any (a := a) (s := s') tame_noteFrame c0 (wpAny_looks_onW (E := fun _ _ => False) (Q := fun _ s2 => ∃ h2 : Heap, s2 = { s' with heap := h2 } ∧ Heap.HeldW B (X.env :: X.outer) a (.ref C) a0 X.env.locals h2 ∧ s'.heap.UpToSlots h2) hfr hfm fl1 fun h4 held4 up4 => ⟨h4, rfl, held4, up4⟩)) (fun _ s4 ⟨⟨h4, e4, held4, up4⟩, c4⟩ => ?_) (fun _ _ z => z.1.elim)
    subst e4
    refine wpAny_mono (tame_any (a := a) (s := { s' with heap := h4 }) tame_setFlight c4 (wpAny_landsW (E := fun _ _ => False) (Q := fun _ s2 => ∃ h2 : Heap, s2 = { s' with heap := h2 } ∧ Heap.FlyingW B (X.env :: X.outer) a (.ref C) a0 h2 ∧ h4.UpToSlots h2) held4 fun h5 fl5 up5 => ⟨h5, rfl, fl5, up5⟩)) (fun _ s5 ⟨⟨h5, e5, fl5, up5⟩, c5⟩ => ?_) (fun _ _ z => z.1.elim)
    subst e5
    have I5 := go h5 _ fl5 (up4.trans up5)
    obtain ⟨ob, hob, hobc⟩ := fl5.there
    refine wpAny_handleBy_cons (codeAny_handlers_test (ld_glob (X := X.inExc a) (I5.inExc a) hg hm ?_ hdb)) (by intro q; cases q)
    have LT : PySem.W.Looks (model X.prog X.w) h5 (typeOf (.ref a)) (.ref C) := by
      rw [← hobc]
      exact (PySem.W.Looks.ld hob).andThen .now
    refine PySem.W.exm_one I5.kIn LT hmatch _ _ _ _ (fun b o q => q) ?_
    refine codeAny_handlers_suite_as ?_
    refine wpAny_mono (tame_any (a := a) (s := { s' with heap := h5 }) tame_setFlight c5 (lands_againW (E := fun _ _ => False) (Q := fun _ s2 => ∃ h2 : Heap, s2 = { s' with heap := h2 } ∧ Heap.FlyingW B (X.env :: X.outer) a (.ref C) a0 h2 ∧ h5.UpToSlots h2) fl5 fun h6 fl6 up6 => ⟨h6, rfl, fl6, up6⟩)) (fun _ s6 ⟨⟨h6, e6, fl6, up6⟩, c6⟩ => ?_) (fun _ _ z => z.1.elim)
    subst e6
    have I6 := (go2 h6 _ fl6 ((up4.trans up5).trans up6) c6).inExcN a
    refine store_ok (X := X.inExcN a) (v := .ref a) I6 hN hi (.inl hln) rfl (fun s7 I7 => ?_) (.inr hln)
    refine wpAny_mono (hs a pins s7 _ _ { nx := fun _ _ => False, rt := D.rt } I7 (hts' a hHa)) (fun f s8 q => ?_) (fun _ _ z => z.elim)
    cases f with
    | next => obtain ⟨_, _, _, z⟩ := q; exact z.elim
    | brk => obtain ⟨_, _, _, z⟩ := q; exact z.elim
    | cont => obtain ⟨_, _, _, z⟩ := q; exact z.elim
    | ret u =>
      obtain ⟨v, σ8, H8, I8, rv, q8⟩ := q
      have I8' : Inv X pins σ8 H8 s8 := I8.outExcN I.ok
      obtain ⟨m8, hn8, _⟩ := id I8'.loc
      refine wpAny_nameGoes hln hn8 (by rw [I.ok.kind]; rfl) fun h9 m9 hn9 sb9 => ?_
      exact ⟨v, _, H8, inv_gone I8' hn9 sb9, rv, q8⟩
  · have q := hsp.outTry
    cases f with
    | next => exact wpAny_execs_nil q
    | brk => exact q
    | cont => exact q
    | ret u => exact q
end
end L2

set_option Elab.async false
set_option linter.all false
set_option maxRecDepth 100000
namespace L2
open PySem PySem.Spec PyProof.Rows
set_option maxHeartbeats 1000000 in
theorem comp_genQ {X : Cx} {elt iter tg : Expr} {pos ppos : Pos} {ifs : List Expr} {scope : Scope} {wi : TI} {g : TG} {tc : TT} {te : TE} {use : Option (Value → Sem Unit)} {Qf : Value → Shared → Prop} (own : List Str) (js : List Nat) (N' : List Str) 
    (hi : PIQ X tg iter wi)
    (hg : ∀ C s₀ H₀ ex, PG (cxComp X scope N' C s₀ H₀ ex) tg g)
    (ht : ∀ C s₀ H₀ ex, PTs (cxComp X scope N' C s₀ H₀ ex) ifs tc)
    (he : ∀ C s₀ H₀ ex, PE (cxComp X scope N' C s₀ H₀ ex) elt te)
    (hN' : N' = own ++ js.map fun j => X.N.getD j Str.empty)
    (hk : scope.kind = .function)
    (hcell : ∀ y ∈ scope.names, y.2 ≠ .cell)
    (hnames : ∀ y ∈ scope.names, y.2 = .local → scope.names.lookup y.1 = some .local)
    (hfr : (scope.names.all fun y => y.2 != .free || X.env.scope.names.lookup y.1 == some .cell) = true)
    (hjs : (js.all fun j => scope.names.lookup (X.N.getD j Str.empty) == some .free && (X.N[j]?).isSome) = true)
    (hs : ∀ z, foldedSetIterable iter X.env z = pure z)
    {pins : List (Addr × Obj)} {s : Shared} {σ : St} {H : Hp} {Q : VK} (I : Inv X pins σ H s) (h : tComp own.length js wi g tc te σ H Q)
    (fin : ∀ (D C : Addr) (H' : Hp) (s4 : Shared) (m : Str → Option Value), Inv X pins σ H' s4 → Q (.ref D) H' → s4.heap.Ns C m → CEnd X pins H' C → compPost (model X.prog X.w) X.A X.xe use Qf (.ref D) C (.ok .next) s4) :
    wpAny (model X.prog X.w) X.A (comprehension (.ListComp elt [⟨tg, iter, ifs, 0⟩] scope pos) scope X.env ppos (newList []) false (eval iter X.env) use) Qf X.xe s := by
  have free_cell : ∀ y ∈ scope.names, y.2 = .free → X.env.kindOf y.1 = some .cell := fun y hy hf => by
    have := List.all_eq_true.mp hfr y hy
    rw [hf] at this
    simp at this
    exact this
  have hcl : ∀ y ∈ scope.names, y.2 = .free → ∃ c, X.env.cells.lookup y.1 = some c := fun y hy hf => I.ok.has y.1 (.inl (free_cell y hy hf))
  refine wpAny_comprehension_free (use := use) rfl hs (closureFor_eq hcl) hk hnames ?_
  refine thn (hi pins s σ H _ I h) fun v s1 h1 => thn h1 fun itv s2 h2 => ?_
  obtain ⟨it, fp, tn, J, H2, e, I2, T, st2, f2, W, ⟨m0, w0⟩, turn⟩ := h2
  subst e
  refine wpAny_newObj_type (wpAny_newFunctionEnv hcell (by intro y hy; simp at hy) (fun h₁ hns₁ hsb₁ => ?_) hk)
  dsimp only at hns₁ hsb₁ ⊢
  generalize hG : s2.heap.push { cls := .type "list", dict := none, data := .seq ([] : List Value).toArray } = G at hns₁ hsb₁ ⊢
  have hC : G.objs.size = s2.heap.objs.size + 1 := by rw [← hG, Heap.size_push]
  have hDC : s2.heap.objs.size ≠ G.objs.size := by rw [hC]; exact Nat.ne_of_lt (Nat.lt_succ_self _)
  have below : ∀ b, b < s2.heap.objs.size → b ≠ G.objs.size ∧ b ≠ s2.heap.objs.size := fun b hb => ⟨by rw [hC]; exact Nat.ne_of_lt (Nat.lt_succ_of_lt hb), Nat.ne_of_lt hb⟩
  have old : ∀ b o, s2.heap.get? b = some o → h₁.get? b = some o := fun b o e => hsb₁.extBut b o (below b (Heap.lt_size e)).1 (Heap.get?_push_of_some _ (hG ▸ Heap.get?_push_of_some _ e))
  have hacc : h₁.get? s2.heap.objs.size = some { cls := .type "list", data := .seq ([] : List Value).toArray 0 } := hsb₁.extBut _ _ hDC (Heap.get?_push_of_some _ (hG ▸ Heap.get?_push_size _ rfl))
  have fplt : ∀ b ∈ fp, b < s2.heap.objs.size := fun b hb => let ⟨_, e, _⟩ := T.obj _ _ st2 b hb; Heap.lt_size e
  have ok' : (cxComp X scope N' G.objs.size s2 H2 fp).Ok := by
    refine ⟨I2.ok.mod, hk, I2.ok.glob, I2.ok.blt, by show s2.heap.objs.size ≤ G.objs.size; rw [hC]; exact Nat.le_succ _, fun x y c e1 e2 => I2.ok.inj x y c (lookup_closOf hcl e1) (lookup_closOf hcl e2), fun x hx => ?_,
      fun x c hx _ => (nomatch hx), I2.ok.hd, I2.ok.frames, .inl rfl, fun b hb => ⟨(below b (fplt b hb)).1, fun x c e => (f2 b hb).2.2.2.2.1 x c (lookup_closOf hcl e)⟩, I2.bs, Nat.le_trans I2.ok.bsz I2.sz, fun b o e hb => ?_, fun b hb z => ?_, I2.stack, I2.stkFree⟩
    · have hx' : (relabel scope X.env).names.lookup x = some .cell ∨ (relabel scope X.env).names.lookup x = some .free := hx
      have : (x, NameKind.free) ∈ scope.names ∨ (x, NameKind.cell) ∈ scope.names := by
        rcases hx' with z | z
        · exact relabel_back z (.inl rfl)
        · exact relabel_back z (.inr rfl)
      rcases this with z | z
      · exact has_closOf z
      · exact absurd rfl (hcell _ z)
    · rcases (f2 b hb).2.2.2.1 with z | z
      · exact I2.ok.noex b o e z
      · have h1 : b < X.base.objs.size := Heap.lt_size e
        exact absurd (Nat.lt_of_lt_of_le h1 (Nat.le_trans I2.ok.bsz z)) (Nat.lt_irrefl _)
    · rcases List.mem_cons.mp (I2.stkSub b z) with e | e
      · exact (f2 b hb).2.1 e
      · exact (f2 b hb).2.2.1 e
  have kindCap : ∀ i y, (js.map fun j => X.N.getD j Str.empty)[i]? = some y → ∃ j, js[i]? = some j ∧ X.N[j]? = some y ∧ scope.names.lookup y = some .free := fun i y e => by
    rw [List.getElem?_map] at e
    cases q : js[i]? with
    | none => rw [q] at e; cases e
    | some j =>
      rw [q] at e
      have e' : X.N.getD j Str.empty = y := Option.some.inj e
      have hj := List.all_eq_true.mp hjs j (List.mem_of_getElem? q)
      rw [Bool.and_eq_true] at hj
      obtain ⟨hj1, hj2⟩ := hj
      rw [e'] at hj1
      obtain ⟨z, hz⟩ := Option.isSome_iff_exists.mp hj2
      rw [List.getD_eq_getElem?_getD, hz] at e'
      exact ⟨j, q, by rw [hz]; exact congrArg some e', by simpa using hj1⟩
  have I0 : ∀ tk : Nat, Inv (cxComp X scope N' G.objs.size s2 H2 fp) [(s2.heap.objs.size, { cls := .type "list", data := .seq ([] : List Value).toArray 0 })] (List.replicate own.length none ++ caps σ js) H2 { s2 with heap := h₁, toks := tk } := fun tk => by
    refine ⟨ok', rfl, I2.bare, Un.kept old, ⟨_, hns₁, fun i y v e1 e2 e3 => ?_⟩, fun x c e => ?_, I2.hok.fresh (by show s2.heap.objs.size ≤ G.objs.size; rw [hC]; exact Nat.le_succ _), fun x c e => I2.freeC x c (lookup_closOf hcl e), fun p hp => ?_, I2.hok.kept old, ?_⟩
    · by_cases hlt : i < own.length
      · rw [List.getElem?_append_left (by simpa using hlt), List.getElem?_replicate] at e2
        split at e2 <;> cases e2
      · have e1' : N'[i]? = some y := e1
        rw [hN', List.getElem?_append_right (by omega)] at e1'
        rw [List.getElem?_append_right (by simpa using hlt), List.length_replicate] at e2
        obtain ⟨j, hj, hs2⟩ := caps_get e2
        obtain ⟨j', hj', hN, hfree⟩ := kindCap _ _ e1'
        rw [hj] at hj'; cases hj'
        obtain ⟨m, hm, hl⟩ := I2.loc
        have hcell' : X.env.kindOf y = some .cell := free_cell (y, .free) (PySem.mem_of_lookup hfree) rfl
        obtain ⟨u, r, l⟩ := hl j y v hN hs2 (.inr (.inl hcell'))
        refine ⟨u, r, ?_⟩
        rcases l with ⟨hk', _⟩ | ⟨hk', c, hc', z⟩
        · rw [hcell'] at hk'; cases hk'
        · obtain ⟨c', e'⟩ := has_closOf (env := X.env) (PySem.mem_of_lookup hfree)
          have := lookup_closOf hcl e'
          rw [hc'] at this; cases this
          refine .inr ⟨.inl (lookup_relabel_free I2.ok.kind hfree hcell'), c, e', ?_⟩
          obtain ⟨o, ho, hd⟩ := z
          exact ⟨o, old _ _ ho, hd⟩
    · obtain ⟨v, o, ho, hd⟩ := I2.cell x c (lookup_closOf hcl e)
      exact ⟨v, o, old _ _ ho, hd⟩
    · have hp' : p = (s2.heap.objs.size, { cls := .type "list", data := .seq ([] : List Value).toArray 0 }) := by
        rcases List.mem_append.mp hp with z | z
        · exact absurd (show p ∈ ([] : List (Addr × Obj)) from z) (by simp)
        · simpa using z
      subst hp'
      refine ⟨hacc, I2.hok.fresh (Nat.le_refl _), hDC, fun z => ?_, fun v z => by cases z⟩
      exact absurd (show s2.heap.objs.size ∈ frs X.stack from z) fun z => by
        rcases List.mem_cons.mp (I2.stkSub _ z) with e | e
        · have := I2.lt
          rw [← e] at this
          exact Nat.lt_irrefl _ this
        · exact I2.nofs (Nat.le_refl _) e
    · show _ = N'.length
      rw [hN']
      simp [caps]
  have stat : ∀ {H' : Hp} {ob : Obj}, (∀ b ∈ fp, H' b = none) → ∀ b ∈ fp, FpOk (cxComp X scope N' G.objs.size s2 H2 fp) [(s2.heap.objs.size, ob)] H' b := fun {H' ob} hn b hb =>
    ⟨hn b hb, (below b (fplt b hb)).1, fun z => ok'.exfs b hb z, .inl hb, fun x c e => (f2 b hb).2.2.2.2.1 x c (lookup_closOf hcl e), fun p hp => by
      have hp' : p = (s2.heap.objs.size, ob) := by
        rcases List.mem_append.mp hp with z | z
        · exact absurd (show p ∈ ([] : List (Addr × Obj)) from z) (by simp)
        · simpa using z
      subst hp'
      exact Ne.symm (below b (fplt b hb)).2⟩
  have loop : ∀ s₃ : Shared, s₃ = { s2 with heap := h₁, toks := s2.toks + ([] : List (Str × Value)).length } →
      codeAny (model X.prog X.w) X.A (.compLoop (.ListComp elt [⟨tg, iter, ifs, 0⟩] scope pos) 0 (.ref it) (.ref s2.heap.objs.size) (compEnvC scope (closOf scope X.env) G.objs.size X.env))
        (compPost (model X.prog X.w) X.A X.xe use Qf (.ref s2.heap.objs.size) G.objs.size) s₃ := by
    rintro s₃ rfl
    refine comp_loop (fun n s' => ∃ (i : Nat) (os : St) (H' : Hp) (ys : List V) (its : List Value) (k : Nat), os.length = own.length ∧
      Inv (cxComp X scope N' G.objs.size s2 H2 fp) [(s2.heap.objs.size, { cls := .type "list", data := .seq its.toArray k })] (os ++ caps σ js) H' s' ∧ tn i s'.heap ∧ (∀ b ∈ fp, H' b = none) ∧ Vals ys its ∧ W i n ys H') ?_ m0
      ⟨0, _, H2, [], [], 0, by simp, I0 _, T.keep _ _ _ st2 fun b _ o e => old b o e, fun b hb => (f2 b hb).1, .nil, w0⟩
    rintro n s3 ⟨i, os, H3, ys, its, k, hos, I3, st3, fr3, rv3, w3⟩
    have pinD : ∀ {σ' : St} {H' : Hp} {s' : Shared}, Inv (cxComp X scope N' G.objs.size s2 H2 fp) [(s2.heap.objs.size, { cls := .type "list", data := .seq its.toArray k })] σ' H' s' → s'.heap.get? s2.heap.objs.size = some { cls := .type "list", data := .seq its.toArray k } ∧ H' s2.heap.objs.size = none :=
      fun I => let q := I.pin (s2.heap.objs.size, { cls := .type "list", data := .seq its.toArray k }) (List.mem_append_right _ (by simp)); ⟨q.1, q.2.1⟩
    rcases turn i n ys H3 w3 with ⟨stop, hz, qn⟩ | ⟨go, hz, step⟩
    · refine thn (T.done (cxComp X scope N' G.objs.size s2 H2 fp) rfl rfl rfl rfl i _ s3 _ H3 _ I3 (stat fr3) st3 stop) fun r s4 ⟨hr, I4⟩ => ?_
      subst hr
      obtain ⟨hD4, hn4⟩ := pinD I4
      obtain ⟨m, hm, _⟩ := I4.loc
      have hsb : Heap.SameBut G.objs.size s4.heap s4.heap := ⟨rfl, fun _ _ => rfl⟩
      have b4 := I4.base
      have nC : ∀ b o, s2.heap.get? b = some o → b ≠ G.objs.size := fun b o e => (below b (Heap.lt_size e)).1
      have nD : ∀ b o, s2.heap.get? b = some o → b ≠ s2.heap.objs.size := fun b o e => (below b (Heap.lt_size e)).2
      have hok' : HOk X.prog X.w H3 s4.heap := fun b ob e => by
        refine (I4.hok b ob e).stay (fun c w' hc' q => (hsb.2 c ?_).trans q) (fun _ q => q) fun _ _ q => q
        rintro rfl
        rcases hc' with hc' | hc'
        · rw [← hc', show H3 G.objs.size = none from I4.free] at e; cases e
        · rw [show H3 G.objs.size = none from I4.free] at hc'; cases hc'
      have hD' : s4.heap.get? s2.heap.objs.size = some { cls := .type "list", data := .seq its.toArray k } := (hsb.2 _ hDC).trans hD4
      have hCn : H3 G.objs.size = none := I4.free
      have hC2 : s2.heap.objs.size ≤ G.objs.size := by rw [hC]; exact Nat.le_succ _
      refine fin s2.heap.objs.size G.objs.size (upd H3 s2.heap.objs.size (.lst ys)) s4 m ?_ (qn _ hn4) hm ⟨by rw [upd_ne (Ne.symm hDC)]; exact hCn, fun z => ?_, Nat.le_trans I2.sz hC2, fun x c e z => ?_, fun p hp z => ?_⟩
      rotate_left
      · have h9 := I2.lt
        rw [← z] at h9
        exact Nat.lt_irrefl _ (Nat.lt_of_lt_of_le h9 hC2)
      · obtain ⟨v, o, ho, _⟩ := I2.cell x c e
        have h9 := Heap.lt_size ho
        rw [z] at h9
        exact Nat.lt_irrefl _ (Nat.lt_of_lt_of_le h9 hC2)
      · have h9 := Heap.lt_size (I2.pin p hp).1
        rw [z] at h9
        exact Nat.lt_irrefl _ (Nat.lt_of_lt_of_le h9 hC2)
      refine I2.call' (ch := fp) I4.os ⟨fun b o e n hb hx => ?_, fun b o e n hb hx => ?_, fun b o e n hx => ?_, fun b o e hx => ?_, fun b xs q => ?_, fun b o u q => ?_, fun b ps q => ?_⟩ (hok'.track hn4 ⟨hz, its, k, rv3, hD'⟩) I4.bare fun b hb => ⟨(f2 b hb).2.2.2.1, (f2 b hb).2.1, (f2 b hb).2.2.2.2.1, (f2 b hb).2.2.2.2.2⟩
      · exact (hsb.2 b (nC b o e)).trans (b4.keep b o e n hb hx)
      · obtain ⟨sl, e1⟩ := b4.slot b o e n hb hx
        exact ⟨sl, (hsb.2 b (nC b o e)).trans e1⟩
      · rw [upd_ne (nD b o e)]; exact b4.free b o e n hx
      · obtain ⟨o', e1⟩ := b4.there b o e hx
        exact ⟨o', (hsb.2 b (nC b o e)).trans e1⟩
      · have z := b4.tups b xs q
        rw [upd_ne (ne_of_none z hn4)]; exact z
      · have z := b4.frzs b o u q
        rw [upd_ne (ne_of_none z hn4)]; exact z
      · obtain ⟨more, z⟩ := b4.tbls b ps q
        exact ⟨more, by rw [upd_ne (ne_of_none z hn4)]; exact z⟩
    · refine thn (T.item (cxComp X scope N' G.objs.size s2 H2 fp) rfl rfl rfl rfl i _ s3 _ H3 _ I3 (stat fr3) st3 go) fun r s4 ⟨u, hr, h4⟩ => ?_
      subst hr
      refine thn h4 fun _ s5 ⟨x, H5, I5, r5, y5, st5, fr5⟩ => ?_
      have fpo := T.obj _ _ st5
      have I5' := I5.pinned (stat fr5) fpo
      refine wpAny_mono (hg _ _ _ _ _ s5 _ H5 x u _ I5' r5 (step x H5 y5 os hos)) (fun _ s6 ⟨σ6, H6, I6, ⟨os', hos', e6⟩, q6⟩ => ?_) fun _ _ z => False.elim z
      subst e6
      refine wpAny_mono (ht _ _ _ _ _ s6 _ H6 _ I6 q6) (fun ok s7 ⟨H7, I7, q7⟩ => ?_) fun _ _ z => False.elim z
      have keepFp : ∀ {σ' : St} {H' : Hp} {s' : Shared}, Inv (cxComp X scope N' G.objs.size s2 H2 fp) ([(s2.heap.objs.size, { cls := .type "list", data := .seq its.toArray k })] ++ pinsAt fp s5.heap) σ' H' s' → tn (i + 1) s'.heap ∧ ∀ b ∈ fp, H' b = none := fun I => by
        refine ⟨T.keep _ _ _ st5 fun b hb o e => (I.pin (b, o) (List.mem_append_right _ (List.mem_append_right _ (mem_pinsAt hb e)))).1, fun b hb => ?_⟩
        obtain ⟨o, e, d⟩ := fpo b hb
        exact (I.pin (b, o) (List.mem_append_right _ (List.mem_append_right _ (mem_pinsAt hb e)))).2.1
      cases ok with
      | false =>
        obtain ⟨m', hm', w'⟩ := q7
        obtain ⟨k1, k2⟩ := keepFp I7
        exact ⟨m', hm', i + 1, os', H7, ys, its, k, hos', I7.unpinned, k1, k2, rv3, w'⟩
      | true =>
        rw [if_pos rfl]
        refine wpAny_mono (he _ _ _ _ _ s7 _ H7 _ I7 q7) (fun yv s8 ⟨y, H8, I8, r8, q8⟩ => ?_) fun _ _ z => False.elim z
        obtain ⟨m', hm', w'⟩ := q8
        obtain ⟨k1, k2⟩ := keepFp I8
        have I8' := I8.unpinned
        obtain ⟨hD8, hn8⟩ := pinD I8'
        have hil : its.length < sizeLine := by rw [← rv3.length]; exact hz
        refine call_meets F.slot_list_append ⟨_, hD8, rfl⟩ F.entry_list_append (F.args_list_append_2 _ _) (PySem.list_append _ its.toArray k yv (by rw [List.size_toArray]; omega)) ⟨hD8, ?_⟩
        have q : (s8.heap.update s2.heap.objs.size (Obj.mapSeq fun a => a.push yv)).get? s2.heap.objs.size = some { cls := .type "list", data := .seq (its ++ [yv]).toArray (if (its.toArray.push yv).size == its.toArray.size then k else k + 1) } := by
          have q0 := PySem.IsL.update hD8 (fun a : Array Value => a.push yv)
          have ea : its.toArray.push yv = (its ++ [yv]).toArray := by simp
          rw [← ea]
          exact q0
        refine ⟨m', hm', i + 1, os', H8, ys ++ [y], its ++ [yv], (if (its.toArray.push yv).size == its.toArray.size then k else k + 1), hos', ?_, T.keep _ _ _ k1 fun b hb o e => (Heap.get?_update_other s8.heap _ (below b (fplt b hb)).2.symm).trans e, k2, rv3.append (.cons r8 .nil), w'⟩
        have In : Inv (cxComp X scope N' G.objs.size s2 H2 fp) [] (os' ++ caps σ js) H8 s8 := I8'.pins_of fun p hp => absurd hp (by simp)
        have It : Inv (cxComp X scope N' G.objs.size s2 H2 fp) [] (os' ++ caps σ js) H8 { s8 with heap := s8.heap.update s2.heap.objs.size (Obj.mapSeq fun a => a.push yv) } :=
          In.turned (it := s2.heap.objs.size) (t' := s8.toks) (fun b o hb e => (Heap.get?_update_other s8.heap _ (Ne.symm hb)).trans e) hn8 hDC (.inr (Nat.le_refl _)) (fun x c e z => by
            obtain ⟨v, o, ho, hd⟩ := I8'.cell x c e
            rw [z, hD8] at ho
            cases ho
            cases hd) fun p hp => absurd hp (by simp [cxComp])
        refine It.pins_of fun p hp => ?_
        have hp' : p = (s2.heap.objs.size, { cls := .type "list", data := .seq (its ++ [yv]).toArray (if (its.toArray.push yv).size == its.toArray.size then k else k + 1) }) := List.mem_singleton.mp hp
        subst hp'
        exact ⟨q, hn8, hDC, (I8'.pin _ (List.mem_append_right _ (List.mem_singleton.mpr rfl))).2.2.2.1, fun v z => by cases z⟩
  exact codeAny_compStart_list (loop _ rfl) (T.self _ 0 _ _ _ (T.keep _ _ _ st2 fun b _ o e => old b o e) (loop _ rfl))
theorem ps_setC2Q {X : Cx} {elt iter : Expr} {x x2 y : Str} {px px2 py ptt pos spos : Pos} {kk : Nat} {ifs : List Expr} {scope : Scope} {wi : TI} {tc : TT} {te : TE} {i : Nat} (js : List Nat) (N' : List Str) (hN : X.N.Nodup) (hy : X.N[i]? = some y) (hl : Loc X.env.scope y)
    (hi : PIQ X (.Tuple [.Name x px, .Name x2 px2] kk ptt) iter wi)
    (ht : ∀ C s₀ H₀ ex, PTs (cxComp X scope N' C s₀ H₀ ex) ifs tc)
    (he : ∀ C s₀ H₀ ex, PE (cxComp X scope N' C s₀ H₀ ex) elt te)
    (hsw : swapsWith (.ListComp elt [⟨.Tuple [.Name x px, .Name x2 px2] kk ptt, iter, ifs, 0⟩] scope pos) (some (.Name y py)) spos.line X.env = pure true := by rfl)
    (hf : X.fn y = true ∨ X.env.scope.names.lookup y = some .local := by first | exact .inl rfl | exact .inr rfl | assumption)
    (nd : N'.Nodup := by decide +kernel)
    (hx : scope.names.lookup x = some .local := by rfl) (hx2 : scope.names.lookup x2 = some .local := by rfl)
    (hN' : N' = [x, x2] ++ js.map fun j => X.N.getD j Str.empty := by rfl)
    (hk : scope.kind = .function := by rfl)
    (hcell : ∀ y ∈ scope.names, y.2 ≠ .cell := by decide +kernel)
    (hnames : ∀ y ∈ scope.names, y.2 = .local → scope.names.lookup y.1 = some .local := by decide +kernel)
    (hfr : (scope.names.all fun y => y.2 != .free || X.env.scope.names.lookup y.1 == some .cell) = true := by rfl)
    (hjs : (js.all fun j => scope.names.lookup (X.N.getD j Str.empty) == some .free && (X.N[j]?).isSome) = true := by rfl)
    (hs : ∀ z, foldedSetIterable iter X.env z = pure z := by intro _; rfl) :
    PS X (.Assign [.Name y py] (.ListComp elt [⟨.Tuple [.Name x px, .Name x2 px2] kk ptt, iter, ifs, 0⟩] scope pos) spos) (tAsg (tComp 2 js wi (gTupQ X.A X.K 2 (gCons (gName 0) (gCons (gName 1) gNil))) tc te) (gName i)) := by
  intro pins s σ H D I h
  rw [exec_Assign_Name_used _ _ _ _ hsw]
  refine wpAny_bind (wpAny_standAt (wpAny_bind ?_))
  show wpAny _ _ (do let _ ← comprehension (.ListComp elt [⟨.Tuple [.Name x px, .Name x2 px2] kk ptt, iter, ifs, 0⟩] scope pos) scope X.env _ (newList []) false (eval iter X.env) (some (assign (.Name y py) X.env))) _ _ s
  refine wpAny_bind (wpAny_mono (comp_genQ (use := some (assign (.Name y py) X.env)) (Qf := fun _ s' => SP X pins D .next s') [x, x2] js N' hi (fun C s₀ H₀ ex => pg_tupQ (X := cxComp X scope N' C s₀ H₀ ex) rfl
      (pgs_cons (pg_name (X := cxComp X scope N' C s₀ H₀ ex) (i := 0) nd (by show N'[0]? = some x; rw [hN']; rfl) (Or.inl (lookup_relabel_local hx)) (.inr (lookup_relabel_local hx)))
        (pgs_cons (pg_name (X := cxComp X scope N' C s₀ H₀ ex) (i := 1) nd (by show N'[1]? = some x2; rw [hN']; rfl) (Or.inl (lookup_relabel_local hx2)) (.inr (lookup_relabel_local hx2))) pgs_nil)))
    ht he hN' hk hcell hnames hfr hjs hs I h ?_) (fun _ s' hq => wpAny_pure (wpAny_pure hq)) fun _ _ e => e)
  intro B C H' s4 m I4 q hn ce
  refine wpAny_assign_Name (store_ok2 I4 hN hy hl (v := .ref B) rfl (fun s5 I5 ⟨a, sb, ha⟩ => ?_) hf)
  have hne : C ≠ a := by
    rcases ha with rfl | ha
    · exact ce.ne
    · exact Ne.symm (ce.cl _ _ ha)
  refine ⟨m, hn.sameBut sb hne, fun h' hsb => ⟨_, H', I5.turned (t' := s5.toks) (it := C) (fun b o hb e => (hsb.2 b hb).trans e) ce.no ce.ne (.inr ce.new) ce.cl ce.pn, q⟩⟩
end L2

set_option Elab.async false
set_option linter.all false
set_option maxRecDepth 100000
namespace WM
open PySem PySem.StrLaws

end WM

set_option Elab.async false
set_option linter.all false
set_option maxRecDepth 100000
namespace L2
open PySem PySem.Spec PyProof.Rows
/-! ### any(xs) of a list of truths -/
section
variable {X : Cx}
end
/-! ### a def that a name of the frame holds -/
section
variable {X : Cx} {x y : Str} {ps : List Str} {sp : Sp} {j k : Nat} {e : Expr} {es : List Expr} {t : TA} {p pos : Pos} {f : Addr}
end
/-! ### a comprehension over a zip of two tuples -/
end L2

set_option Elab.async false
set_option linter.all false
set_option maxRecDepth 100000
namespace L2
open PySem PySem.Spec PyProof.Rows
open PySem.AutoSeq1 (wpAny_loadPart')
section
variable {s : Shared} {A : Around} {l : Addr} {o : Obj} {es : Array DictEntry} {ep : Nat}
end
theorem pass1N {P : Program} {w : World} {base : Heap} {X : Cx} : Passes (CX1 P w base) X E0 := by
  intro pins σ H s e s' I h
  obtain ⟨a, C, a0, H', B, rfl, os, bare, un, hok, fl, st, cov, nf, c0, hEb⟩ := h
  exact hEb.elim
end L2

set_option Elab.async false
set_option linter.all false
set_option maxRecDepth 100000
namespace L2
open PySem PySem.Spec PyProof.Rows
section
variable {X : Cx}
end
end L2

set_option Elab.async false
set_option linter.all false
set_option maxRecDepth 100000
namespace L2
open PySem PySem.Spec PyProof.Rows
/-! ### d.values() -/
structure M0 (X : Cx) (o : Expr) (m : Str) (apos : Pos) (cpos : Pos) : Prop where
  base : attributeBase o m X.env (eval o X.env) = eval o X.env
  few : ((backTo cpos (starEach [] X.env)).all (fun x => !x.1) && (backToKw cpos (keywordEach [] X.env)).all (fun x => x.1.isSome)
    && decide (([] : List Expr).length + ([] : List Keyword).length + (if ([] : List Keyword).isEmpty then 0 else 1) < 30)) = true
  line : (apos.endLine == cpos.line) = true
  trees : backTo cpos (starEach [] X.env) = []
/-- a view of the dict at d -/
def ViewO (r d : Addr) : HO := .ext fun h => h.IsValuesView r d
def tDVals (td : TE) : TE := fun σ H Q => td σ H fun x H1 => ∃ d kvs, x = .ref d ∧ H1 d = some (.dK kvs) ∧ ∀ r, H1 r = none → Q (.ref r) (upd H1 r (ViewO r d))
section
variable {X : Cx} {o : Expr} {td : TE} {apos cpos : Pos}
theorem pe_dvals (ho : PE X o td) (m : M0 X o "values" apos cpos) : PE X (.Call (.Attribute o "values" apos) [] [] cpos) (tDVals td) := by
  intro pins s σ H Q I h
  refine wpAny_Call_method m.base m.few m.line PySem.F.plainAttrs_dict PySem.F.slot_dict_values PySem.F.type_dict_values (thn (ho pins s σ H _ I h) fun u s1 ⟨x, H1, I1, rx, d, kvs, ex, e1, q1⟩ => ?_)
  subst ex
  obtain rfl : u = Value.ref d := rx
  obtain ⟨t1, t2, hs⟩ := isD_at I1 (.inl ⟨kvs, .inl e1⟩)
  refine ⟨t1, t2, ?_⟩
  rw [m.trees]
  refine Calls.callWith_builtin rfl (PySem.evalArgs_none ?_)
  obtain ⟨_, hd, vs, rel, dd⟩ := dk_of I1.hok e1
  refine call_meetsIn PySem.F.slot_dict_values dd.typeIs PySem.F.entry_dict_values (PySem.F.args_dict_values_1 _) (meets_dict_values (mixKind X.prog X.w) d hd) ⟨⟨vs, dd⟩, ?_⟩
  refine ⟨.ref s1.heap.objs.size, _, I1.laid (t' := s1.toks) (o := ViewO s1.heap.objs.size d) (fun b ob q => Heap.get?_push_of_some _ q) (Nat.le_refl _) ?_, rfl, q1 _ (I1.hok.fresh (Nat.le_refl _))⟩
  have v : (s1.heap.push { cls := .type "dict_values", data := .fields #[.ref d] }).IsValuesView s1.heap.objs.size d := ⟨_, Heap.get?_push_size _ rfl, rfl, rfl⟩
  refine ⟨v, ⟨_, Heap.get?_push_size _ rfl⟩, fun h1 h2 p st => ?_⟩
  obtain ⟨ob, e, r⟩ := p
  exact ⟨ob, st ob e, r⟩
theorem kvVal {κ : Type} : ∀ {a : List (κ × V)} {b : List (κ × Value)} {i : Nat} {p : κ × V} {k : κ} {x : Value}, KV a b → a[i]? = some p → b[i]? = some (k, x) → RelV p.2 x
  | _, _, _, _, _, _, .nil, h, _ => by simp at h
  | _, _, 0, _, _, _, .cons h _, h1, h2 => by
    simp at h1 h2
    rw [← h1]
    have := h.2
    rw [h2] at this
    exact this
  | _, _, i + 1, _, _, _, .cons _ r, h1, h2 => kvVal r (i := i) (by simpa using h1) (by simpa using h2)
/-- list(d.values()) -/
theorem call_listV (hc : X.calm = true) : CallR X (.type "list") (fun xs H Q => ∃ r d kvs, xs = [.ref r] ∧ H r = some (ViewO r d) ∧ H d = some (.dK kvs) ∧ ∀ l, H l = none → Q (.ref l) (upd H l (.lst (kvs.map (·.2))))) := by
  intro pins s σ H xs us Q I rr h
  obtain ⟨r, d, kvs, rfl, hr, hd, q⟩ := h
  obtain ⟨u, rfl, rx⟩ := vals1 rr
  cases rx
  obtain ⟨hz, lo, vs, kv, ob, es, ep, e1, e2, e3, e4⟩ := (show ObjOk X.prog X.w H s.heap d (.dK kvs) from I.hok d _ hd)
  have hat : s.heap.DictAt (mixKind X.prog X.w) d vs ep := ⟨ob, es, e1, e2, e3, e4⟩
  have hvw : s.heap.IsValuesView r d := (I.hok r _ hr).1
  have hlen : vs.length = kvs.length := (kvLen kv).symm
  refine PySem.W.kdl_call (PySem.W.kdl_values (knd := mixKind X.prog X.w) (kvs := vs) (ep := ep)) (I.ok.hd hc) ⟨hvw, hat⟩ (by omega) fun h' tk acc c k hD hacc => ?_
  refine ⟨.ref s.heap.objs.size, _, I.laid (o := .lst (kvs.map (·.2))) (t' := tk) (fun b o e => k b o e) (Nat.le_refl _) ?_, rfl, q _ (I.hok.fresh (Nat.le_refl _))⟩
  refine ⟨by rw [List.length_map]; exact hz, acc.toList, c, ?_, by rw [Array.toArray_toList]; exact hD⟩
  refine vals_of (by have h1 := hacc.1; simp only [List.length_map, Array.length_toList]; omega) fun i v u hv hu => ?_
  rw [List.getElem?_map] at hv
  obtain ⟨k', hk⟩ := hacc.2 i u (by rw [← Array.getElem?_toList]; exact hu)
  cases hp : kvs[i]? with
  | none => rw [hp] at hv; cases hv
  | some pr =>
    rw [hp] at hv
    cases hv
    exact kvVal kv hp hk
/-! ### a dict frozen while its values are walked -/
theorem Inv.freeze {pins : List (Addr × Obj)} {σ : St} {H : Hp} {s : Shared} {d : Addr} {kvs : List (Key × V)} {ob : Obj} (I : Inv X pins σ H s) (e : H d = some (.dK kvs)) (ho : s.heap.get? d = some ob) : Inv X pins σ (upd H d (.frz ob (.dK kvs))) s := by
  have new : ObjOk X.prog X.w (upd H d (.frz ob (.dK kvs))) s.heap d (.frz ob (.dK kvs)) := ⟨ho, dk_of I.hok e⟩
  exact I.write (x := d) (e := d) (t' := s.toks) (by rw [e]; exact True.intro) (.inl rfl) (fun b u _ q => q) ⟨ob, ho⟩ new
theorem Inv.thaw {pins : List (Addr × Obj)} {σ : St} {H : Hp} {s : Shared} {d : Addr} {kvs : List (Key × V)} {ob : Obj} (I : Inv X pins σ H s) (e : H d = some (.frz ob (.dK kvs))) (nf : ∀ o u, X.H₀ d ≠ some (.frz o u)) : Inv X pins σ (upd H d (.dK kvs)) s := by
  have nd : ∀ b, H b = none → (upd H d (.dK kvs)) b = none := fun b n => by rw [upd_ne (fun z => by rw [z, e] at n; cases n)]; exact n
  have ne : ∀ b u, (∀ o v, u ≠ .frz o v) → H b = some u → (upd H d (.dK kvs)) b = some u := fun b u hu q => by
    rw [upd_ne (fun z => by rw [z, e] at q; injection q with q; exact hu _ _ q.symm)]; exact q
  refine ⟨I.ok, I.os, I.bare, ⟨I.base.keep, I.base.slot, fun b o h1 h2 h3 => nd b (I.base.free b o h1 h2 h3), I.base.there, fun b xs q => ne b _ (fun _ _ z => by cases z) (I.base.tups b xs q), fun b o u q => ?_, fun b ps q => ?_⟩, I.loc, I.cell, nd _ I.free, fun x c h => nd _ (I.freeC x c h), fun p hp => ?_, fun b u q => ?_, I.len⟩
  · rw [upd_ne (fun z => nf o u (by rw [← z]; exact q))]
    exact I.base.frzs b o u q
  · obtain ⟨more, z⟩ := I.base.tbls b ps q
    exact ⟨more, ne b _ (fun _ _ z => by cases z) z⟩
  · obtain ⟨h1, h2, h3⟩ := I.pin p hp
    exact ⟨h1, nd _ h2, h3⟩
  · by_cases hb : b = d
    · subst hb
      rw [upd_same] at q
      cases q
      exact (I.hok b _ e).2
    · rw [upd_ne hb] at q
      exact (I.hok b u q).stay (fun _ _ _ r => r) (fun c r => ne c _ (fun _ _ z => by cases z) r) fun c xs r => ne c _ (fun _ _ z => by cases z) r
/-- the ends of a statement that goes with a frozen dict -/
def thawD (H0 : Hp) (D : Ends) : Ends where
  nx := fun σ H => ∃ d kvs ob, H d = some (.frz ob (.dK kvs)) ∧ (∀ o u, H0 d ≠ some (.frz o u)) ∧ D.nx σ (upd H d (.dK kvs))
  rt := fun v H => ∃ d kvs ob, H d = some (.frz ob (.dK kvs)) ∧ (∀ o u, H0 d ≠ some (.frz o u)) ∧ D.rt v (upd H d (.dK kvs))
theorem ps_thaw {st : Stmt} {t : TS} (h : PS X st t) : PS X st (fun D σ H => t (thawD X.H₀ D) σ H) := by
  intro pins s σ H D I q
  refine wpAny_mono (h pins s σ H _ I q) (fun f s' hs => ?_) fun _ _ z => z
  cases f with
  | next =>
    obtain ⟨σ', H', J, d, kvs, ob, e, nf, z⟩ := hs
    exact ⟨σ', _, J.thaw e nf, z⟩
  | brk => obtain ⟨_, _, _, z⟩ := hs; exact z.elim
  | cont => obtain ⟨_, _, _, z⟩ := hs; exact z.elim
  | ret u =>
    obtain ⟨v, σ', H', J, r, d, kvs, ob, e, nf, z⟩ := hs
    exact ⟨v, σ', _, J.thaw e nf, r, z⟩
end
/-! ### the walk -/
def Itv (d : Addr) (ob : Obj) : It :=
  ⟨fun i H => ∃ kvs, H d = some (.frz ob (.dK kvs)) ∧ i < kvs.length, fun i H x H' => H' = H ∧ ∀ kvs, H d = some (.frz ob (.dK kvs)) → (kvs.map (·.2))[i]? = some x, fun i H => ∃ kvs, H d = some (.frz ob (.dK kvs)) ∧ i = kvs.length⟩
theorem wk_vals (d : Addr) (ob : Obj) (kvs : List (Key × V)) : Wk (Itv d ob) (kvs.map (·.2)) (fun H => H d = some (.frz ob (.dK kvs))) :=
  ⟨fun i H hi h => ⟨kvs, h, by rw [List.length_map] at hi; exact hi⟩, fun i H x H' h y => ⟨y.1, fun _ => y.2 kvs h⟩, fun H h => ⟨kvs, h, by rw [List.length_map]⟩⟩
theorem turn_vals {P : Program} {w : World} {K : PySem.W.Frag} {tg : Expr} (it d : Addr) (ob : Obj) {es : Array DictEntry} {ep : Nat} (hd : ob.data = .dict es ep) (hne : d ≠ it) :
    Turn P w K tg (Itv d ob) [it] it (fun i h => h.IsValIter it d i es.size ep) where
  mem := by simp
  obj := fun i h st b hb => by
    have e : b = it := by simpa using hb
    subst e
    obtain ⟨o, e, c, dd⟩ := st
    exact ⟨o, e, fun v z => by rw [dd] at z; cases z⟩
  keep := fun i h h' st k => let ⟨o, ho, r⟩ := st; ⟨o, k it (by simp) o ho, r⟩
  item := by
    intro X hP hw hK hc i pins s σ H E I hf st hg
    subst hP hw hK
    obtain ⟨f0, f1, f2, f3, f4, f5⟩ := hf it (by simp)
    obtain ⟨kvs, eH, hi⟩ := hg
    obtain ⟨ho, hz, lo, vs, kv, o', es', ep', e1, e2, e3, e4, e5, e6⟩ := (show ObjOk X.prog X.w H s.heap d (.frz ob (.dK kvs)) from I.hok d _ eH)
    rw [ho] at e1; cases e1
    rw [hd] at e3; cases e3
    have hat : s.heap.DictAt (mixKind X.prog X.w) d vs ep := ⟨ob, es, ho, e2, hd, e4, e5, e6⟩
    have hsz : es.size = vs.length := by rw [← e5.length]; simp
    rw [hsz] at st
    have hlt : i < vs.length := by rw [← kvLen kv]; exact hi
    obtain ⟨k, x, hx⟩ : ∃ k x, vs[i]? = some (k, x) := ⟨vs[i].1, vs[i].2, by rw [List.getElem?_eq_getElem hlt]⟩
    refine wpAny_pyNext_values_item st hat hx fun h' hit' hs' => ?_
    have I1 : Inv X pins σ H { s with heap := h' } := I.turned (t' := s.toks) (fun b o hb e => hs'.extBut b o hb e) f0 f1 f3 f4 f5
    obtain ⟨o2, q1, q2, q3⟩ := id hit'
    have hp : (kvs.map (·.2))[i]? = some (kvs[i]).2 := by rw [List.getElem?_map, List.getElem?_eq_getElem hi]; rfl
    refine ⟨_, rfl, go_of (s := { s with heap := h' }) q1 q2 q3 (by decide) ⟨(kvs[i]).2, H, I1, kvVal kv (List.getElem?_eq_getElem hi) hx, ⟨rfl, fun kvs' e' => ?_⟩, by rw [hsz]; exact hit', fun b hb => (hf b hb).1⟩⟩
    rw [eH] at e'
    cases e'
    exact hp
  done := by
    intro X hP hw hK hc i pins s σ H E I hf st hg
    subst hP hw hK
    obtain ⟨f0, f1, f2, f3, f4, f5⟩ := hf it (by simp)
    obtain ⟨kvs, eH, hi⟩ := hg
    obtain ⟨ho, hz, lo, vs, kv, o', es', ep', e1, e2, e3, e4, e5, e6⟩ := (show ObjOk X.prog X.w H s.heap d (.frz ob (.dK kvs)) from I.hok d _ eH)
    rw [ho] at e1; cases e1
    rw [hd] at e3; cases e3
    have hat : s.heap.DictAt (mixKind X.prog X.w) d vs ep := ⟨ob, es, ho, e2, hd, e4, e5, e6⟩
    have hsz : es.size = vs.length := by rw [← e5.length]; simp
    rw [hsz] at st
    have hx : vs[i]? = none := by rw [List.getElem?_eq_none_iff, ← kvLen kv, hi]; exact Nat.le_refl _
    exact wpAny_pyNext_values_end (I.ok.hd hc) st hat hx fun h' he' => ⟨rfl, I.turned (t' := s.toks) (fun b o hb e => he' b o hb e) f0 f1 f3 f4 f5⟩
  self := fun _ _ _ _ _ st h => wpAny_pyIter_valiter st h
/-- what is walked is a view of a dict, which is frozen from now on -/
def iVals (H0 : Hp) (tl : TE) : TI := fun σ H R => tl σ H fun x H1 => ∃ r d kvs, x = .ref r ∧ H1 r = some (ViewO r d) ∧ H1 d = some (.dK kvs) ∧ ∀ ob, (∀ o u, H0 d ≠ some (.frz o u)) → R (Itv d ob) (upd H1 d (.frz ob (.dK kvs)))
theorem pi_vals {X : Cx} {tg l : Expr} {tl : TE} (hl : PE X l tl) : PI X tg l (iVals X.H₀ tl) := by
  intro pins s σ H R I h
  refine thn (hl pins s σ H _ I h) fun v s1 ⟨x, H1, I1, r1, q1⟩ => ?_
  obtain ⟨r, d, kvs, rfl, hr, hd, q⟩ := q1
  cases r1
  obtain ⟨hz, lo, vs, kv, ob, es, ep, e1, e2, e3, e4, e5, e6⟩ := (show ObjOk X.prog X.w H1 s1.heap d (.dK kvs) from I1.hok d _ hd)
  have hat : s1.heap.DictAt (mixKind X.prog X.w) d vs ep := ⟨ob, es, e1, e2, e3, e4, e5, e6⟩
  have hvw : s1.heap.IsValuesView r d := (I1.hok r _ hr).1
  have hsz : es.size = vs.length := by rw [← e5.length]; simp
  have nf : ∀ o u, X.H₀ d ≠ some (.frz o u) := fun o u z => by
    have := I1.base.frzs d o u z
    rw [hd] at this
    cases this
  refine wpAny_pyIter_values hvw hat ?_
  have I2 := I1.freeze hd e1
  have I3 : Inv X pins σ (upd H1 d (.frz ob (.dK kvs))) { s1 with heap := s1.heap.push { cls := .type "dict_valueiterator", data := .fields #[.ref d, .int 0 0, .int vs.length 0, .int ep 0] } } := I2.kept (t' := s1.toks) fun b o e => Heap.get?_push_of_some _ e
  refine ⟨s1.heap.objs.size, [s1.heap.objs.size], _, _, _, rfl, I3, turn_vals s1.heap.objs.size d ob e3 (Nat.ne_of_lt (Heap.lt_size e1)), ⟨_, Heap.get?_push_size _ rfl, rfl, by rw [hsz]; rfl⟩, fun b hb => ?_, q ob nf⟩
  have e : b = s1.heap.objs.size := by simpa using hb
  subst e
  exact I2.fpOk (Nat.le_refl _) (I2.hok.fresh (Nat.le_refl _))
end L2

set_option Elab.async false
set_option linter.all false
set_option maxRecDepth 100000
namespace L2
open PySem PySem.Spec PyProof.Rows
/-! ### f'..' -/
def PJ (X : Cx) (es : List Expr) (t : Str → TE) : Prop := ∀ (pins : List (Addr × Obj)) (s : Shared) (σ : St) (H : Hp) (Q : VK) (acc : Str), Inv X pins σ H s → t acc σ H Q →
  wpAny (model X.prog X.w) X.A (joinParts acc (evalEach es X.env)) (EP X pins σ Q) X.xe s
section
variable {X : Cx} {e a b : Expr} {es : List Expr} {te : TE} {t : Str → TE} {pos : Pos}
theorem pj_nil : PJ X [] (fun acc σ H Q => acc.length ≤ sizeLine ∧ Q (.str acc) H) := by
  intro pins s σ H Q acc I h
  exact joinParts_nil ⟨.str acc, H, I.tok _, ⟨_, rfl⟩, h.2⟩ h.1
theorem pj_cons (he : PE X e te) (hr : PJ X es t) : PJ X (e :: es) (fun acc σ H Q => te σ H fun x H1 => ∃ y, x = .str y ∧ (acc ++ y).length ≤ sizeLine ∧ t (acc ++ y) σ H1 Q) := by
  intro pins s σ H Q acc I h
  show wpAny _ _ (joinParts acc (eval e X.env :: evalEach es X.env)) _ _ _
  refine joinParts_cons (thn (he pins s σ H _ I h) fun u s1 ⟨x, H1, I1, r, y, ex, hz, q⟩ => ?_)
  subst ex
  obtain ⟨tk, rfl⟩ := r
  exact ⟨hz, hr pins s1 σ H1 Q _ I1 q⟩
theorem pe_fstr (h : PJ X (a :: b :: es) t) : PE X (.JoinedStr (a :: b :: es) pos) (t Str.empty) := by
  intro pins s σ H Q I q
  exact JoinedStr_many (h pins s σ H Q Str.empty I q)
/-- {x}, a text or a number -/
theorem pe_fmt (he : PE X e te) : PE X (.FormattedValue e (-1) none pos) (fun σ H Q => te σ H fun x H1 => (∃ z, x = .str z ∧ z.length ≤ sizeLine ∧ Q (.str z) H1) ∨ (∃ i : Int, x = .int i ∧ i.natAbs.log2 < 1920 ∧ Q (.str (toString i)) H1)) := by
  intro pins s σ H Q I h
  refine FormattedValue_plain (thn (he pins s σ H _ I h) fun u s1 ⟨x, H1, I1, r, q⟩ => ?_)
  rcases q with ⟨z, rfl, hz, q⟩ | ⟨i, rfl, hi, q⟩
  · obtain ⟨tk, rfl⟩ := r
    exact formatField_str (fun t' tk => ⟨.str z, H1, I1.tok _, ⟨_, rfl⟩, q⟩) hz
  · obtain ⟨tk, rfl⟩ := r
    exact formatField_int_small hi ⟨.str (toString i), H1, I1.tok _, ⟨_, rfl⟩, q⟩
end
end L2

set_option Elab.async false
set_option linter.all false
set_option maxRecDepth 100000
namespace L2
open PySem PySem.Spec PyProof.Rows
/-! ### a class called within a try's suite -/
section
variable {X : Cx} {k j : Nat} {f C : Addr} {fd : FuncData} {ps : List Str} {sp : Sp} {Eb : St → XK} {x m : Str} {p pos apos : Pos} {e o : Expr} {es : List Expr} {ta : TE} {t : TA}
end
end L2

set_option Elab.async false
set_option linter.all false
set_option maxRecDepth 100000
set_option maxHeartbeats 1000000
namespace L2
open PySem PySem.Spec PyProof.Rows
section
variable {X : Cx}
/-- d != {} -/
def rNeE : R2 := fun x y H Q => ∃ (a b : Addr) (kvs : List (Key × V)), x = .ref a ∧ y = .ref b ∧ H a = some (.dK kvs) ∧ H b = some (.dK []) ∧ Q (.bl (!kvs.isEmpty)) H
theorem op_neE (hu : X.A.units < cLine) : OpR X (compareOp .NotEq) rNeE := by
  intro pins s σ H x y u v Q I rx ry h
  obtain ⟨a, b, kvs, rfl, rfl, ha, hb, q⟩ := h
  cases rx
  cases ry
  obtain ⟨_, la, va, ra, da⟩ := dk_of I.hok ha
  obtain ⟨_, lb, vb, rb, db⟩ := dk_of I.hok hb
  have hb0 : vb = [] := by cases rb; rfl
  subst hb0
  have hlen := kvLen ra
  refine PySem.W.keq_ne la lb da db hu (r := true) (fun e => ?_) ⟨.bl (!kvs.isEmpty), H, I, ?_, q⟩
  · have : va = [] := List.length_eq_zero_iff.mp e
    rw [this]
    exact .nil
  · cases kvs with
    | nil =>
      have : va = [] := List.length_eq_zero_iff.mp hlen.symm
      subst this
      rfl
    | cons p r =>
      cases va with
      | nil => cases hlen
      | cons p' r' => rfl
theorem ints_at : ∀ {vs : List Value} {ns : List Int}, vs.length = ns.length → (∀ (i : Nat) (n : Int) (u : Value), ns[i]? = some n → vs[i]? = some u → ∃ t, u = .int n t) → IntsAre vs ns
  | [], [], _, _ => .nil
  | [], _ :: _, h, _ => by cases h
  | _ :: _, [], h, _ => by cases h
  | u :: us, n :: ns, h, k => by
    obtain ⟨t, e⟩ := k 0 n u rfl rfl
    subst e
    exact .cons n t (ints_at (Nat.succ.inj h) fun i n' u' a b => k (i + 1) n' u' (by simpa using a) (by simpa using b))
/-- sorted(d), d a dict of fewer than 64 numbers -/
theorem call_sortedD (hc : X.calm = true) : CallR X (.builtin "sorted") (fun xs H Q => ∃ (d : Addr) (kvs : List (Key × V)) (ns : List Int), xs = [.ref d] ∧ H d = some (.dK kvs) ∧ kvs.map (·.1) = ns.map Sum.inl ∧ ns.length < 64 ∧ ∀ (p : Addr) (ms : List Int), H p = none → ms.Perm ns → ms.Pairwise (· ≤ ·) → Q (.ref p) (upd H p (.lst (ms.map V.int)))) := by
  intro pins s σ H xs us Q I r h
  obtain ⟨d, kvs, ns, rfl, hd, hns, h64, q⟩ := h
  obtain ⟨u, rfl, rx⟩ := vals1 r
  cases rx
  obtain ⟨hz, lo, vs, kv, ob, es, ep, e1, e2, e3, e4⟩ := (show ObjOk X.prog X.w H s.heap d (.dK kvs) from I.hok d _ hd)
  have hat : s.heap.DictAt (mixKind X.prog X.w) d vs ep := ⟨ob, es, e1, e2, e3, e4⟩
  have hlen : vs.length = kvs.length := (kvLen kv).symm
  have hln : kvs.length = ns.length := by have := congrArg List.length hns; simpa using this
  refine Calls.call_function_entry kind_sorted plain_sorted entry_sorted (args_sorted1 _) ?_
  unfold Builtin.«sorted»
  refine wpAny_bind (m := checkCount "sorted" 1 1 _) (wpAny_pure ?_)
  refine wpAny_bind (PySem.W.kdu_collect (A := X.A.in1) (PySem.W.kdl_dict (knd := mixKind X.prog X.w) (kvs := vs) (ep := ep) lo) (I.ok.hd hc) hat (by omega) fun h' tk acc hk hacc => ?_)
  have hal : acc.toList.length = ns.length := by have h1 := hacc.1; rw [Array.length_toList]; omega
  have hI : IntsAre acc.toList ns := by
    refine ints_at hal fun i n u hn hu => ?_
    obtain ⟨k', x, hk', his⟩ := hacc.2 i u (by rw [← Array.getElem?_toList]; exact hu)
    have h1 : (kvs.map (·.1))[i]? = some (Sum.inl n) := by rw [hns, List.getElem?_map, hn]; rfl
    rw [List.getElem?_map] at h1
    obtain ⟨pr, hp, e5⟩ := Option.map_eq_some_iff.mp h1
    have e6 := kvKey kv hp hk'
    rw [← e6, e5] at his
    have his' : keyIs (Sum.inl n) u = true := his
    rcases keyIs_shape his' with ⟨n', t, e7, e8⟩ | ⟨z, t, e7, e8⟩
    · cases e7
      exact ⟨t, e8⟩
    · cases e7
  refine wpAny_bind (wpAny_newList ?_ (by omega))
  have hoL : (h'.push (seqObj "list" acc.toList.toArray 0)).get? h'.objs.size = some (seqObj "list" acc.toList.toArray 0) := Heap.get?_push_size _ rfl
  refine wpAny_bind (wpAny_holding (wpAny_call_entry slot_list_sort ⟨_, hoL, rfl⟩ entry_list_sort (list_sort_tree hoL hI (by omega) fun out ms a1 a2 a3 => ⟨_, rfl, ?_⟩) (args_list_sort _)))
  obtain ⟨e, he⟩ := sortedHeap_at (out := out) hoL
  have I2 : Inv X pins σ H { s with heap := h', toks := tk } := I.kept (t' := tk) hk
  have old : ∀ b o, h'.get? b = some o → (sortedHeap (h'.push (seqObj "list" acc.toList.toArray 0)) h'.objs.size acc.toList out).get? b = some o := fun b o h1 => by
    have hlt := Heap.lt_size h1
    rw [sortedHeap_old (Nat.ne_of_lt hlt) (by rw [size_push']; exact Nat.lt_succ_of_lt hlt), Heap.get?_push_ne _ _ _ (Nat.ne_of_lt hlt)]
    exact h1
  refine wpAny_pure ⟨_, rfl, .ref h'.objs.size, _, I2.laid (o := .lst (ms.map V.int)) (t' := tk) old (Nat.le_refl _) ?_, rfl, q _ ms (I2.hok.fresh (Nat.le_refl _)) a2 a3⟩
  exact ⟨by rw [List.length_map, a2.length_eq]; exact Nat.le_trans (Nat.le_of_lt h64) (by decide), out.toList, e, ints_vals a1, by rw [Array.toArray_toList]; exact he⟩
end
end L2

set_option Elab.async false
set_option linter.all false
set_option maxRecDepth 100000
namespace K09
open PySem L2
def top (i : Nat) : Stmt := PySem.Challenge.pw_buildhall_k09_leases_by_deeds.main.body.getD i (.Pass ⟨0, 0, 0, 0⟩)
abbrev s_is_whole : Stmt := top 25
abbrev n_is_whole : List Str := ["thing"]
theorem sc_is_whole : FnScope n_is_whole ["thing"] (defScope s_is_whole) := ⟨rfl, rfl, rfl, by decide +kernel, rfl, by decide +kernel, by decide +kernel⟩
abbrev s_is_among : Stmt := top 26
abbrev n_is_among : List Str := ["thing", "least", "most"]
theorem sc_is_among : FnScope n_is_among ["thing", "least", "most"] (defScope s_is_among) := ⟨rfl, rfl, rfl, by decide +kernel, rfl, by decide +kernel, by decide +kernel⟩
abbrev s_is_term : Stmt := top 30
abbrev n_is_term : List Str := ["thing"]
theorem sc_is_term : FnScope n_is_term ["thing"] (defScope s_is_term) := ⟨rfl, rfl, rfl, by decide +kernel, rfl, by decide +kernel, by decide +kernel⟩
abbrev s_Leases___init__ : Stmt := inClass (top 31) 0
abbrev n_Leases___init__ : List Str := ["self", "term"]
theorem sc_Leases___init__ : FnScope n_Leases___init__ ["self", "term"] (defScope s_Leases___init__) := ⟨rfl, rfl, rfl, by decide +kernel, rfl, by decide +kernel, by decide +kernel⟩
abbrev s_Leases_take : Stmt := inClass (top 31) 2
abbrev n_Leases_take : List Str := ["self", "place", "worker", "turn", "lease"]
theorem sc_Leases_take : FnScope n_Leases_take ["self", "place", "worker", "turn"] (defScope s_Leases_take) := ⟨rfl, rfl, rfl, by decide +kernel, rfl, by decide +kernel, by decide +kernel⟩
abbrev s_Leases_of : Stmt := inClass (top 31) 3
abbrev n_Leases_of : List Str := ["self", "number"]
theorem sc_Leases_of : FnScope n_Leases_of ["self", "number"] (defScope s_Leases_of) := ⟨rfl, rfl, rfl, by decide +kernel, rfl, by decide +kernel, by decide +kernel⟩
abbrev s_Leases_renew : Stmt := inClass (top 31) 4
abbrev n_Leases_renew : List Str := ["self", "number", "turn", "lease", "renewed"]
theorem sc_Leases_renew : FnScope n_Leases_renew ["self", "number", "turn"] (defScope s_Leases_renew) := ⟨rfl, rfl, rfl, by decide +kernel, rfl, by decide +kernel, by decide +kernel⟩
abbrev s_Leases_close : Stmt := inClass (top 31) 5
abbrev n_Leases_close : List Str := ["self", "number", "lease"]
theorem sc_Leases_close : FnScope n_Leases_close ["self", "number"] (defScope s_Leases_close) := ⟨rfl, rfl, rfl, by decide +kernel, rfl, by decide +kernel, by decide +kernel⟩
abbrev s_Leases_holder : Stmt := inClass (top 31) 6
abbrev n_Leases_holder : List Str := ["self", "worker", "lease"]
theorem sc_Leases_holder : FnScope n_Leases_holder ["self", "worker"] (defScope s_Leases_holder) := ⟨rfl, rfl, rfl, by decide +kernel, rfl, by decide +kernel, by decide +kernel⟩
abbrev s_Leases_rows : Stmt := inClass (top 31) 7
abbrev n_Leases_rows : List Str := ["self"]
theorem sc_Leases_rows : FnScope n_Leases_rows ["self"] (defScope s_Leases_rows) := ⟨rfl, rfl, rfl, by decide +kernel, rfl, by decide +kernel, by decide +kernel⟩
abbrev s__law_cell_at : Stmt := top 33
abbrev n__law_cell_at : List Str := ["_law_script", "_law_k"]
theorem sc__law_cell_at : FnScope n__law_cell_at ["_law_script", "_law_k"] (defScope s__law_cell_at) := ⟨rfl, rfl, rfl, by decide +kernel, rfl, by decide +kernel, by decide +kernel⟩
abbrev s__law_mixed : Stmt := top 34
abbrev n__law_mixed : List Str := ["_law_cell", "_law_k"]
theorem sc__law_mixed : FnScope n__law_mixed ["_law_cell", "_law_k"] (defScope s__law_mixed) := ⟨rfl, rfl, rfl, by decide +kernel, rfl, by decide +kernel, by decide +kernel⟩
abbrev s__law_whole : Stmt := top 35
abbrev n__law_whole : List Str := ["_law_found"]
theorem sc__law_whole : FnScope n__law_whole ["_law_found"] (defScope s__law_whole) := ⟨rfl, rfl, rfl, by decide +kernel, rfl, by decide +kernel, by decide +kernel⟩
abbrev s__law_word : Stmt := top 36
abbrev n__law_word : List Str := ["_law_e", "_law_some", "_law_found"]
theorem sc__law_word : FnScope n__law_word ["_law_e"] (defScope s__law_word) := ⟨rfl, rfl, rfl, by decide +kernel, rfl, by decide +kernel, by decide +kernel⟩
abbrev s__law_names : Stmt := top 37
abbrev n__law_names : List Str := ["_law_cell", "_law_letters", "_law_size", "_law_row", "_law_at", "_law_found", "_law_k", "_law_word_here", "_law_long"]
theorem sc__law_names : FnScope n__law_names ["_law_cell"] (defScope s__law_names) := ⟨rfl, rfl, rfl, by decide +kernel, rfl, by decide +kernel, by decide +kernel⟩
abbrev s__law_done : Stmt := top 38
abbrev n__law_done : List Str := ["_law_house", "_law_way", "_law_one", "_law_other", "_law_turn", "_law_e"]
theorem sc__law_done : FnScope n__law_done ["_law_house", "_law_way", "_law_one", "_law_other", "_law_turn"] (defScope s__law_done) := ⟨rfl, rfl, rfl, by decide +kernel, rfl, by decide +kernel, by decide +kernel⟩
abbrev s__law_due : Stmt := top 39
abbrev n__law_due : List Str := ["_law_m", "_law_way", "_law_one", "_law_other", "_law_turn", "_law_lease"]
theorem sc__law_due : FnScope n__law_due ["_law_m", "_law_way", "_law_one", "_law_other", "_law_turn"] (defScope s__law_due) := ⟨rfl, rfl, rfl, by decide +kernel, rfl, by decide +kernel, by decide +kernel⟩
abbrev s__law_alike : Stmt := top 40
abbrev n__law_alike : List Str := ["_law_found", "_law_due_here"]
theorem sc__law_alike : FnScope n__law_alike ["_law_found", "_law_due_here"] (defScope s__law_alike) := ⟨rfl, rfl, rfl, by decide +kernel, rfl, by decide +kernel, by decide +kernel⟩
abbrev s__law_deed : Stmt := top 41
abbrev n__law_deed : List Str := ["_law_house", "_law_m", "_law_cell", "_law_names_here", "_law_turn", "_law_way", "_law_one", "_law_other", "_law_found"]
theorem sc__law_deed : FnScope n__law_deed ["_law_house", "_law_m", "_law_cell", "_law_names_here", "_law_turn"] (defScope s__law_deed) := ⟨rfl, rfl, rfl, by decide +kernel, rfl, by decide +kernel, by decide +kernel⟩
abbrev s__law_asked : Stmt := top 42
abbrev n__law_asked : List Str := ["_law_house", "_law_m", "_law_way", "_law_cell", "_law_names_here", "_law_held", "_law_k", "_law_due_here", "_law_many", "_law_number", "_law_found"]
theorem sc__law_asked : FnScope n__law_asked ["_law_house", "_law_m", "_law_way", "_law_cell", "_law_names_here", "_law_held"] (defScope s__law_asked) := ⟨rfl, rfl, rfl, by decide +kernel, rfl, by decide +kernel, by decide +kernel⟩
abbrev s__law_looked : Stmt := top 43
abbrev n__law_looked : List Str := ["_law_houses", "_law_models", "_law_cell", "_law_names_here", "_law_held", "_law_k", "_law_turn"]
theorem sc__law_looked : FnScope n__law_looked ["_law_houses", "_law_models", "_law_cell", "_law_names_here", "_law_held"] (defScope s__law_looked) := ⟨rfl, rfl, rfl, by decide +kernel, rfl, by decide +kernel, by decide +kernel⟩
abbrev s_law : Stmt := top 44
abbrev n_law : List Str := ["_law_script", "_law_names_here", "_law_terms", "_law_houses", "_law_models", "_law_held", "_law_turn", "_law_many", "_law_k", "_law_cell"]
theorem sc_law : FnScope n_law ["_law_script"] (defScope s_law) := ⟨rfl, rfl, rfl, by decide +kernel, rfl, by decide +kernel, by decide +kernel⟩
end K09

set_option Elab.async false
set_option linter.all false
set_option maxRecDepth 100000
set_option maxHeartbeats 4000000
seal L2.PE L2.PT L2.PW L2.PA L2.PS L2.PSs L2.PI L2.PG L2.PGs L2.PSet L2.PTs L2.PC L2.PO L2.PK L2.OpR L2.UnR L2.CallR L2.IxR L2.SlR L2.PIp L2.PGet L2.InOp
namespace K09
open PySem L2 PyProof.Rows WM PySem.NumText
section
variable {P : Program} {w : World} {K : PySem.W.Frag} {mg : Str → Option Value} {base : Heap}
abbrev LET : Str := "abcdefghijklmnopqrstuvwxyz"
/-- a thing of a built-in kind, a text not too long -/
structure Any (K : PySem.W.Frag) (H : Hp) (x : V) : Prop where
  ty : ∃ m, TyOf K H x (.type m)
  sm : ∀ z, x = .str z → z.length ≤ 100000
theorem Any.int {K : PySem.W.Frag} {H : Hp} {i : Int} : Any K H (.int i) := ⟨⟨_, .int i⟩, fun _ e => by cases e⟩

def sp_is_whole (K : PySem.W.Frag) : Sp := fun vs H Q _ => ∃ x, vs = [x] ∧ Any K H x ∧ Q (.bl (isI x)) H
theorem ok_is_whole (D : Def K mg "is_whole" s_is_whole ["thing"]) (B : Bltn mg) : Knows P w K mg base 1 "is_whole" ["thing"] (sp_is_whole K) := by
  refine D.ok sc_is_whole (fun vs H Q E h => ?_) (fun f cdv A outer s H vs Q E hr h => ?_)
  · obtain ⟨x, rfl, _⟩ := h
    rfl
  · obtain ⟨x, rfl, ⟨⟨m, ty⟩, _⟩, q⟩ := h
    refine ⟨_, by exact (pss_one (ps_ret (pe_and (pe_isi B.isi B.int boot_int (pv 0)) (pe_one (pe_not (pe_isi B.isi B.bool boot_bool (pv 0))))))), ?_⟩
    refine ⟨_, rfl, _, _, _, rfl, ty, isiI ty, _, rfl, ?_⟩
    refine ite2 (fun hx => ?_) (fun hx => ?_)
    · refine ⟨_, rfl, _, _, _, rfl, ty, isiB ty, _, rfl, ?_⟩
      have e : isI x = !isBl x := by revert hx; cases x <;> simp [isI, isIB, isBl]
      rw [← e]
      exact q
    · have e : isI x = false := by revert hx; cases x <;> simp [isI, isIB]
      rw [e] at q
      exact q

def amongV : V → Int → Int → Bool
  | .int i, lo, hi => decide (lo ≤ i) && decide (i ≤ hi)
  | _, _, _ => false
def sp_is_among (K : PySem.W.Frag) : Sp := fun vs H Q _ => ∃ x lo hi, vs = [x, .int lo, .int hi] ∧ Any K H x ∧ Q (.bl (amongV x lo hi)) H
theorem ok_is_among (D : Def K mg "is_among" s_is_among ["thing", "least", "most"]) (kw : Knows P w K mg base 1 "is_whole" ["thing"] (sp_is_whole K)) : Knows P w K mg base 2 "is_among" ["thing", "least", "most"] (sp_is_among K) := by
  refine D.ok sc_is_among (fun vs H Q E h => ?_) (fun f cdv A outer s H vs Q E hr h => ?_)
  · obtain ⟨x, lo, hi, rfl, _⟩ := h
    rfl
  · obtain ⟨x, lo, hi, rfl, an, q⟩ := h
    refine ⟨_, by exact (pss_one (ps_ret (pe_and (pe_callN kw hr (pa_cons (pv 0) pa_nil)) (pe_one (pe_chain op_le op_le (pv 1) (pv 0) (pv 2)))))), ?_⟩
    refine ⟨_, rfl, x, rfl, an, _, rfl, ?_⟩
    cases x with
    | int i =>
      refine iteT ?_
      refine ⟨_, rfl, _, rfl, _, _, rfl, rfl, _, rfl, ?_⟩
      refine ite2 (fun h1 => ?_) (fun h1 => ?_)
      · refine ⟨_, rfl, _, _, rfl, rfl, ?_⟩
        have e : amongV (.int i) lo hi = decide (i ≤ hi) := by
          show (decide (lo ≤ i) && _) = _
          rw [h1, Bool.true_and]
        rw [e] at q
        exact q
      · have e : amongV (.int i) lo hi = false := by
          show (decide (lo ≤ i) && _) = _
          have : decide (lo ≤ i) = false := by simpa using h1
          rw [this, Bool.false_and]
        rw [e] at q
        exact q
    | _ => exact iteF q

end
end K09

set_option Elab.async false
set_option linter.all false
set_option maxRecDepth 100000
set_option maxHeartbeats 4000000
set_option pp.maxSteps 600
set_option pp.deepTerms false
local macro_rules | `(tactic| walk_at "m") => `(tactic| first | decide | (show (0 : Int) < _; decide) | (show L2.CDiv _ _; exact ⟨by decide, by decide⟩) | omega)
namespace K09
open PySem L2 PyProof.Rows
theorem same_of {H : Hp} {p : Addr} {o : HO} (h : H p = none) : Same H (upd H p o) := fun b u e => by rw [upd_ne (ne_of_none e h)]; exact e
theorem boot_VE : bootBuiltins "ValueError" = some (.type "ValueError") := by kernel_rfl
def words : List Str := ["term", "busy", "gone", "alarm", "name", "number", "needs", "plan", "twice", "job", "ring", "line", "book", "shot", "event", "step", "state", "turn", "builders"]
def word (i : Nat) : Str := words.getD i ""
/-- the classes of refusals, and what isinstance tells of one -/
structure EX (K : PySem.W.Frag) (mg : Str → Option Value) (D : Nat → Addr) (R : Nat → Prop) : Prop where
  c0 : ECls0 K
  ec : ∀ r, R r → ECls K (D r)
  kit : ∀ r i, R r → i < 19 → PySem.W.kitOne K (.ref (D r)) (.ref (D i)) = some (decide (i = r))
  ve : ∀ r, R r → PySem.W.kitOne K (.ref (D r)) (.type "ValueError") = some true
  noVE : mg "ValueError" = none
  g0 : mg "BadTerm" = some (.ref (D 0))
  g1 : mg "Busy" = some (.ref (D 1))
  g2 : mg "Gone" = some (.ref (D 2))
  g3 : mg "NoAlarm" = some (.ref (D 3))
  g4 : mg "BadName" = some (.ref (D 4))
  g5 : mg "BadNumber" = some (.ref (D 5))
  g6 : mg "BadNeeds" = some (.ref (D 6))
  g7 : mg "BadPlan" = some (.ref (D 7))
  g8 : mg "Twice" = some (.ref (D 8))
  g9 : mg "NoJob" = some (.ref (D 9))
  g10 : mg "Ring" = some (.ref (D 10))
  g11 : mg "BadLine" = some (.ref (D 11))
  g12 : mg "BadBook" = some (.ref (D 12))
  g13 : mg "BadShot" = some (.ref (D 13))
  g14 : mg "BadEvent" = some (.ref (D 14))
  g15 : mg "BadStep" = some (.ref (D 15))
  g16 : mg "BadState" = some (.ref (D 16))
  g17 : mg "BadTurn" = some (.ref (D 17))
  g18 : mg "BadBuilders" = some (.ref (D 18))
def pr (r i : Nat) : List V := [.str (word i), .bl (decide (i = r))]
structure PairsAt (r : Nat) (H : Hp) (ts : List Addr) : Prop where
  at_ : ∀ (i : Nat) (T : Addr), ts[i]? = some T → H T = some (.tup (pr r i))
theorem PairsAt.same {r : Nat} {H H' : Hp} {ts : List Addr} (h : PairsAt r H ts) (s : Same H H') : PairsAt r H' ts := ⟨fun i T e => s _ _ (h.at_ i T e)⟩
theorem PairsAt.snoc {r : Nat} {H : Hp} {ts : List Addr} {T : Addr} (h : PairsAt r H ts) (e : H T = some (.tup (pr r ts.length))) : PairsAt r H (ts ++ [T]) := ⟨fun i U hi => by
  by_cases hl : i < ts.length
  · rw [List.getElem?_append_left hl] at hi
    exact h.at_ i U hi
  · have hlt := (List.getElem?_eq_some_iff.mp hi).1
    rw [List.length_append] at hlt
    have e2 : i = ts.length := by simp at hlt; omega
    subst e2
    simp at hi
    subst hi
    exact e⟩
/-- what of the first i pairs is so -/
def fnd (r i : Nat) : List V := ((List.range i).filter fun j => decide (j = r)).map fun j => .str (word j)
theorem fnd_succ (r i : Nat) : fnd r (i + 1) = if decide (i = r) = true then fnd r i ++ [.str (word i)] else fnd r i := by
  unfold fnd
  rw [List.range_succ, List.filter_append, List.map_append]
  by_cases h : i = r
  · rw [if_pos (decide_eq_true h)]
    simp [h]
  · rw [if_neg (by simp [h])]
    simp [h]
theorem fnd_len (r i : Nat) : (fnd r i).length ≤ i := by
  unfold fnd
  rw [List.length_map]
  exact Nat.le_trans (List.length_filter_le _ _) (by simp)
theorem fnd_one : ∀ r : Fin 19, fnd r.val 19 = [.str (word r.val)] := by decide +kernel
section
variable {P : Program} {w : World} {K : PySem.W.Frag} {mg : Str → Option Value} {base : Heap} {D : Nat → Addr}
def spWord (D : Nat → Addr) (R : Nat → Prop) : Sp := fun vs H Q _ => ∃ (a : Addr) (r : Nat), vs = [.ref a] ∧ r < 19 ∧ R r ∧ H a = some (ExcO a (D r)) ∧ ∀ H', Same H H' → Q (.str (word r)) H'
theorem ok_word (Df : Def K mg "_law_word" s__law_word ["_law_e"]) (B : Bltn mg) {R : Nat → Prop} (X : EX K mg D R) : KnowsQ P w K mg base 1 "_law_word" ["_law_e"] (spWord D R) := by
  refine Df.okQ sc__law_word (fun vs H Q E h => ?_) (fun f cdv A outer s H vs Q E hr hq h => ?_)
  · obtain ⟨a, r, rfl, _⟩ := h
    rfl
  · obtain ⟨a, r, rfl, hr19, hR, ea, q⟩ := h
    have hu := hr.units0
    have ec := X.ec r hR
    refine ⟨_, by exact (pss_cons (ps_set (i := 1) sc__law_word.nd rfl (Or.inl rfl) (pe_lst (pa_c (pe_tup (pa_c pe_str (pa_c (pe_bcall (call_isiE (D := .ref (D 0)) (vD := .ref (D 0)) (fun u h => h) X.c0) rfl B.isi boot_isinstance (pa_c (pv 0) (pa_c (pe_glob (v := .ref (D 0)) rfl X.g0 rfl) pa_nil))) pa_nil))) (pa_c (pe_tup (pa_c pe_str (pa_c (pe_bcall (call_isiE (D := .ref (D 1)) (vD := .ref (D 1)) (fun u h => h) X.c0) rfl B.isi boot_isinstance (pa_c (pv 0) (pa_c (pe_glob (v := .ref (D 1)) rfl X.g1 rfl) pa_nil))) pa_nil))) (pa_c (pe_tup (pa_c pe_str (pa_c (pe_bcall (call_isiE (D := .ref (D 2)) (vD := .ref (D 2)) (fun u h => h) X.c0) rfl B.isi boot_isinstance (pa_c (pv 0) (pa_c (pe_glob (v := .ref (D 2)) rfl X.g2 rfl) pa_nil))) pa_nil))) pa_nil)))))
      (pss_cons (ps_set (i := 1) sc__law_word.nd rfl (Or.inl rfl) (pe_op op_cat (pv 1) (pe_lst (pa_c (pe_tup (pa_c pe_str (pa_c (pe_bcall (call_isiE (D := .ref (D 3)) (vD := .ref (D 3)) (fun u h => h) X.c0) rfl B.isi boot_isinstance (pa_c (pv 0) (pa_c (pe_glob (v := .ref (D 3)) rfl X.g3 rfl) pa_nil))) pa_nil))) (pa_c (pe_tup (pa_c pe_str (pa_c (pe_bcall (call_isiE (D := .ref (D 4)) (vD := .ref (D 4)) (fun u h => h) X.c0) rfl B.isi boot_isinstance (pa_c (pv 0) (pa_c (pe_glob (v := .ref (D 4)) rfl X.g4 rfl) pa_nil))) pa_nil))) pa_nil)))))
      (pss_cons (ps_set (i := 1) sc__law_word.nd rfl (Or.inl rfl) (pe_op op_cat (pv 1) (pe_lst (pa_c (pe_tup (pa_c pe_str (pa_c (pe_bcall (call_isiE (D := .ref (D 5)) (vD := .ref (D 5)) (fun u h => h) X.c0) rfl B.isi boot_isinstance (pa_c (pv 0) (pa_c (pe_glob (v := .ref (D 5)) rfl X.g5 rfl) pa_nil))) pa_nil))) (pa_c (pe_tup (pa_c pe_str (pa_c (pe_bcall (call_isiE (D := .ref (D 6)) (vD := .ref (D 6)) (fun u h => h) X.c0) rfl B.isi boot_isinstance (pa_c (pv 0) (pa_c (pe_glob (v := .ref (D 6)) rfl X.g6 rfl) pa_nil))) pa_nil))) pa_nil)))))
      (pss_cons (ps_set (i := 1) sc__law_word.nd rfl (Or.inl rfl) (pe_op op_cat (pv 1) (pe_lst (pa_c (pe_tup (pa_c pe_str (pa_c (pe_bcall (call_isiE (D := .ref (D 7)) (vD := .ref (D 7)) (fun u h => h) X.c0) rfl B.isi boot_isinstance (pa_c (pv 0) (pa_c (pe_glob (v := .ref (D 7)) rfl X.g7 rfl) pa_nil))) pa_nil))) (pa_c (pe_tup (pa_c pe_str (pa_c (pe_bcall (call_isiE (D := .ref (D 8)) (vD := .ref (D 8)) (fun u h => h) X.c0) rfl B.isi boot_isinstance (pa_c (pv 0) (pa_c (pe_glob (v := .ref (D 8)) rfl X.g8 rfl) pa_nil))) pa_nil))) (pa_c (pe_tup (pa_c pe_str (pa_c (pe_bcall (call_isiE (D := .ref (D 9)) (vD := .ref (D 9)) (fun u h => h) X.c0) rfl B.isi boot_isinstance (pa_c (pv 0) (pa_c (pe_glob (v := .ref (D 9)) rfl X.g9 rfl) pa_nil))) pa_nil))) pa_nil))))))
      (pss_cons (ps_set (i := 1) sc__law_word.nd rfl (Or.inl rfl) (pe_op op_cat (pv 1) (pe_lst (pa_c (pe_tup (pa_c pe_str (pa_c (pe_bcall (call_isiE (D := .ref (D 10)) (vD := .ref (D 10)) (fun u h => h) X.c0) rfl B.isi boot_isinstance (pa_c (pv 0) (pa_c (pe_glob (v := .ref (D 10)) rfl X.g10 rfl) pa_nil))) pa_nil))) (pa_c (pe_tup (pa_c pe_str (pa_c (pe_bcall (call_isiE (D := .ref (D 11)) (vD := .ref (D 11)) (fun u h => h) X.c0) rfl B.isi boot_isinstance (pa_c (pv 0) (pa_c (pe_glob (v := .ref (D 11)) rfl X.g11 rfl) pa_nil))) pa_nil))) (pa_c (pe_tup (pa_c pe_str (pa_c (pe_bcall (call_isiE (D := .ref (D 12)) (vD := .ref (D 12)) (fun u h => h) X.c0) rfl B.isi boot_isinstance (pa_c (pv 0) (pa_c (pe_glob (v := .ref (D 12)) rfl X.g12 rfl) pa_nil))) pa_nil))) pa_nil))))))
      (pss_cons (ps_set (i := 1) sc__law_word.nd rfl (Or.inl rfl) (pe_op op_cat (pv 1) (pe_lst (pa_c (pe_tup (pa_c pe_str (pa_c (pe_bcall (call_isiE (D := .ref (D 13)) (vD := .ref (D 13)) (fun u h => h) X.c0) rfl B.isi boot_isinstance (pa_c (pv 0) (pa_c (pe_glob (v := .ref (D 13)) rfl X.g13 rfl) pa_nil))) pa_nil))) (pa_c (pe_tup (pa_c pe_str (pa_c (pe_bcall (call_isiE (D := .ref (D 14)) (vD := .ref (D 14)) (fun u h => h) X.c0) rfl B.isi boot_isinstance (pa_c (pv 0) (pa_c (pe_glob (v := .ref (D 14)) rfl X.g14 rfl) pa_nil))) pa_nil))) pa_nil)))))
      (pss_cons (ps_set (i := 1) sc__law_word.nd rfl (Or.inl rfl) (pe_op op_cat (pv 1) (pe_lst (pa_c (pe_tup (pa_c pe_str (pa_c (pe_bcall (call_isiE (D := .ref (D 15)) (vD := .ref (D 15)) (fun u h => h) X.c0) rfl B.isi boot_isinstance (pa_c (pv 0) (pa_c (pe_glob (v := .ref (D 15)) rfl X.g15 rfl) pa_nil))) pa_nil))) (pa_c (pe_tup (pa_c pe_str (pa_c (pe_bcall (call_isiE (D := .ref (D 16)) (vD := .ref (D 16)) (fun u h => h) X.c0) rfl B.isi boot_isinstance (pa_c (pv 0) (pa_c (pe_glob (v := .ref (D 16)) rfl X.g16 rfl) pa_nil))) pa_nil))) pa_nil)))))
      (pss_cons (ps_set (i := 1) sc__law_word.nd rfl (Or.inl rfl) (pe_op op_cat (pv 1) (pe_lst (pa_c (pe_tup (pa_c pe_str (pa_c (pe_bcall (call_isiE (D := .ref (D 17)) (vD := .ref (D 17)) (fun u h => h) X.c0) rfl B.isi boot_isinstance (pa_c (pv 0) (pa_c (pe_glob (v := .ref (D 17)) rfl X.g17 rfl) pa_nil))) pa_nil))) (pa_c (pe_tup (pa_c pe_str (pa_c (pe_bcall (call_isiE (D := .ref (D 18)) (vD := .ref (D 18)) (fun u h => h) X.c0) rfl B.isi boot_isinstance (pa_c (pv 0) (pa_c (pe_glob (v := .ref (D 18)) rfl X.g18 rfl) pa_nil))) pa_nil))) pa_nil)))))
      (pss_cons (ps_setC2Q (i := 2) [] ["_law_word_here", "_law_good"] sc__law_word.nd rfl (Or.inl rfl) (pi_listQ (pv 1)) (fun _ _ _ _ => pts_one (pt_val (pv 1))) (fun _ _ _ _ => (pv 0)))
      (pss_one (ps_ret (pe_ifExp (PW.pt (pw_and (pt_cmpR op_eq (pe_bcall call_len_seq rfl B.len PySem.boot_len (pa_c (pv 2) pa_nil)) pe_int (nomark _)) (pw_and1 (pt_val (pe_bcall (call_isiE (D := .type "ValueError") (vD := .ty "ValueError") (fun u h => h) X.c0) rfl B.isi boot_isinstance (pa_c (pv 0) (pa_c (pe_bltn (v := .ty "ValueError") rfl X.noVE boot_VE rfl (by decide) (by decide)) pa_nil))))))) (pe_ix ix_list (pv 2) pe_int (fun _ _ => rfl)) pe_str)))))))))))), ?_⟩
    have sH : Same H H := Same.refl H
    have eaH := ea
    have pH : PairsAt r H [] := ⟨fun i T e => by simp at e⟩
    refine seq_use (fun v H' => ∃ (l : Addr) (ts : List Addr), v = .ref l ∧ H' l = some (.lst (ts.map V.ref)) ∧ ts.length = 3 ∧ PairsAt r H' ts ∧ Same H H' ∧ H l = none) (fun Q' kk => ?_) ?_
    · skip
      refine ⟨_, rfl, a, _, _, rfl, eaH, ec, X.kit r 0 hR (by decide), by show 2 ≤ sizeLine; decide, fun T0 h0 => ?_⟩
      have z0 : Same H (upd H T0 (.tup [.str "term", .bl (decide (0 = r))])) := same_of h0
      have y0 : (upd H T0 (.tup [.str "term", .bl (decide (0 = r))])) T0 = some (.tup (pr r 0)) := upd_same
      generalize upd H T0 (.tup [.str "term", .bl (decide (0 = r))]) = L0 at z0 y0
      have sL0 := sH.trans z0
      have eaL0 := z0 _ _ eaH
      have pL0 := (pH.same z0).snoc (T := T0) (by exact y0)
      refine ⟨_, rfl, a, _, _, rfl, eaL0, ec, X.kit r 1 hR (by decide), by show 2 ≤ sizeLine; decide, fun T1 h1 => ?_⟩
      have z1 : Same L0 (upd L0 T1 (.tup [.str "busy", .bl (decide (1 = r))])) := same_of h1
      have y1 : (upd L0 T1 (.tup [.str "busy", .bl (decide (1 = r))])) T1 = some (.tup (pr r 1)) := upd_same
      generalize upd L0 T1 (.tup [.str "busy", .bl (decide (1 = r))]) = L1 at z1 y1
      have sL1 := sL0.trans z1
      have eaL1 := z1 _ _ eaL0
      have pL1 := (pL0.same z1).snoc (T := T1) (by exact y1)
      refine ⟨_, rfl, a, _, _, rfl, eaL1, ec, X.kit r 2 hR (by decide), by show 2 ≤ sizeLine; decide, fun T2 h2 => ?_⟩
      have z2 : Same L1 (upd L1 T2 (.tup [.str "gone", .bl (decide (2 = r))])) := same_of h2
      have y2 : (upd L1 T2 (.tup [.str "gone", .bl (decide (2 = r))])) T2 = some (.tup (pr r 2)) := upd_same
      generalize upd L1 T2 (.tup [.str "gone", .bl (decide (2 = r))]) = L2 at z2 y2
      have sL2 := sL1.trans z2
      have eaL2 := z2 _ _ eaL1
      have pL2 := (pL1.same z2).snoc (T := T2) (by exact y2)
      refine ⟨by show 3 ≤ sizeLine; decide, fun lb hlb => ?_⟩
      exact kk _ _ ⟨lb, [] ++ [T0] ++ [T1] ++ [T2], rfl, upd_same, rfl, pL2.same (same_of hlb), sL2.trans (same_of hlb), sL2.free hlb⟩
    rintro _ G1 ⟨l1, ts1, rfl, lG1, n1, pG1, sG1, new1⟩
    have eaG1 := sG1 _ _ ea
    refine seq_use (fun v H' => ∃ (l : Addr) (ts : List Addr), v = .ref l ∧ H' l = some (.lst (ts.map V.ref)) ∧ ts.length = 5 ∧ PairsAt r H' ts ∧ Same H H' ∧ H l = none) (fun Q' kk => ?_) ?_
    · refine ⟨_, rfl, ?_⟩
      refine ⟨_, rfl, a, _, _, rfl, eaG1, ec, X.kit r 3 hR (by decide), by show 2 ≤ sizeLine; decide, fun T3 h3 => ?_⟩
      have z3 : Same G1 (upd G1 T3 (.tup [.str "alarm", .bl (decide (3 = r))])) := same_of h3
      have y3 : (upd G1 T3 (.tup [.str "alarm", .bl (decide (3 = r))])) T3 = some (.tup (pr r 3)) := upd_same
      generalize upd G1 T3 (.tup [.str "alarm", .bl (decide (3 = r))]) = L3 at z3 y3
      have sL3 := sG1.trans z3
      have eaL3 := z3 _ _ eaG1
      have pL3 := (pG1.same z3).snoc (T := T3) (by rw [show (ts1).length = 3 from by simp [n1]]; exact y3)
      have lL3 := z3 _ _ lG1
      refine ⟨_, rfl, a, _, _, rfl, eaL3, ec, X.kit r 4 hR (by decide), by show 2 ≤ sizeLine; decide, fun T4 h4 => ?_⟩
      have z4 : Same L3 (upd L3 T4 (.tup [.str "name", .bl (decide (4 = r))])) := same_of h4
      have y4 : (upd L3 T4 (.tup [.str "name", .bl (decide (4 = r))])) T4 = some (.tup (pr r 4)) := upd_same
      generalize upd L3 T4 (.tup [.str "name", .bl (decide (4 = r))]) = L4 at z4 y4
      have sL4 := sL3.trans z4
      have eaL4 := z4 _ _ eaL3
      have pL4 := (pL3.same z4).snoc (T := T4) (by rw [show (ts1 ++ [T3]).length = 4 from by simp [n1]]; exact y4)
      have lL4 := z4 _ _ lL3
      refine ⟨by show 2 ≤ sizeLine; decide, fun lb hlb => ?_⟩
      have zb : Same L4 (upd L4 lb (.lst [.ref T3, .ref T4])) := same_of hlb
      refine ⟨l1, lb, _, _, rfl, rfl, zb _ _ lL4, upd_same, ?_, fun lc hlc => ?_⟩
      · rw [List.length_map, n1]
        show 5 ≤ sizeLine
        decide
      · refine kk _ _ ⟨lc, ts1 ++ [T3] ++ [T4], rfl, ?_, by simp [n1], (pL4.same zb).same (same_of hlc), (sL4.trans zb).trans (same_of hlc), (sL4.trans zb).free hlc⟩
        rw [upd_same]
        simp
    rintro _ G2 ⟨l2, ts2, rfl, lG2, n2, pG2, sG2, new2⟩
    have eaG2 := sG2 _ _ ea
    refine seq_use (fun v H' => ∃ (l : Addr) (ts : List Addr), v = .ref l ∧ H' l = some (.lst (ts.map V.ref)) ∧ ts.length = 7 ∧ PairsAt r H' ts ∧ Same H H' ∧ H l = none) (fun Q' kk => ?_) ?_
    · refine ⟨_, rfl, ?_⟩
      refine ⟨_, rfl, a, _, _, rfl, eaG2, ec, X.kit r 5 hR (by decide), by show 2 ≤ sizeLine; decide, fun T5 h5 => ?_⟩
      have z5 : Same G2 (upd G2 T5 (.tup [.str "number", .bl (decide (5 = r))])) := same_of h5
      have y5 : (upd G2 T5 (.tup [.str "number", .bl (decide (5 = r))])) T5 = some (.tup (pr r 5)) := upd_same
      generalize upd G2 T5 (.tup [.str "number", .bl (decide (5 = r))]) = L5 at z5 y5
      have sL5 := sG2.trans z5
      have eaL5 := z5 _ _ eaG2
      have pL5 := (pG2.same z5).snoc (T := T5) (by rw [show (ts2).length = 5 from by simp [n2]]; exact y5)
      have lL5 := z5 _ _ lG2
      refine ⟨_, rfl, a, _, _, rfl, eaL5, ec, X.kit r 6 hR (by decide), by show 2 ≤ sizeLine; decide, fun T6 h6 => ?_⟩
      have z6 : Same L5 (upd L5 T6 (.tup [.str "needs", .bl (decide (6 = r))])) := same_of h6
      have y6 : (upd L5 T6 (.tup [.str "needs", .bl (decide (6 = r))])) T6 = some (.tup (pr r 6)) := upd_same
      generalize upd L5 T6 (.tup [.str "needs", .bl (decide (6 = r))]) = L6 at z6 y6
      have sL6 := sL5.trans z6
      have eaL6 := z6 _ _ eaL5
      have pL6 := (pL5.same z6).snoc (T := T6) (by rw [show (ts2 ++ [T5]).length = 6 from by simp [n2]]; exact y6)
      have lL6 := z6 _ _ lL5
      refine ⟨by show 2 ≤ sizeLine; decide, fun lb hlb => ?_⟩
      have zb : Same L6 (upd L6 lb (.lst [.ref T5, .ref T6])) := same_of hlb
      refine ⟨l2, lb, _, _, rfl, rfl, zb _ _ lL6, upd_same, ?_, fun lc hlc => ?_⟩
      · rw [List.length_map, n2]
        show 7 ≤ sizeLine
        decide
      · refine kk _ _ ⟨lc, ts2 ++ [T5] ++ [T6], rfl, ?_, by simp [n2], (pL6.same zb).same (same_of hlc), (sL6.trans zb).trans (same_of hlc), (sL6.trans zb).free hlc⟩
        rw [upd_same]
        simp
    rintro _ G3 ⟨l3, ts3, rfl, lG3, n3, pG3, sG3, new3⟩
    have eaG3 := sG3 _ _ ea
    refine seq_use (fun v H' => ∃ (l : Addr) (ts : List Addr), v = .ref l ∧ H' l = some (.lst (ts.map V.ref)) ∧ ts.length = 10 ∧ PairsAt r H' ts ∧ Same H H' ∧ H l = none) (fun Q' kk => ?_) ?_
    · refine ⟨_, rfl, ?_⟩
      refine ⟨_, rfl, a, _, _, rfl, eaG3, ec, X.kit r 7 hR (by decide), by show 2 ≤ sizeLine; decide, fun T7 h7 => ?_⟩
      have z7 : Same G3 (upd G3 T7 (.tup [.str "plan", .bl (decide (7 = r))])) := same_of h7
      have y7 : (upd G3 T7 (.tup [.str "plan", .bl (decide (7 = r))])) T7 = some (.tup (pr r 7)) := upd_same
      generalize upd G3 T7 (.tup [.str "plan", .bl (decide (7 = r))]) = L7 at z7 y7
      have sL7 := sG3.trans z7
      have eaL7 := z7 _ _ eaG3
      have pL7 := (pG3.same z7).snoc (T := T7) (by rw [show (ts3).length = 7 from by simp [n3]]; exact y7)
      have lL7 := z7 _ _ lG3
      refine ⟨_, rfl, a, _, _, rfl, eaL7, ec, X.kit r 8 hR (by decide), by show 2 ≤ sizeLine; decide, fun T8 h8 => ?_⟩
      have z8 : Same L7 (upd L7 T8 (.tup [.str "twice", .bl (decide (8 = r))])) := same_of h8
      have y8 : (upd L7 T8 (.tup [.str "twice", .bl (decide (8 = r))])) T8 = some (.tup (pr r 8)) := upd_same
      generalize upd L7 T8 (.tup [.str "twice", .bl (decide (8 = r))]) = L8 at z8 y8
      have sL8 := sL7.trans z8
      have eaL8 := z8 _ _ eaL7
      have pL8 := (pL7.same z8).snoc (T := T8) (by rw [show (ts3 ++ [T7]).length = 8 from by simp [n3]]; exact y8)
      have lL8 := z8 _ _ lL7
      refine ⟨_, rfl, a, _, _, rfl, eaL8, ec, X.kit r 9 hR (by decide), by show 2 ≤ sizeLine; decide, fun T9 h9 => ?_⟩
      have z9 : Same L8 (upd L8 T9 (.tup [.str "job", .bl (decide (9 = r))])) := same_of h9
      have y9 : (upd L8 T9 (.tup [.str "job", .bl (decide (9 = r))])) T9 = some (.tup (pr r 9)) := upd_same
      generalize upd L8 T9 (.tup [.str "job", .bl (decide (9 = r))]) = L9 at z9 y9
      have sL9 := sL8.trans z9
      have eaL9 := z9 _ _ eaL8
      have pL9 := (pL8.same z9).snoc (T := T9) (by rw [show (ts3 ++ [T7] ++ [T8]).length = 9 from by simp [n3]]; exact y9)
      have lL9 := z9 _ _ lL8
      refine ⟨by show 3 ≤ sizeLine; decide, fun lb hlb => ?_⟩
      have zb : Same L9 (upd L9 lb (.lst [.ref T7, .ref T8, .ref T9])) := same_of hlb
      refine ⟨l3, lb, _, _, rfl, rfl, zb _ _ lL9, upd_same, ?_, fun lc hlc => ?_⟩
      · rw [List.length_map, n3]
        show 10 ≤ sizeLine
        decide
      · refine kk _ _ ⟨lc, ts3 ++ [T7] ++ [T8] ++ [T9], rfl, ?_, by simp [n3], (pL9.same zb).same (same_of hlc), (sL9.trans zb).trans (same_of hlc), (sL9.trans zb).free hlc⟩
        rw [upd_same]
        simp
    rintro _ G4 ⟨l4, ts4, rfl, lG4, n4, pG4, sG4, new4⟩
    have eaG4 := sG4 _ _ ea
    refine seq_use (fun v H' => ∃ (l : Addr) (ts : List Addr), v = .ref l ∧ H' l = some (.lst (ts.map V.ref)) ∧ ts.length = 13 ∧ PairsAt r H' ts ∧ Same H H' ∧ H l = none) (fun Q' kk => ?_) ?_
    · refine ⟨_, rfl, ?_⟩
      refine ⟨_, rfl, a, _, _, rfl, eaG4, ec, X.kit r 10 hR (by decide), by show 2 ≤ sizeLine; decide, fun T10 h10 => ?_⟩
      have z10 : Same G4 (upd G4 T10 (.tup [.str "ring", .bl (decide (10 = r))])) := same_of h10
      have y10 : (upd G4 T10 (.tup [.str "ring", .bl (decide (10 = r))])) T10 = some (.tup (pr r 10)) := upd_same
      generalize upd G4 T10 (.tup [.str "ring", .bl (decide (10 = r))]) = L10 at z10 y10
      have sL10 := sG4.trans z10
      have eaL10 := z10 _ _ eaG4
      have pL10 := (pG4.same z10).snoc (T := T10) (by rw [show (ts4).length = 10 from by simp [n4]]; exact y10)
      have lL10 := z10 _ _ lG4
      refine ⟨_, rfl, a, _, _, rfl, eaL10, ec, X.kit r 11 hR (by decide), by show 2 ≤ sizeLine; decide, fun T11 h11 => ?_⟩
      have z11 : Same L10 (upd L10 T11 (.tup [.str "line", .bl (decide (11 = r))])) := same_of h11
      have y11 : (upd L10 T11 (.tup [.str "line", .bl (decide (11 = r))])) T11 = some (.tup (pr r 11)) := upd_same
      generalize upd L10 T11 (.tup [.str "line", .bl (decide (11 = r))]) = L11 at z11 y11
      have sL11 := sL10.trans z11
      have eaL11 := z11 _ _ eaL10
      have pL11 := (pL10.same z11).snoc (T := T11) (by rw [show (ts4 ++ [T10]).length = 11 from by simp [n4]]; exact y11)
      have lL11 := z11 _ _ lL10
      refine ⟨_, rfl, a, _, _, rfl, eaL11, ec, X.kit r 12 hR (by decide), by show 2 ≤ sizeLine; decide, fun T12 h12 => ?_⟩
      have z12 : Same L11 (upd L11 T12 (.tup [.str "book", .bl (decide (12 = r))])) := same_of h12
      have y12 : (upd L11 T12 (.tup [.str "book", .bl (decide (12 = r))])) T12 = some (.tup (pr r 12)) := upd_same
      generalize upd L11 T12 (.tup [.str "book", .bl (decide (12 = r))]) = L12 at z12 y12
      have sL12 := sL11.trans z12
      have eaL12 := z12 _ _ eaL11
      have pL12 := (pL11.same z12).snoc (T := T12) (by rw [show (ts4 ++ [T10] ++ [T11]).length = 12 from by simp [n4]]; exact y12)
      have lL12 := z12 _ _ lL11
      refine ⟨by show 3 ≤ sizeLine; decide, fun lb hlb => ?_⟩
      have zb : Same L12 (upd L12 lb (.lst [.ref T10, .ref T11, .ref T12])) := same_of hlb
      refine ⟨l4, lb, _, _, rfl, rfl, zb _ _ lL12, upd_same, ?_, fun lc hlc => ?_⟩
      · rw [List.length_map, n4]
        show 13 ≤ sizeLine
        decide
      · refine kk _ _ ⟨lc, ts4 ++ [T10] ++ [T11] ++ [T12], rfl, ?_, by simp [n4], (pL12.same zb).same (same_of hlc), (sL12.trans zb).trans (same_of hlc), (sL12.trans zb).free hlc⟩
        rw [upd_same]
        simp
    rintro _ G5 ⟨l5, ts5, rfl, lG5, n5, pG5, sG5, new5⟩
    have eaG5 := sG5 _ _ ea
    refine seq_use (fun v H' => ∃ (l : Addr) (ts : List Addr), v = .ref l ∧ H' l = some (.lst (ts.map V.ref)) ∧ ts.length = 15 ∧ PairsAt r H' ts ∧ Same H H' ∧ H l = none) (fun Q' kk => ?_) ?_
    · refine ⟨_, rfl, ?_⟩
      refine ⟨_, rfl, a, _, _, rfl, eaG5, ec, X.kit r 13 hR (by decide), by show 2 ≤ sizeLine; decide, fun T13 h13 => ?_⟩
      have z13 : Same G5 (upd G5 T13 (.tup [.str "shot", .bl (decide (13 = r))])) := same_of h13
      have y13 : (upd G5 T13 (.tup [.str "shot", .bl (decide (13 = r))])) T13 = some (.tup (pr r 13)) := upd_same
      generalize upd G5 T13 (.tup [.str "shot", .bl (decide (13 = r))]) = L13 at z13 y13
      have sL13 := sG5.trans z13
      have eaL13 := z13 _ _ eaG5
      have pL13 := (pG5.same z13).snoc (T := T13) (by rw [show (ts5).length = 13 from by simp [n5]]; exact y13)
      have lL13 := z13 _ _ lG5
      refine ⟨_, rfl, a, _, _, rfl, eaL13, ec, X.kit r 14 hR (by decide), by show 2 ≤ sizeLine; decide, fun T14 h14 => ?_⟩
      have z14 : Same L13 (upd L13 T14 (.tup [.str "event", .bl (decide (14 = r))])) := same_of h14
      have y14 : (upd L13 T14 (.tup [.str "event", .bl (decide (14 = r))])) T14 = some (.tup (pr r 14)) := upd_same
      generalize upd L13 T14 (.tup [.str "event", .bl (decide (14 = r))]) = L14 at z14 y14
      have sL14 := sL13.trans z14
      have eaL14 := z14 _ _ eaL13
      have pL14 := (pL13.same z14).snoc (T := T14) (by rw [show (ts5 ++ [T13]).length = 14 from by simp [n5]]; exact y14)
      have lL14 := z14 _ _ lL13
      refine ⟨by show 2 ≤ sizeLine; decide, fun lb hlb => ?_⟩
      have zb : Same L14 (upd L14 lb (.lst [.ref T13, .ref T14])) := same_of hlb
      refine ⟨l5, lb, _, _, rfl, rfl, zb _ _ lL14, upd_same, ?_, fun lc hlc => ?_⟩
      · rw [List.length_map, n5]
        show 15 ≤ sizeLine
        decide
      · refine kk _ _ ⟨lc, ts5 ++ [T13] ++ [T14], rfl, ?_, by simp [n5], (pL14.same zb).same (same_of hlc), (sL14.trans zb).trans (same_of hlc), (sL14.trans zb).free hlc⟩
        rw [upd_same]
        simp
    rintro _ G6 ⟨l6, ts6, rfl, lG6, n6, pG6, sG6, new6⟩
    have eaG6 := sG6 _ _ ea
    refine seq_use (fun v H' => ∃ (l : Addr) (ts : List Addr), v = .ref l ∧ H' l = some (.lst (ts.map V.ref)) ∧ ts.length = 17 ∧ PairsAt r H' ts ∧ Same H H' ∧ H l = none) (fun Q' kk => ?_) ?_
    · refine ⟨_, rfl, ?_⟩
      refine ⟨_, rfl, a, _, _, rfl, eaG6, ec, X.kit r 15 hR (by decide), by show 2 ≤ sizeLine; decide, fun T15 h15 => ?_⟩
      have z15 : Same G6 (upd G6 T15 (.tup [.str "step", .bl (decide (15 = r))])) := same_of h15
      have y15 : (upd G6 T15 (.tup [.str "step", .bl (decide (15 = r))])) T15 = some (.tup (pr r 15)) := upd_same
      generalize upd G6 T15 (.tup [.str "step", .bl (decide (15 = r))]) = L15 at z15 y15
      have sL15 := sG6.trans z15
      have eaL15 := z15 _ _ eaG6
      have pL15 := (pG6.same z15).snoc (T := T15) (by rw [show (ts6).length = 15 from by simp [n6]]; exact y15)
      have lL15 := z15 _ _ lG6
      refine ⟨_, rfl, a, _, _, rfl, eaL15, ec, X.kit r 16 hR (by decide), by show 2 ≤ sizeLine; decide, fun T16 h16 => ?_⟩
      have z16 : Same L15 (upd L15 T16 (.tup [.str "state", .bl (decide (16 = r))])) := same_of h16
      have y16 : (upd L15 T16 (.tup [.str "state", .bl (decide (16 = r))])) T16 = some (.tup (pr r 16)) := upd_same
      generalize upd L15 T16 (.tup [.str "state", .bl (decide (16 = r))]) = L16 at z16 y16
      have sL16 := sL15.trans z16
      have eaL16 := z16 _ _ eaL15
      have pL16 := (pL15.same z16).snoc (T := T16) (by rw [show (ts6 ++ [T15]).length = 16 from by simp [n6]]; exact y16)
      have lL16 := z16 _ _ lL15
      refine ⟨by show 2 ≤ sizeLine; decide, fun lb hlb => ?_⟩
      have zb : Same L16 (upd L16 lb (.lst [.ref T15, .ref T16])) := same_of hlb
      refine ⟨l6, lb, _, _, rfl, rfl, zb _ _ lL16, upd_same, ?_, fun lc hlc => ?_⟩
      · rw [List.length_map, n6]
        show 17 ≤ sizeLine
        decide
      · refine kk _ _ ⟨lc, ts6 ++ [T15] ++ [T16], rfl, ?_, by simp [n6], (pL16.same zb).same (same_of hlc), (sL16.trans zb).trans (same_of hlc), (sL16.trans zb).free hlc⟩
        rw [upd_same]
        simp
    rintro _ G7 ⟨l7, ts7, rfl, lG7, n7, pG7, sG7, new7⟩
    have eaG7 := sG7 _ _ ea
    refine seq_use (fun v H' => ∃ (l : Addr) (ts : List Addr), v = .ref l ∧ H' l = some (.lst (ts.map V.ref)) ∧ ts.length = 19 ∧ PairsAt r H' ts ∧ Same H H' ∧ H l = none) (fun Q' kk => ?_) ?_
    · refine ⟨_, rfl, ?_⟩
      refine ⟨_, rfl, a, _, _, rfl, eaG7, ec, X.kit r 17 hR (by decide), by show 2 ≤ sizeLine; decide, fun T17 h17 => ?_⟩
      have z17 : Same G7 (upd G7 T17 (.tup [.str "turn", .bl (decide (17 = r))])) := same_of h17
      have y17 : (upd G7 T17 (.tup [.str "turn", .bl (decide (17 = r))])) T17 = some (.tup (pr r 17)) := upd_same
      generalize upd G7 T17 (.tup [.str "turn", .bl (decide (17 = r))]) = L17 at z17 y17
      have sL17 := sG7.trans z17
      have eaL17 := z17 _ _ eaG7
      have pL17 := (pG7.same z17).snoc (T := T17) (by rw [show (ts7).length = 17 from by simp [n7]]; exact y17)
      have lL17 := z17 _ _ lG7
      refine ⟨_, rfl, a, _, _, rfl, eaL17, ec, X.kit r 18 hR (by decide), by show 2 ≤ sizeLine; decide, fun T18 h18 => ?_⟩
      have z18 : Same L17 (upd L17 T18 (.tup [.str "builders", .bl (decide (18 = r))])) := same_of h18
      have y18 : (upd L17 T18 (.tup [.str "builders", .bl (decide (18 = r))])) T18 = some (.tup (pr r 18)) := upd_same
      generalize upd L17 T18 (.tup [.str "builders", .bl (decide (18 = r))]) = L18 at z18 y18
      have sL18 := sL17.trans z18
      have eaL18 := z18 _ _ eaL17
      have pL18 := (pL17.same z18).snoc (T := T18) (by rw [show (ts7 ++ [T17]).length = 18 from by simp [n7]]; exact y18)
      have lL18 := z18 _ _ lL17
      refine ⟨by show 2 ≤ sizeLine; decide, fun lb hlb => ?_⟩
      have zb : Same L18 (upd L18 lb (.lst [.ref T17, .ref T18])) := same_of hlb
      refine ⟨l7, lb, _, _, rfl, rfl, zb _ _ lL18, upd_same, ?_, fun lc hlc => ?_⟩
      · rw [List.length_map, n7]
        show 19 ≤ sizeLine
        decide
      · refine kk _ _ ⟨lc, ts7 ++ [T17] ++ [T18], rfl, ?_, by simp [n7], (pL18.same zb).same (same_of hlc), (sL18.trans zb).trans (same_of hlc), (sL18.trans zb).free hlc⟩
        rw [upd_same]
        simp
    rintro _ G8 ⟨l8, ts8, rfl, lG8, n8, pG8, sG8, new8⟩
    have eaG8 := sG8 _ _ ea
    have n19 : ts8.length = 19 := n8
    have l1 := lG8
    have p1 := pG8
    have e1 := eaG8
    have s1 := sG8
    generalize ts8 = us at l1 p1 n19
    generalize G8 = F1 at l1 p1 e1 s1
    dsimp only
    refine seq_use (fun v H' => ∃ g, v = .ref g ∧ H' g = some (.lst (fnd r 19)) ∧ Same F1 H') (fun Q' kk => ?_) ?_
    · refine ⟨_, rfl, l8, rfl, ⟨_, SqL.of l1⟩, ?_⟩
      have hqF : HQ _ F1 := hq.same s1
      refine comp2_listQ (xs := us.map V.ref) (fun i ys H' => H' = F1 ∧ ys = fnd r i) ⟨rfl, rfl⟩ (fun i ys H' _ h => ⟨by rw [h.1]; exact SqL.of l1, by rw [h.1]; exact hqF, by rw [h.2]; exact fnd_len r i⟩) (by rw [List.length_map, n19]; decide) (fun i x ys H' Nx hx hv kn => ?_) ?_
      · obtain ⟨rfl, rfl⟩ := hv
        rw [List.getElem?_map] at hx
        obtain ⟨T, hT, rfl⟩ := Option.map_eq_some_iff.mp hx
        refine ⟨T, _, _, rfl, SqT.of (p1.at_ i T hT), ?_⟩
        have fs := fnd_succ r i
        refine ⟨_, rfl, _, rfl, ite2 (fun hb => ?_) (fun hb => ?_)⟩
        · rw [if_pos hb] at fs
          exact ⟨_, rfl, kn _ _ ⟨rfl, fs.symm⟩⟩
        · rw [if_neg hb] at fs
          exact kn _ _ ⟨rfl, fs.symm⟩
      · rintro ys H' ⟨rfl, rfl⟩ g hg
        rw [List.length_map, n19]
        exact kk _ _ ⟨g, rfl, upd_same, same_of hg⟩
    rintro _ F2 ⟨g, rfl, g2, s2⟩
    have f1 := fnd_one ⟨r, hr19⟩
    have f2 : (fnd r 19).length = 1 := by rw [f1]; rfl
    rw [f1] at g2
    refine ⟨_, rfl, g, _, rfl, .inl (SqL.of g2), rfl, _, rfl, iteT ?_⟩
    refine ⟨_, rfl, a, _, _, rfl, s2 _ _ e1, ec, X.ve r hR, _, rfl, iteT ?_⟩
    exact ⟨_, rfl, g, _, _, _, rfl, rfl, SqL.of g2, atI_nat (j := 0) rfl, q _ (s1.trans s2)⟩
end
end K09

set_option Elab.async false
set_option linter.all false
set_option maxRecDepth 100000
set_option maxHeartbeats 4000000
set_option pp.maxSteps 600
set_option pp.deepTerms false
namespace L2
open PySem
theorem stm_use {t u : TS} {D : Ends} {σ : St} {H : Hp} (Post : St → Hp → Prop) (hg : ∀ Q', (∀ σ' H', Post σ' H' → Q' σ' H') → t { D with nx := Q' } σ H) (k : ∀ σ' H', Post σ' H' → u D σ' H') : tSeq t u D σ H := hg _ k
theorem next_to {D : Ends} {σ : St} {H : Hp} (h : D.nx σ H) : tNext D σ H := h
end L2
namespace K09
open PySem L2 PyProof.Rows
theorem ite_of {b d : Bool} {A B : Prop} (e : b = d) (h1 : d = true → A) (h2 : d = false → B) : if b = true then A else B := by
  subst e
  exact ite_b h1 h2
theorem dstr (a b : Str) : decide (V.str a = V.str b) = decide (a = b) := by by_cases h : a = b <;> simp [h]
theorem hu1 {k : Nat} {A : Around} (hr : Room k A) : A.units + 1 < cLine := by have := hr.un; omega
/-- only the objects of S change -/
def Chg (S : List Addr) (H H' : Hp) : Prop := ∀ b o, b ∉ S → H b = some o → H' b = some o
theorem Chg.of {S : List Addr} {H H' : Hp} (s : Same H H') : Chg S H H' := fun b o _ e => s b o e
theorem Chg.trans {S : List Addr} {H H1 H2 : Hp} (a : Chg S H H1) (b : Chg S H1 H2) : Chg S H H2 := fun c o h e => b c o h (a c o h e)
/-- a lease, and where its tuple stands -/
structure Lse where
  num : Nat
  place : Int
  worker : Str
  turn : Int
  fin : Int
  at_ : Addr
def Lse.row (l : Lse) : List V := [.int (l.num : Int), .int l.place, .str l.worker, .int l.turn, .int l.fin]
structure Ls where
  term : Int
  given : Nat
  held : List Lse
def kvsOf (hs : List Lse) : List (Key × V) := hs.map fun l => (.inl (l.num : Int), .ref l.at_)
structure Ls.Ok (m : Ls) : Prop where
  lt : ∀ l ∈ m.held, l.num < m.given
  nd : (m.held.map (·.num)).Nodup
  wk : (m.held.map (·.worker)).Nodup
  len : m.held.length ≤ m.given
def Ls.by_ (m : Ls) (z : Str) : Option Lse := m.held.find? fun l => decide (l.worker = z)
def Ls.of (m : Ls) : V → Option Lse
  | .int n => m.held.find? fun l => decide ((l.num : Int) = n)
  | _ => none
def Ls.take (m : Ls) (a : Int) (z : Str) (u : Int) (T : Addr) : Ls := ⟨m.term, m.given + 1, m.held ++ [⟨m.given, a, z, u, u + m.term, T⟩]⟩
def Ls.renew (m : Ls) (l : Lse) (u : Int) (T : Addr) : Ls := ⟨m.term, m.given, m.held.map fun l' => if l'.num = l.num then ⟨l.num, l.place, l.worker, l.turn, u + m.term, T⟩ else l'⟩
def Ls.close (m : Ls) (l : Lse) : Ls := ⟨m.term, m.given, m.held.filter fun l' => decide (l'.num ≠ l.num)⟩
theorem by_some {m : Ls} {z : Str} {l : Lse} (h : m.by_ z = some l) : l ∈ m.held ∧ l.worker = z := by
  unfold Ls.by_ at h
  exact ⟨List.mem_of_find?_eq_some h, by have := List.find?_some h; simpa using this⟩
theorem of_some {m : Ls} {x : V} {l : Lse} (h : m.of x = some l) : l ∈ m.held ∧ x = .int (l.num : Int) := by
  cases x with
  | int n =>
    unfold Ls.of at h
    refine ⟨List.mem_of_find?_eq_some h, ?_⟩
    have := List.find?_some h
    simp at this
    rw [this]
  | _ => cases h
theorem by_none {m : Ls} {z : Str} (h : m.by_ z = none) : ∀ l ∈ m.held, l.worker ≠ z := fun l hl e => by
  have := List.find?_eq_none.mp h l hl
  exact this (decide_eq_true e)
theorem of_none {m : Ls} {n : Int} (h : m.of (.int n) = none) : ∀ l ∈ m.held, (l.num : Int) ≠ n := fun l hl e => by
  have := List.find?_eq_none.mp h l hl
  exact this (decide_eq_true e)
theorem num_inj {hs : List Lse} (nd : (hs.map (·.num)).Nodup) : ∀ l ∈ hs, ∀ l' ∈ hs, l.num = l'.num → l = l' := by
  induction hs with
  | nil => intro l h; cases h
  | cons a r ih =>
    rw [List.map_cons, List.nodup_cons] at nd
    intro l hl l' hl' e
    rcases List.mem_cons.mp hl with h1 | h1
    · rcases List.mem_cons.mp hl' with h2 | h2
      · rw [h1, h2]
      · exact absurd (List.mem_map.mpr ⟨l', h2, by rw [← e, h1]⟩) nd.1
    · rcases List.mem_cons.mp hl' with h2 | h2
      · exact absurd (List.mem_map.mpr ⟨l, h1, by rw [e, h2]⟩) nd.1
      · exact ih nd.2 l h1 l' h2 e
theorem of_mem {m : Ls} (ok : m.Ok) {l : Lse} (h : l ∈ m.held) : m.of (.int (l.num : Int)) = some l := by
  cases e : m.of (.int (l.num : Int)) with
  | none => exact absurd rfl (of_none e l h)
  | some l' =>
    obtain ⟨h1, h2⟩ := of_some e
    injection h2 with h2
    rw [num_inj ok.nd l' h1 l h (by omega)]
theorem Ok.take {m : Ls} (ok : m.Ok) {a : Int} {z : Str} {u : Int} {T : Addr} (h : m.by_ z = none) : (m.take a z u T).Ok := by
  refine ⟨fun l hl => ?_, ?_, ?_, ?_⟩
  · rcases List.mem_append.mp hl with h | h
    · exact Nat.lt_succ_of_lt (ok.lt l h)
    · rw [List.mem_singleton.mp h]
      exact Nat.lt_succ_self _
  · show ((m.held ++ [_]).map fun x : Lse => x.num).Nodup
    rw [List.map_append, List.nodup_append]
    refine ⟨ok.nd, by simp, fun x hx y hy e => ?_⟩
    obtain ⟨l, hl, rfl⟩ := List.mem_map.mp hx
    have : y = m.given := by simpa using hy
    have := ok.lt l hl
    omega
  · show ((m.held ++ [_]).map fun x : Lse => x.worker).Nodup
    rw [List.map_append, List.nodup_append]
    refine ⟨ok.wk, by simp, fun x hx y hy e => ?_⟩
    obtain ⟨l, hl, rfl⟩ := List.mem_map.mp hx
    have hy' : y = z := by simpa using hy
    exact by_none h l hl (e.trans hy')
  · show (m.held ++ [_]).length ≤ m.given + 1
    rw [List.length_append]
    have := ok.len
    simp
    exact this
theorem map_same {α : Type} {hs : List Lse} (g : Lse → α) {l : Lse} (l2 : Lse) (nd : (hs.map (·.num)).Nodup) (hl : l ∈ hs) (e : g l2 = g l) : (hs.map fun l' => if l'.num = l.num then l2 else l').map g = hs.map g := by
  rw [List.map_map]
  refine List.map_congr_left fun x hx => ?_
  show g (if x.num = l.num then l2 else x) = g x
  by_cases h : x.num = l.num
  · rw [if_pos h, num_inj nd x hx l hl h]
    exact e
  · rw [if_neg h]
theorem Ok.renew {m : Ls} (ok : m.Ok) {l : Lse} (hl : l ∈ m.held) {u : Int} {T : Addr} : (m.renew l u T).Ok := by
  refine ⟨fun x hx => ?_, ?_, ?_, ?_⟩
  · obtain ⟨y, hy, rfl⟩ := List.mem_map.mp hx
    by_cases h : y.num = l.num
    · rw [if_pos h]
      exact ok.lt l hl
    · rw [if_neg h]
      exact ok.lt y hy
  · show ((m.held.map _).map fun x : Lse => x.num).Nodup
    rw [map_same (fun x => x.num) _ ok.nd hl (by rfl)]
    exact ok.nd
  · show ((m.held.map _).map fun x : Lse => x.worker).Nodup
    rw [map_same (fun x => x.worker) _ ok.nd hl (by rfl)]
    exact ok.wk
  · show (m.held.map _).length ≤ m.given
    rw [List.length_map]
    exact ok.len
theorem Ok.close {m : Ls} (ok : m.Ok) (l : Lse) : (m.close l).Ok := by
  refine ⟨fun x hx => ok.lt x (List.mem_filter.mp hx).1, ?_, ?_, Nat.le_trans (List.length_filter_le _ _) ok.len⟩
  · exact ok.nd.sublist (List.Sublist.map _ List.filter_sublist)
  · exact ok.wk.sublist (List.Sublist.map _ List.filter_sublist)
theorem val_kvs (m : Ls) (n : Int) : valV (kvsOf m.held) (.inl n) = (m.of (.int n)).map fun l => V.ref l.at_ := by
  unfold valV kvsOf Ls.of
  rw [List.find?_map, Option.map_map]
  congr 1
  congr 1
  funext l
  show decide ((Sum.inl (l.num : Int) : Key) = Sum.inl n) = decide ((l.num : Int) = n)
  by_cases h : (l.num : Int) = n <;> simp [h]
theorem drop_kvs (m : Ls) (l : Lse) : dropK (kvsOf m.held) (.inl (l.num : Int)) = kvsOf (m.close l).held := by
  unfold dropK kvsOf Ls.close
  rw [List.filter_map]
  congr 1
  congr 1
  funext x
  show decide ((Sum.inl (x.num : Int) : Key) ≠ Sum.inl (l.num : Int)) = decide (x.num ≠ l.num)
  by_cases h : x.num = l.num
  · simp [h]
  · have h' : ¬ (x.num : Int) = (l.num : Int) := by omega
    simp [h, h']
theorem put_new (m : Ls) (ok : m.Ok) (a : Int) (z : Str) (u : Int) (T : Addr) : putK (kvsOf m.held) (.inl (m.given : Int)) (.ref T) = kvsOf (m.take a z u T).held := by
  rw [putK_new]
  · unfold kvsOf Ls.take
    rw [List.map_append]
    rfl
  · rw [val_kvs]
    cases e : m.of (.int (m.given : Int)) with
    | none => rfl
    | some l =>
      obtain ⟨h1, h2⟩ := of_some e
      injection h2 with h2
      have := ok.lt l h1
      omega
theorem put_old (m : Ls) {l : Lse} (hl : l ∈ m.held) (u : Int) (T : Addr) : putK (kvsOf m.held) (.inl (l.num : Int)) (.ref T) = kvsOf (m.renew l u T).held := by
  unfold putK
  rw [if_pos ?_]
  · unfold kvsOf Ls.renew
    rw [List.map_map, List.map_map]
    refine List.map_congr_left fun x hx => ?_
    show (if (Sum.inl (x.num : Int) : Key) = Sum.inl (l.num : Int) then ((Sum.inl (x.num : Int) : Key), V.ref T) else (Sum.inl (x.num : Int), V.ref x.at_)) = ((Sum.inl ((if x.num = l.num then _ else x : Lse).num : Int) : Key), V.ref (if x.num = l.num then _ else x : Lse).at_)
    by_cases h : x.num = l.num
    · rw [if_pos h, if_pos (by rw [h]), h]
    · rw [if_neg h, if_neg (fun z => h (by have := Sum.inl.inj z; omega))]
  · rw [List.any_eq_true]
    exact ⟨(.inl (l.num : Int), .ref l.at_), List.mem_map.mpr ⟨l, hl, rfl⟩, decide_eq_true rfl⟩
theorem kvs_len (hs : List Lse) : (kvsOf hs).length = hs.length := List.length_map ..
structure LsAt (C : Addr) (H : Hp) (p hd : Addr) (m : Ls) : Prop where
  obj : ∃ dx, H p = some (.ins C dx [("term", .int m.term), ("given", .int (m.given : Int)), ("held", .ref hd)])
  tab : H hd = some (.dK (kvsOf m.held))
  row : ∀ l ∈ m.held, H l.at_ = some (.tup l.row)
  ok : m.Ok
theorem LsAt.same {C p hd : Addr} {H H' : Hp} {m : Ls} (h : LsAt C H p hd m) (s : Same H H') : LsAt C H' p hd m := by
  obtain ⟨⟨dx, a⟩, b, c, d⟩ := h
  exact ⟨⟨dx, s _ _ a⟩, s _ _ b, fun l hl => s _ _ (c l hl), d⟩
structure LCls (K : PySem.W.Frag) (mg : Str → Option Value) (C : Addr) : Prop where
  cl : Cls K C
  mgC : mg "Leases" = some (.ref C)
  n1 : NoAttr K C "term"
  n2 : NoAttr K C "given"
  n3 : NoAttr K C "held"
structure BX (K : PySem.W.Frag) (mg : Str → Option Value) (D : Nat → Addr) : Prop where
  exT : PySem.W.excIn K (D 0) bmV "ValueError.__new__" = true
  exB : PySem.W.excIn K (D 1) bmV "ValueError.__new__" = true
  exG : PySem.W.excIn K (D 2) bmV "ValueError.__new__" = true
  gT : mg "BadTerm" = some (.ref (D 0))
  gB : mg "Busy" = some (.ref (D 1))
  gG : mg "Gone" = some (.ref (D 2))
theorem find_at {hs : List Lse} {i : Nat} {l : Lse} {z : Str} (h : hs[i]? = some l) (e : l.worker = z) (no : ∀ l' ∈ hs.take i, l'.worker ≠ z) : (hs.find? fun l => decide (l.worker = z)) = some l := by
  have hi := (List.getElem?_eq_some_iff.mp h).1
  have h' : hs[i] = l := (List.getElem?_eq_some_iff.mp h).2
  have e1 : hs = hs.take i ++ hs[i] :: hs.drop (i + 1) := by rw [← List.drop_eq_getElem_cons hi, List.take_append_drop]
  rw [e1, List.find?_append, List.find?_eq_none.mpr (fun x hx => by simpa using no x hx), h', List.find?_cons_of_pos (by simpa using e)]
  rfl
section
variable {P : Program} {w : World} {K : PySem.W.Frag} {mg : Str → Option Value} {base : Heap} {C : Addr} {D : Nat → Addr}
def spTerm (K : PySem.W.Frag) : Sp := fun vs H Q _ => ∃ x, vs = [x] ∧ Any K H x ∧ Q (.bl (amongV x 2 1000)) H
theorem ok_term (Df : Def K mg "is_term" s_is_term ["thing"]) {t1 t2 : Tok} (g1 : mg "LEAST_TERM" = some (.int 2 t1)) (g2 : mg "MOST_TERM" = some (.int 1000 t2)) (k_among : Knows P w K mg base 2 "is_among" ["thing", "least", "most"] (sp_is_among K)) : Knows P w K mg base 3 "is_term" ["thing"] (spTerm K) := by
  refine Df.ok sc_is_term (fun vs H Q E h => ?_) (fun f cdv A outer s H vs Q E hr h => ?_)
  · obtain ⟨x, rfl, _⟩ := h
    rfl
  · obtain ⟨x, rfl, an, q⟩ := h
    refine ⟨_, by exact (pss_one (ps_ret (pe_callM k_among hr (pa_c (pv 0) (pa_c (pe_glob (v := .int 2) rfl g1 ⟨_, rfl⟩) (pa_c (pe_glob (v := .int 1000) rfl g2 ⟨_, rfl⟩) pa_nil)))))), ?_⟩
    exact ⟨_, rfl, x, 2, 1000, rfl, an, q⟩
def spInit (K : PySem.W.Frag) (C : Addr) (D : Nat → Addr) : Sp := fun vs H Q E => ∃ (p dx : Addr) (x : V), vs = [.ref p, x] ∧ H p = some (.ins C dx []) ∧ Any K H x ∧ (∀ t, x = .int t → amongV x 2 1000 = true → ∀ hd H', H hd = none → Chg [p] H H' → LsAt C H' p hd ⟨t, 0, []⟩ → Q .non H') ∧ (amongV x 2 1000 = false → E (.ref (D 0)) none H)
theorem ok_init {f : Addr} {fd : FuncData} (F : Fun K "__init__" "Leases.__init__" s_Leases___init__ f fd) (X : BX K mg D) (S : LCls K mg C) {t1 t2 : Tok} (g1 : mg "LEAST_TERM" = some (.int 2 t1)) (g2 : mg "MOST_TERM" = some (.int 1000 t2)) (k_term : Knows P w K mg base 3 "is_term" ["thing"] (spTerm K)) :
    FnOk P w K mg base (CX1 P w base) 4 f fd ["self", "term"] (spInit K C D) := by
  refine F.okX sc_Leases___init__ (fun vs H Q E h => ?_) (fun cdv A outer s H vs Q E hr h => ?_)
  · obtain ⟨p, dx, x, rfl, _⟩ := h
    rfl
  · obtain ⟨p, dx, x, rfl, hp, an, q1, q2⟩ := h
    refine ⟨_, by exact (pss_cons (ps_if (pt_not (pt_val (pe_callM k_term hr (pa_c (pv 1) pa_nil)))) (pss_one (ps_raise X.exT X.gT (pa_c (pe_fstr (pj_cons pe_str (pj_cons (pe_fmt (pe_glob (v := .int 2) rfl g1 ⟨_, rfl⟩)) (pj_cons pe_str (pj_cons (pe_fmt (pe_glob (v := .int 1000) rfl g2 ⟨_, rfl⟩)) pj_nil))))) pa_nil))) pss_nil)
      (pss_cons (ps_fld (pv 0) (pv 1) rfl)
      (pss_cons (ps_fld (pv 0) pe_int rfl)
      (pss_one (ps_fld (pv 0) pe_dnewK rfl))))), ?_⟩
    refine ⟨_, rfl, x, rfl, an, _, rfl, ite2 (fun hc => ?_) (fun hc => next_to ?_)⟩
    · refine ⟨_, rfl, by decide +kernel, .inr ⟨2, rfl, by decide, ?_⟩⟩
      refine ⟨_, rfl, by decide +kernel, _, rfl, by decide +kernel, .inr ⟨1000, rfl, by decide, ?_⟩⟩
      refine ⟨_, rfl, by decide +kernel, by decide +kernel, by show 1 ≤ sizeLine; decide, q2 (by simpa using hc)⟩
    · have hb : amongV x 2 1000 = true := by simpa using hc
      dsimp only
      cases x with
      | int t =>
        refine ⟨_, rfl, _, rfl, p, C, dx, _, rfl, hp, S.cl, S.n1, (by show 0 < 1000; decide), ?_⟩
        dsimp only
        refine ⟨_, rfl, p, C, dx, _, rfl, upd_same, S.cl, S.n2, (by show 1 < 1000; decide), ?_⟩
        dsimp only
        refine fun hd hhd => ⟨_, rfl, p, C, dx, [("term", .int t), ("given", .int 0)], rfl, ?_, S.cl, S.n3, (by show 2 < 1000; decide), ?_⟩
        · rw [upd_ne (ne_of_none upd_same hhd)]
          exact upd_same
        · have hpd : p ≠ hd := ne_of_none upd_same hhd
          refine q1 t rfl hb hd _ (by rw [upd_ne (Ne.symm hpd), upd_ne (Ne.symm hpd)] at hhd; exact hhd) (fun b o' hb' e => ?_) ⟨⟨dx, upd_same⟩, ?_, (fun l hl => by cases hl), ⟨(fun l hl => by cases hl), List.nodup_nil, List.nodup_nil, Nat.le_refl _⟩⟩
          · have b1 : b ≠ p := fun z => hb' (by simp [z])
            have b2 : b ≠ hd := fun z => by
              rw [z] at e
              rw [upd_ne (Ne.symm hpd), upd_ne (Ne.symm hpd), e] at hhd
              cases hhd
            rw [upd_ne b1, upd_ne b2, upd_ne b1, upd_ne b1]
            exact e
          · rw [upd_ne (Ne.symm hpd)]
            exact upd_same
      | _ => cases hb
end
end K09

set_option Elab.async false
set_option linter.all false
set_option maxRecDepth 100000
set_option maxHeartbeats 4000000
set_option pp.maxSteps 600
set_option pp.deepTerms false
namespace K09
open PySem L2 PyProof.Rows
theorem kvs_map_len (hs : List Lse) : ((kvsOf hs).map (·.2)).length = hs.length := by rw [List.length_map, kvs_len]
section
variable {P : Program} {w : World} {K : PySem.W.Frag} {mg : Str → Option Value} {base : Heap} {C : Addr} {D : Nat → Addr}
def spHolder (C : Addr) : Sp := fun vs H Q _ => ∃ (p hd : Addr) (m : Ls) (z : Str), vs = [.ref p, .str z] ∧ LsAt C H p hd m ∧ (∀ l, m.by_ z = some l → ∀ H', Same H H' → Q (.ref l.at_) H') ∧ (m.by_ z = none → ∀ H', Same H H' → Q .non H')
theorem ok_holder {f : Addr} {fd : FuncData} (F : Fun K "holder" "Leases.holder" s_Leases_holder f fd) (S : LCls K mg C) : FnOk P w K mg base CX0 1 f fd ["self", "worker"] (spHolder C) := by
  refine F.ok sc_Leases_holder (fun vs H Q E h => ?_) (fun cdv A outer s H vs Q E hr h => ?_)
  · obtain ⟨p, hd, m, z, rfl, _⟩ := h
    rfl
  · obtain ⟨p, hd, m, z, rfl, L, q1, q2⟩ := h
    obtain ⟨dx, hp⟩ := L.obj
    refine ⟨_, by exact (pss_cons (ps_thaw (ps_for PassesOwn.never rfl (pi_vals (pe_dvals (pe_fld (pv 0) rfl) ⟨rfl, by rfl, rfl, rfl⟩)) (pg_name (i := 2) sc_Leases_holder.nd rfl (Or.inl rfl)) (pss_one (ps_if (pt_cmpR op_eq (pe_ix ix_tup (pv 2) pe_int (fun _ _ => rfl)) (pv 1) (nomark _)) (pss_one (ps_ret (pv 2))) pss_nil))))
      (pss_one (ps_ret pe_non))), ?_⟩
    refine ⟨_, rfl, p, C, dx, _, _, rfl, hp, S.cl, S.n3, rfl, hd, kvsOf m.held, rfl, L.tab, fun r hrn => ⟨r, hd, kvsOf m.held, rfl, upd_same, ?_, fun ob nf => ?_⟩⟩
    · rw [upd_ne (ne_of_none L.tab hrn)]
      exact L.tab
    have s1 : Same H (upd H r (ViewO r hd)) := same_of hrn
    have e1 : (upd H r (ViewO r hd)) hd = some (.dK (kvsOf m.held)) := s1 _ _ L.tab
    generalize upd H r (ViewO r hd) = H1 at s1 e1
    have back : Same H (upd (upd H1 hd (.frz ob (.dK (kvsOf m.held)))) hd (.dK (kvsOf m.held))) := fun b u e => by
      by_cases hb : b = hd
      · subst hb
        rw [L.tab] at e
        rw [upd_same]
        exact e
      · rw [upd_ne hb, upd_ne hb]
        exact s1 _ _ e
    have rows : ∀ l ∈ m.held, (upd H1 hd (.frz ob (.dK (kvsOf m.held)))) l.at_ = some (.tup l.row) := fun l hl => by
      rw [upd_ne (fun z => by have := L.row l hl; rw [z, L.tab] at this; cases this)]
      exact s1 _ _ (L.row l hl)
    refine for_wk (wk_vals hd ob (kvsOf m.held)) (fun i σ H' => H' = upd H1 hd (.frz ob (.dK (kvsOf m.held))) ∧ (∀ l ∈ m.held.take i, l.worker ≠ z) ∧ ∃ v2, σ = [some (.ref p), some (.str z), v2]) ⟨rfl, (fun l hl => by simp at hl), _, rfl⟩ (fun i σ H' _ h => by rw [h.1]; exact upd_same) ?_ ?_
    · rintro i x σ H' hx ⟨rfl, hno, v2, rfl⟩
      have hx' : ∃ l, m.held[i]? = some l ∧ x = .ref l.at_ := by
        unfold kvsOf at hx
        rw [List.map_map, List.getElem?_map] at hx
        obtain ⟨l, hl, rfl⟩ := Option.map_eq_some_iff.mp hx
        exact ⟨l, hl, rfl⟩
      obtain ⟨l, hl, rfl⟩ := hx'
      refine ⟨_, rfl, l.at_, _, _, _, rfl, rfl, SqT.of (rows l (List.mem_of_getElem? hl)), atI_nat (j := 2) rfl, _, rfl, rfl, _, rfl, ite_of (dstr l.worker z) (fun he => ?_) (fun he => ?_)⟩
      · exact ⟨_, rfl, hd, _, ob, upd_same, nf, q1 l (find_at hl (of_decide_eq_true he) hno) _ back⟩
      · refine ⟨rfl, fun l' hl' => ?_, _, rfl⟩
        rw [List.take_add_one, hl] at hl'
        rcases List.mem_append.mp hl' with h | h
        · exact hno l' h
        · have : l' = l := by simpa using h
          rw [this]
          exact of_decide_eq_false he
    · rintro σ H' ⟨rfl, hno, v2, rfl⟩
      refine ⟨hd, _, ob, upd_same, nf, q2 ?_ _ back⟩
      refine List.find?_eq_none.mpr fun l hl => ?_
      rw [kvs_map_len, List.take_length] at hno
      simpa using hno l hl
def spTake (C : Addr) (D : Nat → Addr) : Sp := fun vs H Q E => ∃ (p hd : Addr) (m : Ls) (a : Int) (z : Str) (u : Int), vs = [.ref p, .int a, .str z, .int u] ∧ LsAt C H p hd m ∧ m.given < 1000 ∧
  (∀ l, m.by_ z = some l → ∀ H', Same H H' → E (.ref (D 1)) none H') ∧ (m.by_ z = none → ∀ T H', Chg [p, hd] H H' → LsAt C H' p hd (m.take a z u T) → Q (.ref T) H')
theorem ok_take {f : Addr} {fd : FuncData} (F : Fun K "take" "Leases.take" s_Leases_take f fd) (X : BX K mg D) (S : LCls K mg C) (km_holder : KnowsM CX0 P w K mg base 1 C "holder" ["self", "worker"] (spHolder C)) : FnOk P w K mg base (CX1 P w base) 2 f fd ["self", "place", "worker", "turn"] (spTake C D) := by
  refine F.okX sc_Leases_take (fun vs H Q E h => ?_) (fun cdv A outer s H vs Q E hr h => ?_)
  · obtain ⟨p, hd, m, a, z, u, rfl, _⟩ := h
    rfl
  · obtain ⟨p, hd, m, a, z, u, rfl, L, hlt, q1, q2⟩ := h
    obtain ⟨dx, hp⟩ := L.obj
    have hu := hu1 hr
    refine ⟨_, by exact (pss_cons (ps_if (pt_cmpR op_notN (pe_methM km_holder S.cl hr pass0 (pv 0) (pa_c (pv 2) pa_nil)) pe_non (nomark _)) (pss_one (ps_raise X.exB X.gB (pa_c pe_str pa_nil))) pss_nil)
      (pss_cons (ps_set (i := 4) sc_Leases_take.nd rfl (Or.inl rfl) (pe_tup (pa_c (pe_fld (pv 0) rfl) (pa_c (pv 1) (pa_c (pv 2) (pa_c (pv 3) (pa_c (pe_op op_add (pv 3) (pe_fld (pv 0) rfl)) pa_nil)))))))
      (pss_cons (ps_dput hu (pe_fld (pv 0) rfl) (pe_fld (pv 0) rfl) (pv 4) rfl)
      (pss_cons (ps_fldaug (pv 0) pe_int in_add)
      (pss_one (ps_ret (pv 4))))))), ?_⟩
    refine ⟨_, rfl, p, dx, _, rfl, hp, rfl, _, rfl, p, hd, m, z, rfl, L, fun l hl H1 s1 => ?_, fun hn H1 s1 => ?_⟩
    · exact ⟨rfl, _, rfl, iteT ⟨by show 1 ≤ sizeLine; decide, q1 l hl _ s1⟩⟩
    · refine ⟨rfl, _, rfl, iteF ?_⟩
      have hp1 := s1 _ _ hp
      refine ⟨_, rfl, p, C, dx, _, _, rfl, hp1, S.cl, S.n2, rfl, _, rfl, _, rfl, _, rfl, _, rfl, _, rfl, p, C, dx, _, _, rfl, hp1, S.cl, S.n1, rfl, _, _, rfl, rfl, by show 5 ≤ sizeLine; decide, fun T hT => ?_⟩
      dsimp only [gName]
      have s2 : Same H (upd H1 T (.tup [.int (m.given : Int), .int a, .str z, .int u, .int (u + m.term)])) := s1.trans (same_of hT)
      have e2 : (upd H1 T (.tup [.int (m.given : Int), .int a, .str z, .int u, .int (u + m.term)])) T = some (.tup [.int (m.given : Int), .int a, .str z, .int u, .int (u + m.term)]) := upd_same
      have newT : H T = none := s1.free hT
      generalize upd H1 T (.tup [.int (m.given : Int), .int a, .str z, .int u, .int (u + m.term)]) = H2 at s2 e2
      have hp2 := s2 _ _ hp
      have ht2 := s2 _ _ L.tab
      refine ⟨_, rfl, _, rfl, p, C, dx, _, _, rfl, hp2, S.cl, S.n3, rfl, _, rfl, p, C, dx, _, _, rfl, hp2, S.cl, S.n2, rfl, hd, _, rfl, DPut.k (k := .inl (m.given : Int)) ht2 (by rw [kvs_len]; exact Nat.lt_of_lt_of_le (Nat.lt_of_le_of_lt L.ok.len hlt) (by decide)), ?_⟩
      rw [put_new m L.ok a z u T]
      have hpd : p ≠ hd := fun zz => by rw [zz, L.tab] at hp; cases hp
      have hp3 : (upd H2 hd (.dK (kvsOf (m.take a z u T).held))) p = some (.ins C dx [("term", .int m.term), ("given", .int (m.given : Int)), ("held", .ref hd)]) := by rw [upd_ne hpd]; exact hp2
      dsimp only
      refine ⟨_, rfl, p, C, dx, _, _, rfl, hp3, S.cl, S.n2, rfl, _, _, rfl, rfl, dx, _, hp3, (by show 3 < 1000; decide), ?_⟩
      dsimp only
      refine ⟨_, rfl, q2 hn T _ (fun b o hb e => ?_) ⟨⟨dx, ?_⟩, ?_, fun l hl => ?_, Ok.take L.ok hn⟩⟩
      · have b1 : b ≠ p := fun zz => hb (by simp [zz])
        have b2 : b ≠ hd := fun zz => hb (by simp [zz])
        rw [upd_ne b1, upd_ne b2]
        exact s2 _ _ e
      · rw [upd_same]
        show _ = some (HO.ins C dx [("term", .int m.term), ("given", .int ((m.given + 1 : Nat) : Int)), ("held", .ref hd)])
        rw [show ((m.given + 1 : Nat) : Int) = (m.given : Int) + 1 by omega]
        rfl
      · rw [upd_ne (Ne.symm hpd)]
        exact upd_same
      · have tn : ∀ b xs, H2 b = some (.tup xs) → (upd (upd H2 hd (.dK (kvsOf (m.take a z u T).held))) p (.ins C dx (putF "given" (.int ((m.given : Int) + 1)) [("term", .int m.term), ("given", .int (m.given : Int)), ("held", .ref hd)]))) b = some (.tup xs) := fun b xs e => by
          rw [upd_ne (fun zz => by rw [zz, hp2] at e; cases e), upd_ne (fun zz => by rw [zz, ht2] at e; cases e)]
          exact e
        rcases List.mem_append.mp hl with h | h
        · exact tn _ _ (s2 _ _ (L.row l h))
        · rw [List.mem_singleton.mp h]
          exact tn _ _ e2
def spOf (K : PySem.W.Frag) (C : Addr) (D : Nat → Addr) : Sp := fun vs H Q E => ∃ (p hd : Addr) (m : Ls) (x : V), vs = [.ref p, x] ∧ LsAt C H p hd m ∧ Any K H x ∧ (∀ l, m.of x = some l → Q (.ref l.at_) H) ∧ (m.of x = none → E (.ref (D 2)) none H)
theorem ok_of {f : Addr} {fd : FuncData} (F : Fun K "of" "Leases.of" s_Leases_of f fd) (X : BX K mg D) (S : LCls K mg C) (k_whole : Knows P w K mg base 1 "is_whole" ["thing"] (sp_is_whole K)) : FnOk P w K mg base (CX1 P w base) 2 f fd ["self", "number"] (spOf K C D) := by
  refine F.okX sc_Leases_of (fun vs H Q E h => ?_) (fun cdv A outer s H vs Q E hr h => ?_)
  · obtain ⟨p, hd, m, x, rfl, _⟩ := h
    rfl
  · obtain ⟨p, hd, m, x, rfl, L, an, q1, q2⟩ := h
    obtain ⟨dx, hp⟩ := L.obj
    have hu := hu1 hr
    refine ⟨_, by exact (pss_cons (ps_if (PW.pt (pw_or (pt_not (pt_val (pe_callM k_whole hr (pa_c (pv 1) pa_nil)))) (pw_or1 (pt_cmp (pc_dnotin hu (pv 1) (pe_fld (pv 0) rfl)))))) (pss_one (ps_raise X.exG X.gG (pa_c pe_str pa_nil))) pss_nil)
      (pss_one (ps_ret (pe_dget hu (pe_fld (pv 0) rfl) (pv 1) (fun _ _ => rfl))))), ?_⟩
    refine ⟨_, rfl, x, rfl, an, _, rfl, ?_⟩
    cases x with
    | int n =>
      refine iteF ?_
      have dg : DGet H hd (.int n) ((m.of (.int n)).map fun l => V.ref l.at_) := by
        have := DGet.k (k := .inl n) L.tab
        rw [val_kvs] at this
        exact this
      refine ⟨_, rfl, _, rfl, p, C, dx, _, _, rfl, hp, S.cl, S.n3, rfl, hd, _, rfl, dg, _, rfl, ?_⟩
      cases e : m.of (.int n) with
      | none => exact iteT ⟨by show 1 ≤ sizeLine; decide, q2 e⟩
      | some l =>
        rw [e] at dg
        refine iteF ?_
        exact ⟨_, rfl, p, C, dx, _, _, rfl, hp, S.cl, S.n3, rfl, _, rfl, hd, _, rfl, dg, q1 l e⟩
    | _ => exact iteT (iteT ⟨by show 1 ≤ sizeLine; decide, q2 rfl⟩)
def spRenew (K : PySem.W.Frag) (C : Addr) (D : Nat → Addr) : Sp := fun vs H Q E => ∃ (p hd : Addr) (m : Ls) (x : V) (u : Int), vs = [.ref p, x, .int u] ∧ LsAt C H p hd m ∧ m.given < 1000 ∧ Any K H x ∧ (∀ l, m.of x = some l → ∀ T H', Chg [p, hd] H H' → LsAt C H' p hd (m.renew l u T) → Q (.ref T) H') ∧ (m.of x = none → E (.ref (D 2)) none H)
theorem ok_renew {f : Addr} {fd : FuncData} (F : Fun K "renew" "Leases.renew" s_Leases_renew f fd) (S : LCls K mg C) (km_of : KnowsM (CX1 P w base) P w K mg base 2 C "of" ["self", "number"] (spOf K C D)) : FnOk P w K mg base (CX1 P w base) 3 f fd ["self", "number", "turn"] (spRenew K C D) := by
  refine F.okX sc_Leases_renew (fun vs H Q E h => ?_) (fun cdv A outer s H vs Q E hr h => ?_)
  · obtain ⟨p, hd, m, x, u, rfl, _⟩ := h
    rfl
  · obtain ⟨p, hd, m, x, u, rfl, L, hlt, an, q1, q2⟩ := h
    obtain ⟨dx, hp⟩ := L.obj
    have hu := hu1 hr
    refine ⟨_, by exact (pss_cons (ps_set (i := 3) sc_Leases_renew.nd rfl (Or.inl rfl) (pe_methM km_of S.cl hr passes_on (pv 0) (pa_c (pv 1) pa_nil)))
      (pss_cons (ps_set (i := 4) sc_Leases_renew.nd rfl (Or.inl rfl) (pe_op op_catT (pe_slice sl_tup (pv 3) po_none (po_some pe_int)) (pe_tup (pa_c (pe_op op_add (pv 2) (pe_fld (pv 0) rfl)) pa_nil))))
      (pss_cons (ps_dput hu (pe_fld (pv 0) rfl) (pv 1) (pv 4) rfl)
      (pss_one (ps_ret (pv 4)))))), ?_⟩
    refine ⟨_, rfl, p, dx, _, rfl, hp, rfl, _, rfl, p, hd, m, x, rfl, L, an, fun l hl => ?_, q2⟩
    dsimp only [gName]
    obtain ⟨hmem, rfl⟩ := of_some hl
    have hrow := L.row l hmem
    refine ⟨_, rfl, _, rfl, l.at_, _, rfl, SqT.of hrow, (fun h => by have h2 : (4 : Nat) = 5 := h.2; cases h2), fun c1 hc1 => ?_⟩
    have s1 : Same H (upd H c1 (.tup (cutV l.row none (some 4)))) := same_of hc1
    have e1 : (upd H c1 (.tup (cutV l.row none (some 4)))) c1 = some (.tup [.int (l.num : Int), .int l.place, .str l.worker, .int l.turn]) := upd_same
    generalize upd H c1 (.tup (cutV l.row none (some 4))) = H1 at s1 e1
    have hp1 := s1 _ _ hp
    refine ⟨_, rfl, _, rfl, p, C, dx, _, _, rfl, hp1, S.cl, S.n1, rfl, _, _, rfl, rfl, by show 1 ≤ sizeLine; decide, fun c2 hc2 => ?_⟩
    have s2 : Same H1 (upd H1 c2 (.tup [.int (u + m.term)])) := same_of hc2
    have e2 : (upd H1 c2 (.tup [.int (u + m.term)])) c2 = some (.tup [.int (u + m.term)]) := upd_same
    generalize upd H1 c2 (.tup [.int (u + m.term)]) = H2 at s2 e2
    refine ⟨c1, c2, _, _, rfl, rfl, SqT.of (s2 _ _ e1), SqT.of e2, (by simp), by show 5 ≤ sizeLine; decide, (fun h => by cases h), fun _ T hT => ?_⟩
    dsimp only [gName]
    have s3 : Same H (upd H2 T (.tup ([.int (l.num : Int), .int l.place, .str l.worker, .int l.turn] ++ [.int (u + m.term)]))) := (s1.trans s2).trans (same_of hT)
    have e3 : (upd H2 T (.tup ([.int (l.num : Int), .int l.place, .str l.worker, .int l.turn] ++ [.int (u + m.term)]))) T = some (.tup [.int (l.num : Int), .int l.place, .str l.worker, .int l.turn, .int (u + m.term)]) := upd_same
    generalize upd H2 T (.tup ([.int (l.num : Int), .int l.place, .str l.worker, .int l.turn] ++ [.int (u + m.term)])) = H3 at s3 e3
    have hp3 := s3 _ _ hp
    have ht3 := s3 _ _ L.tab
    refine ⟨_, rfl, _, rfl, p, C, dx, _, _, rfl, hp3, S.cl, S.n3, rfl, _, rfl, hd, _, rfl, DPut.k (k := .inl (l.num : Int)) ht3 (by rw [kvs_len]; exact Nat.lt_of_lt_of_le (Nat.lt_of_le_of_lt L.ok.len hlt) (by decide)), ?_⟩
    rw [put_old m hmem u T]
    have hpd : p ≠ hd := fun zz => by rw [zz, L.tab] at hp; cases hp
    dsimp only
    refine ⟨_, rfl, q1 l hl T _ (fun b o hb e => ?_) ⟨⟨dx, ?_⟩, upd_same, fun l2 hl2 => ?_, Ok.renew L.ok hmem⟩⟩
    · rw [upd_ne (fun zz => hb (by simp [zz]))]
      exact s3 _ _ e
    · rw [upd_ne hpd]
      exact hp3
    · have tn : ∀ b xs, H3 b = some (.tup xs) → (upd H3 hd (.dK (kvsOf (m.renew l u T).held))) b = some (.tup xs) := fun b xs e => by
        rw [upd_ne (fun zz => by rw [zz, ht3] at e; cases e)]
        exact e
      obtain ⟨y, hy, rfl⟩ := List.mem_map.mp hl2
      by_cases h : y.num = l.num
      · rw [if_pos h]
        exact tn _ _ e3
      · rw [if_neg h]
        exact tn _ _ (s3 _ _ (L.row y hy))
def spClose (K : PySem.W.Frag) (C : Addr) (D : Nat → Addr) : Sp := fun vs H Q E => ∃ (p hd : Addr) (m : Ls) (x : V), vs = [.ref p, x] ∧ LsAt C H p hd m ∧ Any K H x ∧ (∀ l, m.of x = some l → ∀ H', Chg [p, hd] H H' → LsAt C H' p hd (m.close l) → H' l.at_ = some (.tup l.row) → Q (.ref l.at_) H') ∧ (m.of x = none → E (.ref (D 2)) none H)
theorem ok_close {f : Addr} {fd : FuncData} (F : Fun K "close" "Leases.close" s_Leases_close f fd) (S : LCls K mg C) (km_of : KnowsM (CX1 P w base) P w K mg base 2 C "of" ["self", "number"] (spOf K C D)) : FnOk P w K mg base (CX1 P w base) 3 f fd ["self", "number"] (spClose K C D) := by
  refine F.okX sc_Leases_close (fun vs H Q E h => ?_) (fun cdv A outer s H vs Q E hr h => ?_)
  · obtain ⟨p, hd, m, x, rfl, _⟩ := h
    rfl
  · obtain ⟨p, hd, m, x, rfl, L, an, q1, q2⟩ := h
    obtain ⟨dx, hp⟩ := L.obj
    refine ⟨_, by exact (pss_cons (ps_set (i := 2) sc_Leases_close.nd rfl (Or.inl rfl) (pe_methM km_of S.cl hr passes_on (pv 0) (pa_c (pv 1) pa_nil)))
      (pss_cons (ps_expr (pe_dpop1 (pe_fld (pv 0) rfl) (pv 1) ⟨rfl, by rfl, rfl, rfl⟩))
      (pss_one (ps_ret (pv 2))))), ?_⟩
    refine ⟨_, rfl, p, dx, _, rfl, hp, rfl, _, rfl, p, hd, m, x, rfl, L, an, fun l hl => ?_, q2⟩
    dsimp only [gName]
    obtain ⟨hmem, rfl⟩ := of_some hl
    have hpd : p ≠ hd := fun zz => by rw [zz, L.tab] at hp; cases hp
    refine ⟨_, rfl, p, C, dx, _, _, rfl, hp, S.cl, S.n3, rfl, hd, rfl, .inl ⟨_, .inl L.tab⟩, _, rfl, _, .inl (l.num : Int), .ref l.at_, L.tab, rfl, by rw [val_kvs, hl]; rfl, ?_⟩
    rw [drop_kvs]
    dsimp only
    have tn : ∀ b xs, H b = some (.tup xs) → (upd H hd (.dK (kvsOf (m.close l).held))) b = some (.tup xs) := fun b xs e => by
      rw [upd_ne (fun zz => by rw [zz, L.tab] at e; cases e)]
      exact e
    refine ⟨_, rfl, q1 l hl _ (fun b o hb e => ?_) ⟨⟨dx, ?_⟩, upd_same, fun l2 hl2 => tn _ _ (L.row l2 (List.mem_filter.mp hl2).1), Ok.close L.ok l⟩ (tn _ _ (L.row l hmem))⟩
    · rw [upd_ne (fun zz => hb (by simp [zz]))]
      exact e
    · rw [upd_ne hpd]
      exact hp
def spRows (C : Addr) : Sp := fun vs H Q _ => ∃ (p hd : Addr) (m : Ls), vs = [.ref p] ∧ LsAt C H p hd m ∧ ∀ q H', Same H H' → H q = none → H' q = some (.lst (m.held.map fun l => V.ref l.at_)) → Q (.ref q) H'
theorem ok_rows {f : Addr} {fd : FuncData} (F : Fun K "rows" "Leases.rows" s_Leases_rows f fd) (S : LCls K mg C) (B : Bltn mg) : FnOk P w K mg base CX0 1 f fd ["self"] (spRows C) := by
  refine F.ok sc_Leases_rows (fun vs H Q E h => ?_) (fun cdv A outer s H vs Q E hr h => ?_)
  · obtain ⟨p, hd, m, rfl, _⟩ := h
    rfl
  · obtain ⟨p, hd, m, rfl, L, q⟩ := h
    obtain ⟨dx, hp⟩ := L.obj
    refine ⟨_, by exact (pss_one (ps_ret (pe_tcall (call_listV rfl) rfl B.list boot_list (pa_c (pe_dvals (pe_fld (pv 0) rfl) ⟨rfl, by rfl, rfl, rfl⟩) pa_nil)))), ?_⟩
    refine ⟨_, rfl, p, C, dx, _, _, rfl, hp, S.cl, S.n3, rfl, hd, kvsOf m.held, rfl, L.tab, fun r hrn => ⟨r, hd, kvsOf m.held, rfl, upd_same, same_of hrn _ _ L.tab, fun l hl => ?_⟩⟩
    refine q l _ ((same_of hrn).trans (same_of hl)) ((same_of hrn : Same H _).free hl) ?_
    rw [upd_same]
    unfold kvsOf
    rw [List.map_map]
    rfl
end
end K09

set_option Elab.async false
set_option linter.all false
set_option maxRecDepth 100000
set_option maxHeartbeats 4000000
set_option pp.maxSteps 600
set_option pp.deepTerms false
namespace K09
open PySem L2 PyProof.Rows
theorem join_le (z : Str) (ys : List Str) {n m : Nat} (h1 : ys.length ≤ n) (h2 : ∀ y ∈ ys, y.length ≤ m) : (ys.map (·.length)).sum + ys.length * z.length ≤ n * (m + z.length) := by
  have h : ∀ l : List Str, (∀ y ∈ l, y.length ≤ m) → (l.map (·.length)).sum + l.length * z.length ≤ l.length * (m + z.length) := by
    intro l
    induction l with
    | nil => intro _; simp
    | cons y r ih =>
      intro hh
      have a := hh y List.mem_cons_self
      have b := ih fun x hx => hh x (List.mem_cons_of_mem _ hx)
      rw [List.map_cons, List.sum_cons, List.length_cons, Nat.add_mul, Nat.add_mul, Nat.one_mul, Nat.one_mul]
      omega
  exact Nat.le_trans (h ys h2) (Nat.mul_le_mul_right _ h1)
theorem txt_join_len (z : Str) (ys : List Str) {k : Nat} (h : (ys.map (·.length)).sum + ys.length * z.length ≤ k) : (Txt.join z ys).length ≤ k := by
  have e : Txt.join z ys = Str.join z ys := StrLaws.glued_eq_join z ys
  rw [e]
  exact Nat.le_trans (StrLaws.join_length_le z ys) h


abbrev Sm (c : Int) : Prop := Builtin.Int.intBits c ≤ 1048576
theorem sm0 : Sm 0 := by decide
structure Bw (mg : Str → Option Value) : Prop where
  b : Bltn mg
  set : mg "set" = none
  enum : mg "enumerate" = none
section
variable {P : Program} {w : World} {K : PySem.W.Frag} {mg : Str → Option Value} {base : Heap} {C : Addr} {D : Nat → Addr}
def spCell (K : PySem.W.Frag) : Sp := fun vs H Q _ => ∃ (a : Addr) (ns : List Int) (k : Nat), vs = [.ref a, .int k] ∧ SqL K H a (ns.map V.int) ∧ (∀ v ∈ ns, Sm v) ∧ ∀ c, Sm c → Q (.int c) H
theorem ok_cell (D : Def K mg "_law_cell_at" s__law_cell_at ["_law_script", "_law_k"]) (B : Bltn mg) : Knows P w K mg base 1 "_law_cell_at" ["_law_script", "_law_k"] (spCell K) := by
  refine D.ok sc__law_cell_at (fun vs H Q E h => ?_) (fun f cdv A outer s H vs Q E hr h => ?_)
  · obtain ⟨a, ns, k, rfl, _⟩ := h
    rfl
  · obtain ⟨a, ns, k, rfl, hS, hsm, q⟩ := h
    refine ⟨_, by exact (pss_cons (ps_if (pt_cmpR op_lt (pv 1) (pe_bcall call_len_seq rfl B.len PySem.boot_len (pa_c (pv 0) pa_nil)) (nomark _)) (pss_one (ps_ret (pe_ix ix_list (pv 0) (pv 1) (fun _ _ => rfl)))) pss_nil)
      (pss_one (ps_ret pe_int))), ?_⟩
    refine ⟨_, rfl, _, rfl, a, _, rfl, .inl hS, _, _, rfl, rfl, _, rfl, ?_⟩
    refine ite2 (fun hlt => ?_) (fun _ => ?_)
    · have h1 : (k : Int) < (ns.map V.int).length := of_decide_eq_true hlt
      obtain ⟨v, hv, hmem, _⟩ := atI_mem (xs := ns.map V.int) (Int.natCast_nonneg k) h1
      obtain ⟨c, hc, rfl⟩ := List.mem_map.mp hmem
      exact ⟨_, rfl, _, rfl, a, _, _, _, rfl, rfl, hS, hv, q c (hsm c hc)⟩
    · exact q 0 sm0
def spMixed : Sp := fun vs H Q _ => ∃ (c : Int) (k : Nat), vs = [.int c, .int k] ∧ Sm c ∧ k ≤ 1000 ∧ ∀ m, Q (.int m) H
theorem ok_mixed (D : Def K mg "_law_mixed" s__law_mixed ["_law_cell", "_law_k"]) : Knows P w K mg base 1 "_law_mixed" ["_law_cell", "_law_k"] spMixed := by
  refine D.ok sc__law_mixed (fun vs H Q E h => ?_) (fun f cdv A outer s H vs Q E hr h => ?_)
  · obtain ⟨c, k, rfl, _⟩ := h
    rfl
  · obtain ⟨c, k, rfl, hsm, hk, q⟩ := h
    refine ⟨_, by exact (pss_one (ps_ret (pe_op op_mod (pe_op op_mul (pe_op op_powS (pe_op op_add (pe_op op_add (pv 0) (pe_op op_mul pe_int (pv 1))) pe_int) pe_int) pe_int) pe_int))), ?_⟩
    have hb1 : Builtin.Int.intBits (7919 * (k : Int)) ≤ 64 := intBits_le_64 (by omega) (by omega)
    have hb2 : Builtin.Int.intBits (c + 7919 * (k : Int)) ≤ 1048577 := Nat.le_trans (intBits_add_le hsm hb1) (by decide)
    have hb3 : Builtin.Int.intBits (c + 7919 * (k : Int) + 1) ≤ 1048578 := Nat.le_trans (intBits_add_le hb2 (show Builtin.Int.intBits 1 ≤ 1 by decide)) (by decide)
    refine ⟨_, rfl, _, rfl, _, _, rfl, rfl, .inl ⟨by walk_at "m", by walk_at "m"⟩, _, _, rfl, rfl, _, _, rfl, rfl, _, _, rfl, rfl, ⟨by decide, ?_⟩, _, _, rfl, rfl, .inr ⟨by walk_at "m", by walk_at "m"⟩, _, _, rfl, rfl, (by walk_at "m"), q _⟩
    show (Builtin.Int.intBits (c + 7919 * (k : Int) + 1) : Int) * 3 ≤ 2 ^ 27
    omega
/-- signs -/
def Signs (ys : List V) : Prop := ∃ zs : List Str, ys = zs.map V.str ∧ ∀ z ∈ zs, z.length ≤ 1
theorem Signs.nil : Signs [] := ⟨[], rfl, by simp⟩
theorem Signs.snoc {ys : List V} {c : Nat} (h : Signs ys) : Signs (ys ++ [.str ⟨#[c]⟩]) := by
  obtain ⟨zs, rfl, hh⟩ := h
  refine ⟨zs ++ [⟨#[c]⟩], by simp, fun y hy => ?_⟩
  rcases List.mem_append.mp hy with hy | hy
  · exact hh y hy
  · rw [List.mem_singleton.mp hy]
    show 1 ≤ 1
    decide
theorem Signs.cut {ys : List V} {lo hi : Option Int} (h : Signs ys) : Signs (cutV ys lo hi) := by
  obtain ⟨zs, rfl, hh⟩ := h
  unfold cutV
  refine ⟨((zs.drop (HT.sIx (zs.map V.str).length 0 lo)).take (HT.sIx (zs.map V.str).length (zs.map V.str).length hi - HT.sIx (zs.map V.str).length 0 lo)), by rw [List.map_take, List.map_drop], fun z hz => hh z (List.mem_of_mem_drop (List.mem_of_mem_take hz))⟩
theorem Signs.set {ys : List V} {j : Nat} {c : Nat} (h : Signs ys) : Signs (ys.set j (.str ⟨#[c]⟩)) := by
  obtain ⟨zs, rfl, hh⟩ := h
  refine ⟨zs.set j ⟨#[c]⟩, by rw [List.map_set], fun z hz => ?_⟩
  rcases List.mem_or_eq_of_mem_set hz with h | h
  · exact hh z h
  · rw [h]
    show 1 ≤ 1
    decide
theorem let_at {i : Int} : ∃ c, atI LET.cps.toList (i % 26) = some c := by
  obtain ⟨c, hc, _, _⟩ := atI_mem (xs := LET.cps.toList) (i := i % 26) (Int.emod_nonneg _ (by decide)) (by
    have e : LET.cps.toList.length = 26 := by decide +kernel
    rw [e]; exact Int.emod_lt_of_pos _ (by decide))
  exact ⟨c, hc⟩
theorem ixN_nat {n : Nat} {a : Int} (h0 : 0 ≤ a) (h1 : a < n) : ixN n a = some a.toNat := by
  unfold ixN
  rw [if_pos h0, if_pos (by omega)]
def spNames : Sp := fun vs H Q _ => ∃ c : Int, vs = [.int c] ∧ Sm c ∧ ∀ l (zs : List Str) H', Same H H' → H' l = some (.lst (zs.map V.str)) → zs.length = 8 → (∀ z ∈ zs, z.length ≤ 100) → Q (.ref l) H'
theorem ok_names (Df : Def K mg "_law_names" s__law_names ["_law_cell"]) (B : Bw mg) (k_mixed : Knows P w K mg base 1 "_law_mixed" ["_law_cell", "_law_k"] spMixed) : Knows P w K mg base 2 "_law_names" ["_law_cell"] spNames := by
  refine Df.ok sc__law_names (fun vs H Q E h => ?_) (fun f cdv A outer s H vs Q E hr h => ?_)
  · obtain ⟨c, rfl, _⟩ := h
    rfl
  · obtain ⟨c, rfl, hsm, q⟩ := h
    refine ⟨_, by exact (pss_cons (ps_set (i := 1) sc__law_names.nd rfl (Or.inr rfl) pe_str)
      (pss_cons (ps_set (i := 2) sc__law_names.nd rfl (Or.inl rfl) (pe_op op_add pe_int (pe_op op_mod (pe_op op_fdiv (pv 0) pe_int) pe_int)))
      (pss_cons (ps_setC (i := 3) [0, 1] ["_law_j", "_law_cell", "_law_letters"] sc__law_names.nd rfl (Or.inl rfl) rfl (pi_range1 rfl B.b.range (pa_c pe_int pa_nil)) (fun _ _ _ _ => pts_nil) (fun _ _ _ _ => (pe_ix ix_str (pv 2) (pe_op op_mod (pe_callM k_mixed hr (pa_c (pv 1) (pa_c (pe_op op_add pe_int (pv 0)) pa_nil))) pe_int) (fun _ _ => rfl))))
      (pss_cons (ps_set (i := 4) sc__law_names.nd rfl (Or.inl rfl) (pe_op op_mod (pe_op op_fdiv (pv 0) pe_int) (pv 2)))
      (pss_cons (ps_set (i := 5) sc__law_names.nd rfl (Or.inl rfl) (pe_lst pa_nil))
      (pss_cons (ps_for PassesOwn.never rfl (pi_range1 rfl B.b.range (pa_c pe_int pa_nil)) (pg_name (i := 6) sc__law_names.nd rfl (Or.inr rfl)) (pss_cons (ps_set (i := 7) sc__law_names.nd rfl (Or.inl rfl) (pe_slice sl_list (pv 3) po_none (po_some (pv 2))))
      (pss_cons (ps_asg (pe_ix ix_str (pv 1) (pe_op op_mod (pe_op op_add (pe_op op_fdiv (pv 0) pe_int) (pe_op op_mul pe_int (pv 6))) pe_int) (fun _ _ => rfl)) (pg_sub (pv 7) (pv 4) set_list))
      (pss_cons (ps_if (pt_cmpR op_eq (pe_op op_mod (pv 0) pe_int) pe_int (nomark _)) (pss_one (ps_set (i := 7) sc__law_names.nd rfl (Or.inl rfl) (pe_slice sl_list (pv 3) po_none (po_some (pe_op op_add pe_int (pe_op op_mod (pe_op op_add (pv 6) (pe_op op_fdiv (pv 0) pe_int)) pe_int)))))) pss_nil)
      (pss_cons (ps_if (pt_cmpR op_eq (pe_op op_mod (pv 0) pe_int) pe_int (nomark _)) (pss_cons (ps_set (i := 8) sc__law_names.nd rfl (Or.inl rfl) (pe_op op_add pe_int (pe_op op_mod (pe_callM k_mixed hr (pa_c (pv 0) (pa_c (pe_op op_add pe_int (pv 6)) pa_nil))) pe_int)))
      (pss_cons (ps_setC (i := 7) [0, 6] ["_law_j", "_law_cell", "_law_k"] sc__law_names.nd rfl (Or.inl rfl) rfl (pi_range1 rfl B.b.range (pa_c (pv 8) pa_nil)) (fun _ _ _ _ => pts_nil) (fun _ _ _ _ => (pe_op op_mod (pe_callM k_mixed hr (pa_c (pv 1) (pa_c (pe_op op_add (pe_op op_mul pe_int (pv 2)) (pv 0)) pa_nil))) pe_int)))
      (pss_one (ps_setC (i := 7) [1] ["_law_j", "_law_letters"] sc__law_names.nd rfl (Or.inl rfl) rfl (pi_list (pv 7)) (fun _ _ _ _ => pts_nil) (fun _ _ _ _ => (pe_ix ix_str (pv 1) (pv 0) (fun _ _ => rfl))))))) pss_nil)
      (pss_one (ps_expr (pe_mcall PySem.F.plainAttrs_list PySem.F.slot_list_append PySem.F.type_list_append mt_append (pv 5) (pa_c (pe_mcall PySem.F.plainAttrs_str PySem.F.slot_str_join PySem.F.type_str_join mt_join pe_str (pa_c (pv 7) pa_nil)) pa_nil)))))))))
      (pss_one (ps_ret (pe_ifExp (pt_cmpR op_eq (pe_lenset rfl B.b.len B.set (pv 5)) pe_int (nomark _)) (pv 5) (pe_lst (pa_c pe_str (pa_c pe_str (pa_c pe_str (pa_c pe_str (pa_c pe_str (pa_c pe_str (pa_c pe_str (pa_c pe_str pa_nil)))))))))))))))))), ?_⟩
    have z0 : 0 ≤ c / 3 % 12 := Int.emod_nonneg _ (by decide)
    have z1 : c / 3 % 12 < 12 := Int.emod_lt_of_pos _ (by decide)
    dsimp only [gName]
    refine ⟨_, rfl, _, _, rfl, rfl, by walk_at "m", _, _, rfl, rfl, by walk_at "m", _, _, rfl, rfl, ?_⟩
    dsimp only [gName]
    have ez : ∃ sz : Nat, (1 : Int) + c / 3 % 12 = (sz : Int) ∧ 1 ≤ sz ∧ sz ≤ 12 := ⟨(1 + c / 3 % 12).toNat, by omega, by omega, by omega⟩
    obtain ⟨sz, ez, sz1, sz2⟩ := ez
    rw [ez]
    refine seq_use (fun v H' => ∃ (l : Addr) (ys : List V), v = .ref l ∧ H' l = some (.lst ys) ∧ Signs ys ∧ ys.length = 12 ∧ Same H H') (fun Q' kk => ?_) ?_
    · refine ⟨12, rfl, by decide, by decide, ?_⟩
      refine comp1_wk (wk_range 0 12) (fun i ys H4 => H4 = H ∧ ys.length = i ∧ Signs ys) ⟨rfl, rfl, .nil⟩ (fun i ys H4 _ p => ⟨trivial, Nat.le_of_eq p.2.1⟩) (by rw [rangeV_length]; decide) ?_ ?_
      · rintro i x ys H4 Nx hx ⟨rfl, hl, ht⟩ hN
        have hi := (List.getElem?_eq_some_iff.mp hx).1
        rw [rangeV_length] at hi
        obtain ⟨m, hm, rfl⟩ := List.mem_map.mp (List.mem_of_getElem? hx)
        have hm1 := List.mem_range.mp hm
        refine tTrue_use ?_
        have ek : (40 : Int) + (0 + (m : Int)) = ((40 + m : Nat) : Int) := by omega
        refine ⟨_, rfl, _, rfl, _, rfl, _, _, rfl, rfl, c, 40 + m, (by show [V.int c, V.int ((40 : Int) + (0 + (m : Int)))] = _; rw [ek]), hsm, by omega, fun mm => ⟨_, _, rfl, rfl, by walk_at "m", ?_⟩⟩
        obtain ⟨cc, hc⟩ := let_at (i := mm)
        exact ⟨_, _, cc, rfl, rfl, by decide +kernel, hc, hN _ _ ⟨rfl, by simp [hl], ht.snoc⟩⟩
      · rintro ys H4 ⟨rfl, hl, ht⟩ p hp
        exact kk _ _ ⟨p, ys, rfl, upd_same, ht, by rw [hl, rangeV_length], same_of hp⟩
    rintro _ H1 ⟨R, ys, rfl, hR, sR, lR, s1⟩
    dsimp only [gName]
    have szp : (0 : Int) < (sz : Int) := by omega
    refine ⟨_, rfl, _, _, rfl, rfl, by walk_at "m", _, rfl, _, _, rfl, rfl, szp, ?_⟩
    dsimp only [gName]
    have a0 : 0 ≤ c / 36 % (sz : Int) := Int.emod_nonneg _ (by omega)
    have a1 : c / 36 % (sz : Int) < (sz : Int) := Int.emod_lt_of_pos _ szp
    generalize c / 36 % (sz : Int) = at_ at a0 a1
    refine ⟨by decide, fun F hF => ?_⟩
    dsimp only [gName]
    have s2 : Same H1 (upd H1 F (.lst [])) := same_of hF
    have e2 : (upd H1 F (.lst [])) F = some (.lst (([] : List Str).map V.str)) := upd_same
    have newF : H F = none := s1.free hF
    have RF : R ≠ F := ne_of_none hR hF
    generalize upd H1 F (.lst []) = H2 at s2 e2
    refine ⟨8, rfl, by decide, by decide, ?_⟩
    refine for_range (n := 8) (fun i σ H' => ∃ (zs : List Str) (v6 v7 v8 : Option V), H' F = some (.lst (zs.map V.str)) ∧ zs.length = i ∧ (∀ y ∈ zs, y.length ≤ 100) ∧ H' R = some (.lst ys) ∧ Same H H' ∧ σ = [some (.int c), some (.str LET), some (.int (sz : Int)), some (.ref R), some (.int at_), some (.ref F), v6, v7, v8]) ⟨[], _, _, _, e2, rfl, (fun y hy => by cases hy), s2 _ _ hR, s1.trans s2, rfl⟩ ?_ ?_
    · rintro i σ H3 hi ⟨zs, v6, v7, v8, eF, lF, zF, eR, s3, rfl⟩
      dsimp only [gName]
      refine seq_use (fun v H' => ∃ (l : Addr) (us : List V), v = .ref l ∧ H' l = some (.lst us) ∧ Signs us ∧ us.length = sz ∧ Same H3 H' ∧ H3 l = none) (fun Q' kk => ?_) ?_
      · refine ⟨_, rfl, _, rfl, _, rfl, R, _, rfl, SqL.of eR, fun l hl => kk _ _ ⟨l, _, rfl, upd_same, sR.cut, ?_, same_of hl, hl⟩⟩
        unfold cutV
        rw [List.length_take, List.length_drop, lR]
        have g1 : HT.sIx 12 0 none = 0 := rfl
        have g2 : HT.sIx 12 12 (some (sz : Int)) = min sz 12 := HT.sIx_nat 12 12 sz
        rw [g1, g2]
        omega
      rintro _ H4 ⟨l, us, rfl, el, sU, lU, s4, nl⟩
      dsimp only [gName]
      obtain ⟨cc, hc⟩ := let_at (i := c / 432 + 3 * (0 + (i : Int)))
      refine ⟨_, rfl, _, rfl, _, _, rfl, rfl, by walk_at "m", _, rfl, _, _, rfl, rfl, .inl ⟨by decide, by decide⟩, _, _, rfl, rfl, _, _, rfl, rfl, by walk_at "m", _, _, cc, rfl, rfl, by decide +kernel, hc, ?_⟩
      refine ⟨_, rfl, _, rfl, l, us, _, at_.toNat, rfl, rfl, el, ixN_nat a0 (by rw [lU]; exact a1), ?_⟩
      have s5 : Same H3 (upd H4 l (.lst (us.set at_.toNat (.str ⟨#[cc]⟩)))) := s4.upd nl
      have e5 : (upd H4 l (.lst (us.set at_.toNat (.str ⟨#[cc]⟩)))) l = some (.lst (us.set at_.toNat (.str ⟨#[cc]⟩))) := upd_same
      have sV : Signs (us.set at_.toNat (.str ⟨#[cc]⟩)) := sU.set
      have lV : (us.set at_.toNat (.str ⟨#[cc]⟩)).length ≤ 12 := by rw [List.length_set]; omega
      generalize upd H4 l (.lst (us.set at_.toNat (.str ⟨#[cc]⟩))) = H5 at s5 e5
      generalize us.set at_.toNat (.str ⟨#[cc]⟩) = ws at e5 sV lV
      dsimp only
      refine stm_use (t := tIfS _ _ _) (fun σ' H' => ∃ (l : Addr) (us : List V) (v6 v8 : Option V), H' l = some (.lst us) ∧ Signs us ∧ us.length ≤ 12 ∧ Same H3 H' ∧ σ' = [some (.int c), some (.str LET), some (.int (sz : Int)), some (.ref R), some (.int at_), some (.ref F), some (.int (0 + (i : Int))), some (.ref l), v8]) (fun Q' kk => ?_) ?_
      · refine ⟨_, rfl, _, _, rfl, rfl, by walk_at "m", rfl, _, rfl, ite2 (fun _ => ?_) (fun _ => ?_)⟩
        · refine ⟨_, rfl, _, rfl, _, rfl, _, _, rfl, rfl, by walk_at "m", _, _, rfl, rfl, _, _, rfl, rfl, by walk_at "m", _, _, rfl, rfl, _, rfl, R, _, rfl, SqL.of (s5 _ _ eR), fun l2 hl2 => ?_⟩
          exact kk _ _ ⟨l2, _, none, _, upd_same, sR.cut, Nat.le_trans (cutV_length _ _ _) (by rw [lR]; exact Nat.le_refl _), s5.trans (same_of hl2), rfl⟩
        · exact kk _ _ ⟨l, ws, none, _, e5, sV, lV, s5, rfl⟩
      rintro σ' H6 ⟨l6, u6, _, v8', e6, sG6, lG6, s6, rfl⟩
      refine stm_use (t := tIfS _ _ _) (fun σ' H' => ∃ (l : Addr) (us : List V) (v8 : Option V), H' l = some (.lst us) ∧ Signs us ∧ us.length ≤ 12 ∧ Same H3 H' ∧ σ' = [some (.int c), some (.str LET), some (.int (sz : Int)), some (.ref R), some (.int at_), some (.ref F), some (.int (0 + (i : Int))), some (.ref l), v8]) (fun Q' kk => ?_) ?_
      · refine ⟨_, rfl, _, _, rfl, rfl, by walk_at "m", rfl, _, rfl, ite2 (fun _ => ?_) (fun _ => ?_)⟩
        · have ek : (99 : Int) + (0 + (i : Int)) = ((99 + i : Nat) : Int) := by omega
          refine ⟨_, rfl, _, rfl, _, _, rfl, rfl, c, 99 + i, (by show [V.int c, V.int ((99 : Int) + (0 + (i : Int)))] = _; rw [ek]), hsm, by omega, fun mm => ⟨_, _, rfl, rfl, by walk_at "m", _, _, rfl, rfl, ?_⟩⟩
          dsimp only [gName]
          have m0 : 0 ≤ mm % 12 := Int.emod_nonneg _ (by decide)
          have m1 : mm % 12 < 12 := Int.emod_lt_of_pos _ (by decide)
          generalize hlg : (1 : Int) + mm % 12 = lg
          refine seq_use (fun v H' => ∃ (l : Addr) (ns : List Int), v = .ref l ∧ H' l = some (.lst (ns.map V.int)) ∧ (∀ n ∈ ns, ∃ y, n = y % 26) ∧ ns.length ≤ 12 ∧ Same H6 H') (fun Q2 k2 => ?_) ?_
          · refine ⟨_, rfl, lg, rfl, by omega, by omega, ?_⟩
            refine comp1_wk (wk_range 0 lg.toNat) (fun j ys H' => H' = H6 ∧ ∃ ns : List Int, ys = ns.map V.int ∧ ns.length = j ∧ ∀ n ∈ ns, ∃ y, n = y % 26) ⟨rfl, [], rfl, rfl, by simp⟩ (fun j ys H' _ p => ⟨trivial, by obtain ⟨_, ns, e, el, _⟩ := p; rw [e, List.length_map, el]; exact Nat.le_refl _⟩) (by rw [rangeV_length]; exact Nat.le_trans (show lg.toNat ≤ 1000 by omega) (by decide)) ?_ ?_
            · rintro j x ys' H' Nx hx ⟨rfl, ns, rfl, hl, hall⟩ hN
              have hj := (List.getElem?_eq_some_iff.mp hx).1
              rw [rangeV_length] at hj
              obtain ⟨m, hm, rfl⟩ := List.mem_map.mp (List.mem_of_getElem? hx)
              have hm1 := List.mem_range.mp hm
              refine tTrue_use ?_
              have ek : 12 * (0 + (i : Int)) + (0 + (m : Int)) = ((12 * i + m : Nat) : Int) := by omega
              refine ⟨_, rfl, _, rfl, _, _, rfl, rfl, .inl ⟨by decide, by decide⟩, _, rfl, _, _, rfl, rfl, c, 12 * i + m, (by show [V.int c, V.int (12 * (0 + (i : Int)) + (0 + (m : Int)))] = _; rw [ek]), hsm, by omega, fun mm2 => ⟨_, _, rfl, rfl, by walk_at "m", hN _ _ ⟨rfl, ns ++ [mm2 % 26], by simp, by simp [hl], fun n hn => ?_⟩⟩⟩
              rcases List.mem_append.mp hn with h | h
              · exact hall n h
              · exact ⟨mm2, List.mem_singleton.mp h⟩
            · rintro ys' H' ⟨rfl, ns, rfl, hl, hall⟩ p hp
              refine k2 _ _ ⟨p, ns, rfl, upd_same, hall, ?_, same_of hp⟩
              rw [rangeV_length] at hl
              omega
          rintro _ H7 ⟨l7, ns, rfl, e7, hall, ln, s7⟩
          dsimp only [gName]
          refine ⟨_, rfl, l7, rfl, ⟨_, SqL.of e7⟩, ?_⟩
          refine comp1_wk (wk_list K l7 (ns.map V.int)) (fun j ys H' => H' = H7 ∧ ys.length = j ∧ Signs ys) ⟨rfl, rfl, .nil⟩ (fun j ys H' _ p => ⟨by rw [p.1]; exact SqL.of e7, Nat.le_of_eq p.2.1⟩) (by rw [List.length_map]; exact Nat.le_trans ln (by decide)) ?_ ?_
          · rintro j x ys' H' Nx hx ⟨rfl, hl, ht⟩ hN
            rw [List.getElem?_map] at hx
            obtain ⟨n, hn, rfl⟩ := Option.map_eq_some_iff.mp hx
            obtain ⟨y, rfl⟩ := hall n (List.mem_of_getElem? hn)
            refine tTrue_use ?_
            obtain ⟨cc, hc⟩ := let_at (i := y)
            exact ⟨_, rfl, _, rfl, _, _, cc, rfl, rfl, by decide +kernel, hc, hN _ _ ⟨rfl, by simp [hl], ht.snoc⟩⟩
          · rintro ys' H' ⟨rfl, hl, ht⟩ p hp
            refine kk _ _ ⟨p, ys', _, upd_same, ht, ?_, (s6.trans s7).trans (same_of hp), rfl⟩
            rw [hl, List.length_map]
            exact ln
        · exact kk _ _ ⟨l6, u6, _, e6, sG6, lG6, s6, rfl⟩
      rintro σ' H8 ⟨l8, u8, v8'', e8, sG8, lG8, s8, rfl⟩
      obtain ⟨ts, rfl, ht8⟩ := sG8
      have hlt8 : ts.length ≤ 15 := by rw [List.length_map] at lG8; omega
      have hj := join_le "" ts hlt8 ht8
      have e0 : ("" : Str).length = 0 := by decide +kernel
      rw [e0] at hj
      refine ⟨_, rfl, .inl ⟨rfl, _, SqL.of (s8 _ _ eF)⟩, rfl, _, rfl, _, l8, ts, rfl, rfl, SqL.of e8, by rw [e0]; omega, F, _, _, rfl, rfl, s8 _ _ eF, by rw [List.length_map, lF]; exact Nat.lt_of_lt_of_le (show i < 1000 by omega) (by decide), ?_⟩
      refine ⟨zs ++ [Txt.join "" ts], _, _, _, ?_, by rw [List.length_append, lF]; rfl, fun y hy => ?_, ?_, (s3.trans s8).upd newF, rfl⟩
      · rw [upd_same, List.map_append]
        rfl
      · rcases List.mem_append.mp hy with h | h
        · exact zF y h
        · rw [List.mem_singleton.mp h]
          exact txt_join_len _ _ (by rw [e0]; omega)
      · rw [upd_ne RF]
        exact s8 _ _ eR
    · rintro σ H3 ⟨zs, v6, v7, v8, eF, lF, zF, eR, s3, rfl⟩
      refine ⟨_, rfl, F, zs.map Sum.inr, rfl, ?_, ?_, rfl, _, rfl, ite2 (fun _ => ?_) (fun _ => ?_)⟩
      · rw [List.map_map]
        exact SqL.of eF
      · rw [List.length_map, lF]
        decide
      · exact ⟨_, rfl, q F zs _ s3 eF lF zF⟩
      · exact ⟨by show 8 ≤ sizeLine; decide, fun l hl => q l ["a", "ab", "abc", "b", "ba", "bb", "c", "cab"] _ (s3.trans (same_of hl)) upd_same rfl (by decide +kernel)⟩
end
end K09

set_option Elab.async false
set_option linter.all false
set_option maxRecDepth 100000
set_option maxHeartbeats 4000000
set_option pp.maxSteps 600
set_option pp.deepTerms false
namespace K09
open PySem L2 PyProof.Rows
def rowD (l : Lse) : L2.D := .t [.a (.int (l.num : Int)), .a (.int l.place), .a (.str l.worker), .a (.int l.turn), .a (.int l.fin)]
theorem row_rep {K : PySem.W.Frag} {H : Hp} {l : Lse} (h : H l.at_ = some (.tup l.row)) : Rep K H (.ref l.at_) (rowD l) :=
  .t (SqT.of h) (.cons (.a rfl) (.cons (.a rfl) (.cons (.a rfl) (.cons (.a rfl) (.cons (.a rfl) .nil)))))
theorem dep_rows (hs : List Lse) : depDs (hs.map rowD) ≤ 1 := by
  induction hs with
  | nil => show depDs [] ≤ 1; unfold depDs; decide
  | cons x r ih =>
    rw [List.map_cons]
    unfold depDs
    have : depD (rowD x) = 1 := by simp [rowD, depD, depDs]
    omega
/-- a lease that stands elsewhere -/
def reL (g : Nat → Addr) (l : Lse) : Lse := ⟨l.num, l.place, l.worker, l.turn, l.fin, g l.num⟩
def Ls.re (g : Nat → Addr) (m : Ls) : Ls := ⟨m.term, m.given, m.held.map (reL g)⟩
theorem re_by {g : Nat → Addr} {m : Ls} {z : Str} : (m.re g).by_ z = (m.by_ z).map (reL g) := by
  unfold Ls.by_ Ls.re
  rw [List.find?_map]
  rfl
theorem re_of {g : Nat → Addr} {m : Ls} {n : Int} : (m.re g).of (.int n) = (m.of (.int n)).map (reL g) := by
  unfold Ls.of Ls.re
  dsimp only
  rw [List.find?_map]
  rfl
/-- alike but for the places -/
def Alk (m M : Ls) : Prop := ∃ g, M = m.re g
theorem re_take {g : Nat → Addr} {m : Ls} (ok : m.Ok) {a : Int} {z : Str} {u : Int} {T T' : Addr} : (m.re g).take a z u T' = (m.take a z u T).re (fun n => if n = m.given then T' else g n) := by
  unfold Ls.take Ls.re
  dsimp only
  rw [List.map_append]
  congr 2
  · refine List.map_congr_left fun l hl => ?_
    unfold reL
    dsimp only
    rw [if_neg (Nat.ne_of_lt (ok.lt l hl))]
  · show [_] = [reL _ _]
    unfold reL
    dsimp only
    rw [if_pos rfl]
theorem re_renew {g : Nat → Addr} {m : Ls} {l : Lse} {u : Int} {T T' : Addr} : (m.re g).renew (reL g l) u T' = (m.renew l u T).re (fun n => if n = l.num then T' else g n) := by
  unfold Ls.renew Ls.re
  dsimp only
  rw [List.map_map, List.map_map]
  congr 1
  refine List.map_congr_left fun x hx => ?_
  show (if (reL g x).num = (reL g l).num then _ else reL g x) = reL _ (if x.num = l.num then _ else x)
  by_cases h : x.num = l.num
  · rw [if_pos h, if_pos (show (reL g x).num = (reL g l).num from h)]
    unfold reL
    dsimp only
    rw [if_pos rfl]
  · rw [if_neg h, if_neg (show ¬ (reL g x).num = (reL g l).num from h)]
    unfold reL
    dsimp only
    rw [if_neg h]
theorem re_close {g : Nat → Addr} {m : Ls} {l : Lse} : (m.re g).close (reL g l) = (m.close l).re g := by
  unfold Ls.close Ls.re
  dsimp only
  rw [List.filter_map]
  rfl
/-- what a deed tells and leaves -/
def Ls.deed (m : Ls) (way : Nat) (n : Int) (z : Str) (u : Int) (T : Addr) : Sum Str (Lse × Ls) :=
  match way with
  | 0 => match m.by_ z with
    | some _ => .inl "busy"
    | none => .inr (⟨m.given, n, z, u, u + m.term, T⟩, m.take n z u T)
  | 1 => match m.of (.int n) with
    | none => .inl "gone"
    | some l => .inr (⟨l.num, l.place, l.worker, l.turn, u + m.term, T⟩, m.renew l u T)
  | 2 => match m.of (.int n) with
    | none => .inl "gone"
    | some l => .inr (l, m.close l)
  | _ => match m.of (.int n) with
    | none => .inl "gone"
    | some l => .inr (l, m)
def AlkD : Sum Str (Lse × Ls) → Sum Str (Lse × Ls) → Prop
  | .inl s, .inl s' => s = s'
  | .inr p, .inr p' => p.1.row = p'.1.row ∧ Alk p.2 p'.2
  | _, _ => False
theorem Alk.deed {m M : Ls} (h : Alk m M) (ok : m.Ok) (way : Nat) (n : Int) (z : Str) (u : Int) (T T' : Addr) : AlkD (m.deed way n z u T) (M.deed way n z u T') := by
  obtain ⟨g, rfl⟩ := h
  match way with
  | 0 =>
    unfold Ls.deed
    rw [re_by]
    cases m.by_ z with
    | some l => exact rfl
    | none => exact ⟨rfl, _, re_take ok⟩
  | 1 =>
    unfold Ls.deed
    rw [re_of]
    cases m.of (.int n) with
    | none => exact rfl
    | some l => exact ⟨rfl, _, re_renew⟩
  | 2 =>
    unfold Ls.deed
    rw [re_of]
    cases m.of (.int n) with
    | none => exact rfl
    | some l => exact ⟨rfl, _, re_close⟩
  | k + 3 =>
    unfold Ls.deed
    rw [re_of]
    cases m.of (.int n) with
    | none => exact rfl
    | some l => exact ⟨rfl, g, rfl⟩
/-- the numbers rise, the workers are of these -/
structure Rs (zs : List Str) (m : Ls) : Prop where
  up : (m.held.map (·.num)).Pairwise (· < ·)
  inz : ∀ l ∈ m.held, l.worker ∈ zs
theorem Rs.deed {zs : List Str} {m : Ls} (h : Rs zs m) (ok : m.Ok) {way : Nat} {n : Int} {z : Str} {u : Int} {T : Addr} (hz : way = 0 → z ∈ zs) : match m.deed way n z u T with
    | .inl _ => True
    | .inr p => Rs zs p.2 ∧ p.2.Ok ∧ p.2.given ≤ m.given + 1 := by
  have close : ∀ l, Rs zs (m.close l) := fun l => ⟨h.up.sublist (List.Sublist.map _ List.filter_sublist), fun x hx => h.inz x (List.mem_filter.mp hx).1⟩
  match way with
  | 0 =>
    unfold Ls.deed
    cases e : m.by_ z with
    | some l => exact True.intro
    | none =>
      refine ⟨⟨?_, fun l hl => ?_⟩, Ok.take ok e, Nat.le_refl _⟩
      · show ((m.held ++ [_]).map fun x : Lse => x.num).Pairwise _
        rw [List.map_append, List.pairwise_append]
        refine ⟨h.up, List.pairwise_singleton _ _, fun x hx y hy => ?_⟩
        obtain ⟨l, hl, rfl⟩ := List.mem_map.mp hx
        have hy' : y = m.given := by simpa using hy
        rw [hy']
        exact ok.lt l hl
      · rcases List.mem_append.mp hl with h1 | h1
        · exact h.inz l h1
        · rw [List.mem_singleton.mp h1]
          exact hz rfl
  | 1 =>
    unfold Ls.deed
    cases e : m.of (.int n) with
    | none => exact True.intro
    | some l =>
      obtain ⟨hl, _⟩ := of_some e
      refine ⟨⟨?_, fun x hx => ?_⟩, Ok.renew ok hl, Nat.le_succ _⟩
      · show ((m.held.map _).map fun x : Lse => x.num).Pairwise _
        rw [map_same (fun x => x.num) _ ok.nd hl (by rfl)]
        exact h.up
      · obtain ⟨y, hy, rfl⟩ := List.mem_map.mp hx
        by_cases e : y.num = l.num
        · rw [if_pos e]
          exact h.inz l hl
        · rw [if_neg e]
          exact h.inz y hy
  | 2 =>
    unfold Ls.deed
    cases e : m.of (.int n) with
    | none => exact True.intro
    | some l => exact ⟨close l, Ok.close ok l, Nat.le_succ _⟩
  | k + 3 =>
    unfold Ls.deed
    cases e : m.of (.int n) with
    | none => exact True.intro
    | some l => exact ⟨h, ok, Nat.le_succ _⟩
theorem nodup_len {α : Type} [DecidableEq α] : ∀ {xs ys : List α}, xs.Nodup → (∀ x ∈ xs, x ∈ ys) → xs.length ≤ ys.length
  | [], _, _, _ => Nat.zero_le _
  | x :: xs, ys, nd, h => by
    rw [List.nodup_cons] at nd
    have hx : x ∈ ys := h x (by simp)
    have h1 := nodup_len (xs := xs) (ys := ys.erase x) nd.2 fun y hy => (List.mem_erase_of_ne (fun e => nd.1 (by rw [← e]; exact hy))).mpr (h y (by simp [hy]))
    have h2 := List.length_erase_of_mem hx
    have h3 := List.length_pos_of_mem hx
    rw [List.length_cons]
    omega
theorem Rs.few {zs : List Str} {m : Ls} (h : Rs zs m) (ok : m.Ok) : m.held.length ≤ zs.length := by
  have := nodup_len (xs := m.held.map (·.worker)) (ys := zs) ok.wk fun x hx => by
    obtain ⟨l, hl, rfl⟩ := List.mem_map.mp hx
    exact h.inz l hl
  rwa [List.length_map] at this
/-- the law's own dict -/
def mdK (M : Ls) (od : Addr) : List (Key × V) := [(.inr "term", .int M.term), (.inr "given", .int (M.given : Int)), (.inr "open", .ref od)]
structure MdAt (H : Hp) (d od : Addr) (M : Ls) : Prop where
  obj : H d = some (.dK (mdK M od))
  tab : H od = some (.dK (kvsOf M.held))
  row : ∀ l ∈ M.held, H l.at_ = some (.tup l.row)
  ok : M.Ok
theorem MdAt.same {H H' : Hp} {d od : Addr} {M : Ls} (h : MdAt H d od M) (s : Same H H') : MdAt H' d od M := ⟨s _ _ h.obj, s _ _ h.tab, fun l hl => s _ _ (h.row l hl), h.ok⟩
def noT (H : Hp) (S : List Addr) : Prop := ∀ b ∈ S, ∀ xs, H b ≠ some (.tup xs)
theorem Chg.tup {S : List Addr} {H H' : Hp} (c : Chg S H H') (n : noT H S) {b : Addr} {xs : List V} (e : H b = some (.tup xs)) : H' b = some (.tup xs) := c b _ (fun hb => n b hb xs e) e
theorem MdAt.chg {S : List Addr} {H H' : Hp} {d od : Addr} {M : Ls} (h : MdAt H d od M) (c : Chg S H H') (n : noT H S) (h1 : d ∉ S) (h2 : od ∉ S) : MdAt H' d od M := ⟨c _ _ h1 h.obj, c _ _ h2 h.tab, fun l hl => c.tup n (h.row l hl), h.ok⟩
theorem LsAt.chg {S : List Addr} {C : Addr} {H H' : Hp} {p hd : Addr} {m : Ls} (h : LsAt C H p hd m) (c : Chg S H H') (n : noT H S) (h1 : p ∉ S) (h2 : hd ∉ S) : LsAt C H' p hd m := by
  obtain ⟨⟨dx, a⟩, b, r, d⟩ := h
  exact ⟨⟨dx, c _ _ h1 a⟩, c _ _ h2 b, fun l hl => c.tup n (r l hl), d⟩
theorem LsAt.noT {C : Addr} {H : Hp} {p hd : Addr} {m : Ls} (h : LsAt C H p hd m) : noT H [p, hd] := fun b hb xs e => by
  obtain ⟨⟨dx, a⟩, b', _, _⟩ := h
  simp only [List.mem_cons, List.not_mem_nil, or_false] at hb
  rcases hb with rfl | rfl
  · rw [a] at e; cases e
  · rw [b'] at e; cases e
theorem MdAt.noT {H : Hp} {d od : Addr} {m : Ls} (h : MdAt H d od m) : noT H [d, od] := fun b hb xs e => by
  simp only [List.mem_cons, List.not_mem_nil, or_false] at hb
  rcases hb with rfl | rfl
  · rw [h.obj] at e; cases e
  · rw [h.tab] at e; cases e
theorem md_ne {H : Hp} {d od : Addr} {M : Ls} (h : MdAt H d od M) : d ≠ od := fun e => by
  have h1 := h.obj
  rw [e, h.tab] at h1
  have h2 : kvsOf M.held = mdK M od := by
    injection h1 with h1
    injection h1 with h1
    
  cases hh : M.held with
  | nil => rw [hh] at h2; cases h2
  | cons l r =>
    rw [hh] at h2
    injection h2 with h3 _
    cases h3
section
variable {P : Program} {w : World} {K : PySem.W.Frag} {mg : Str → Option Value} {base : Heap} {C : Addr} {D : Nat → Addr} {R : Nat → Prop}
def DonePost (C : Addr) (p hd : Addr) (H : Hp) (Q : VK) (r : Addr → Sum Str (Lse × Ls)) : Prop := ∀ T H', Chg [p, hd] H H' → match r T with
  | .inl z => Same H H' → Q (.str z) H'
  | .inr x => ∀ q, H q = none → H' q = some (.lst [.ref x.1.at_]) → LsAt C H' p hd x.2 → H' x.1.at_ = some (.tup x.1.row) → Q (.ref q) H'
def spDone (C : Addr) : Sp := fun vs H Q _ => ∃ (p hd : Addr) (m : Ls) (way : Nat) (n : Int) (zv : V) (z : Str) (u : Int), vs = [.ref p, .int (way : Int), .int n, zv, .int u] ∧ LsAt C H p hd m ∧ m.given < 1000 ∧ way < 4 ∧ (way = 0 → zv = .str z) ∧ DonePost C p hd H Q (m.deed way n z u)
theorem ok_done (Df : Def K mg "_law_done" s__law_done ["_law_house", "_law_way", "_law_one", "_law_other", "_law_turn"]) (S : LCls K mg C) (CH : Addr) (gH : mg "HallError" = some (.ref CH)) (ex : ∀ r, r < 3 → PySem.W.exmOne K (.ref (D r)) (.ref CH) = some true) (hR : ∀ r, r < 3 → R r)
    (km_of : KnowsM (CX1 P w base) P w K mg base 2 C "of" ["self", "number"] (spOf K C D)) (km_renew : KnowsM (CX1 P w base) P w K mg base 3 C "renew" ["self", "number", "turn"] (spRenew K C D)) (km_close : KnowsM (CX1 P w base) P w K mg base 3 C "close" ["self", "number"] (spClose K C D))
    (km_take : KnowsM (CX1 P w base) P w K mg base 2 C "take" ["self", "place", "worker", "turn"] (spTake C D)) (k_word : KnowsQ P w K mg base 1 "_law_word" ["_law_e"] (spWord D R)) :
    Knows P w K mg base 4 "_law_done" ["_law_house", "_law_way", "_law_one", "_law_other", "_law_turn"] (spDone C) := by
  refine Df.ok sc__law_done (fun vs H Q E h => ?_) (fun f cdv A outer s H vs Q E hr h => ?_)
  · obtain ⟨p, hd, m, way, n, zv, z, u, rfl, _⟩ := h
    rfl
  · obtain ⟨p, hd, m, way, n, zv, z, u, rfl, L, hlt, hw, hz, post⟩ := h
    obtain ⟨dx, hp⟩ := L.obj
    refine ⟨_, by exact (pss_one (ps_tryAs (i := 5) rfl rfl gH (fun _ => PassesOwnAt.never) sc__law_done.nd rfl rfl (fun Eb pn xe hL => (pss_cons (ps_if (pt_cmpR op_eq (pv 1) pe_int (nomark _)) (pss_one (ps_ret (pe_lst (pa_c (pe_methS km_take S.cl hr hL (pv 0) (pa_c (pv 2) (pa_c (pv 3) (pa_c (pv 4) pa_nil)))) pa_nil)))) pss_nil)
        (pss_cons (ps_if (pt_cmpR op_eq (pv 1) pe_int (nomark _)) (pss_one (ps_ret (pe_lst (pa_c (pe_methS km_renew S.cl hr hL (pv 0) (pa_c (pv 2) (pa_c (pv 4) pa_nil))) pa_nil)))) pss_nil)
        (pss_cons (ps_if (pt_cmpR op_eq (pv 1) pe_int (nomark _)) (pss_one (ps_ret (pe_lst (pa_c (pe_methS km_close S.cl hr hL (pv 0) (pa_c (pv 2) pa_nil)) pa_nil)))) pss_nil)
        (pss_one (ps_ret (pe_lst (pa_c (pe_methS km_of S.cl hr hL (pv 0) (pa_c (pv 2) pa_nil)) pa_nil))))))))
      (fun a => pss_one (ps_ret (pe_callQ k_word (hr.q.mark _) (pa_c (pv 5) pa_nil)))))), ?_⟩
    refine ⟨fun σ' C' o H' => ∃ r, r < 3 ∧ C' = .ref (D r) ∧ o = none ∧ Same H H' ∧ σ'.length = 6 ∧ ∀ H2, Same H H2 → Q (.str (word r)) H2, ?_, ?_⟩
    · have told : ∀ (l : Lse) (m' : Ls) H1, (∀ q H2, Chg [p, hd] H H2 → H q = none → H2 q = some (.lst [.ref l.at_]) → LsAt C H2 p hd m' → H2 l.at_ = some (.tup l.row) → Q (.ref q) H2) → Chg [p, hd] H H1 → LsAt C H1 p hd m' → H1 l.at_ = some (.tup l.row) → ([V.ref l.at_] : List V).length ≤ sizeLine ∧ ∀ q, H1 q = none → Q (.ref q) (upd H1 q (.lst [.ref l.at_])) := fun l m' H1 k c L' er => by
        refine ⟨by show 1 ≤ sizeLine; decide, fun q hq => ?_⟩
        have s1 : Same H1 (upd H1 q (.lst [.ref l.at_])) := same_of hq
        refine k q _ (c.trans (Chg.of s1)) ?_ upd_same (L'.same s1) (s1 _ _ er)
        cases e : H q with
        | none => rfl
        | some ob =>
          by_cases hb : q ∈ [p, hd]
          · exfalso
            obtain ⟨⟨dx', a'⟩, b', _, _⟩ := L'
            simp only [List.mem_cons, List.not_mem_nil, or_false] at hb
            rcases hb with rfl | rfl
            · rw [a'] at hq; cases hq
            · rw [b'] at hq; cases hq
          · rw [c q ob hb e] at hq; cases hq
      have any : Any K H (.int n) := Any.int
      match way, hw with
      | 0, _ =>
        obtain rfl := hz rfl
        refine ⟨_, rfl, rfl, _, rfl, iteT ?_⟩
        refine ⟨_, rfl, p, dx, _, rfl, hp, rfl, _, rfl, _, rfl, _, rfl, p, hd, m, n, z, u, rfl, L, hlt, fun l hl H' s' => ⟨1, by decide, rfl, rfl, s', rfl, fun H2 s2 => ?_⟩, fun hn T H' ch L' => ?_⟩
        · have := post 0 H2 (Chg.of s2)
          unfold Ls.deed at this
          rw [hl] at this
          exact this s2
        · have e : m.deed 0 n z u T = .inr (⟨m.given, n, z, u, u + m.term, T⟩, m.take n z u T) := by
            simp only [Ls.deed, hn]
          refine told ⟨m.given, n, z, u, u + m.term, T⟩ (m.take n z u T) H' (fun q H2 c hq => ?_) ch L' (L'.row _ (List.mem_append_right _ (by simp)))
          have := post T H2 c
          rw [e] at this
          exact this q hq
      | 1, _ =>
        refine ⟨_, rfl, rfl, _, rfl, iteF ?_⟩
        refine ⟨_, rfl, rfl, _, rfl, iteT ?_⟩
        refine ⟨_, rfl, p, dx, _, rfl, hp, rfl, _, rfl, _, rfl, p, hd, m, .int n, u, rfl, L, hlt, any, fun l hl T H' ch L' => ?_, fun hn => ⟨2, by decide, rfl, rfl, Same.refl _, rfl, fun H2 s2 => ?_⟩⟩
        · have e : m.deed 1 n z u T = .inr (⟨l.num, l.place, l.worker, l.turn, u + m.term, T⟩, m.renew l u T) := by
            simp only [Ls.deed, hl]
          refine told ⟨l.num, l.place, l.worker, l.turn, u + m.term, T⟩ (m.renew l u T) H' (fun q H2 c hq => ?_) ch L' (L'.row _ (List.mem_map.mpr ⟨l, (of_some hl).1, if_pos rfl⟩))
          have := post T H2 c
          rw [e] at this
          exact this q hq
        · have := post 0 H2 (Chg.of s2)
          unfold Ls.deed at this
          rw [hn] at this
          exact this s2
      | 2, _ =>
        refine ⟨_, rfl, rfl, _, rfl, iteF ?_⟩
        refine ⟨_, rfl, rfl, _, rfl, iteF ?_⟩
        refine ⟨_, rfl, rfl, _, rfl, iteT ?_⟩
        refine ⟨_, rfl, p, dx, _, rfl, hp, rfl, _, rfl, p, hd, m, .int n, rfl, L, any, fun l hl H' ch L' er => ?_, fun hn => ⟨2, by decide, rfl, rfl, Same.refl _, rfl, fun H2 s2 => ?_⟩⟩
        · have e : m.deed 2 n z u 0 = .inr (l, m.close l) := by
            simp only [Ls.deed, hl]
          refine told l (m.close l) H' (fun q H2 c hq => ?_) ch L' er
          have := post 0 H2 c
          rw [e] at this
          exact this q hq
        · have := post 0 H2 (Chg.of s2)
          unfold Ls.deed at this
          rw [hn] at this
          exact this s2
      | 3, _ =>
        refine ⟨_, rfl, rfl, _, rfl, iteF ?_⟩
        refine ⟨_, rfl, rfl, _, rfl, iteF ?_⟩
        refine ⟨_, rfl, rfl, _, rfl, iteF ?_⟩
        refine ⟨_, rfl, p, dx, _, rfl, hp, rfl, _, rfl, p, hd, m, .int n, rfl, L, any, fun l hl => ?_, fun hn => ⟨2, by decide, rfl, rfl, Same.refl _, rfl, fun H2 s2 => ?_⟩⟩
        · have e : m.deed 3 n z u 0 = .inr (l, m) := by
            simp only [Ls.deed, hl]
          refine told l m H (fun q H2 c hq => ?_) (Chg.of (Same.refl _)) L (L.row l (of_some hl).1)
          have := post 0 H2 c
          rw [e] at this
          exact this q hq
        · have := post 0 H2 (Chg.of s2)
          unfold Ls.deed at this
          rw [hn] at this
          exact this s2
    · rintro σ' C' H' ⟨r, hr3, e1, _, s1, hl, fin⟩
      cases e1
      refine ⟨ex r hr3, fun a ha => ?_⟩
      have ea : (upd H' a (ExcO a (D r))) a = some (ExcO a (D r)) := upd_same
      have sa : Same H' (upd H' a (ExcO a (D r))) := same_of ha
      refine ⟨.ref a, ?_, ⟨a, D r, rfl, ea⟩, a, r, rfl, by omega, hR r hr3, ea, fun H2 s2 => fin H2 ((s1.trans sa).trans s2)⟩
      rw [List.getElem?_set_self (by omega)]
end
end K09

set_option Elab.async false
set_option linter.all false
set_option maxRecDepth 100000
set_option maxHeartbeats 4000000
set_option pp.maxSteps 600
set_option pp.deepTerms false
namespace K09
open PySem L2 PyProof.Rows
theorem MdAt.gT {H : Hp} {d od : Addr} {M : Ls} (h : MdAt H d od M) : DGet H d (.str "term") (some (.int M.term)) := DGet.k (k := .inr "term") h.obj
theorem MdAt.gG {H : Hp} {d od : Addr} {M : Ls} (h : MdAt H d od M) : DGet H d (.str "given") (some (.int (M.given : Int))) := DGet.k (k := .inr "given") h.obj
theorem MdAt.gO {H : Hp} {d od : Addr} {M : Ls} (h : MdAt H d od M) : DGet H d (.str "open") (some (.ref od)) := DGet.k (k := .inr "open") h.obj
theorem MdAt.at_ {H : Hp} {d od : Addr} {M : Ls} (h : MdAt H d od M) (n : Int) : DGet H od (.int n) ((M.of (.int n)).map fun l => V.ref l.at_) := by
  have := DGet.k (k := .inl n) h.tab
  rw [val_kvs] at this
  exact this
def Ls.sel (M : Ls) (z : Str) : List Lse := M.held.filter fun l => decide (l.worker = z)
theorem sel_head (M : Ls) (z : Str) : (M.sel z).head? = M.by_ z := List.head?_filter
theorem sel_nil {M : Ls} {z : Str} (h : M.by_ z = none) : M.sel z = [] := by
  have := sel_head M z
  rw [h] at this
  exact List.head?_eq_none_iff.mp this
theorem sel_cons {M : Ls} {z : Str} {l : Lse} (h : M.by_ z = some l) : ∃ r, M.sel z = l :: r := by
  have := sel_head M z
  rw [h] at this
  cases e : M.sel z with
  | nil => rw [e] at this; cases this
  | cons x r =>
    rw [e] at this
    cases this
    exact ⟨r, rfl⟩
/-- [lease for lease in m["open"].values() if lease[2] == z] -/
theorem comp_sel {js : List Nat} {tc : TT} {te : TE} {σ : L2.St} {Q : VK} {od : Addr} {ob : Obj} {M : Ls} {z : Str} {Hf : Hp} (hf : Hf od = some (.frz ob (.dK (kvsOf M.held)))) (hlen : M.held.length ≤ 100)
    (ht : ∀ l ∈ M.held, ∀ Q' : Bool → Hp → Prop, Q' (decide (l.worker = z)) Hf → tc (some (.ref l.at_) :: caps σ js) Hf Q') (he : ∀ (l : Lse) (Q' : VK), Q' (.ref l.at_) Hf → te (some (.ref l.at_) :: caps σ js) Hf Q')
    (hd : ∀ D, Hf D = none → Q (.ref D) (upd Hf D (.lst ((M.sel z).map fun l => V.ref l.at_)))) : tCompB 1 js (gName 0) tc te σ Q (Itv od ob) Hf := by
  refine comp1_wk (wk_vals od ob (kvsOf M.held)) (fun i ys H' => H' = Hf ∧ ys = ((M.held.take i).filter fun l => decide (l.worker = z)).map fun l => V.ref l.at_) ⟨rfl, rfl⟩ (fun i ys H' _ h => ⟨by rw [h.1]; exact hf, by rw [h.2, List.length_map]; exact Nat.le_trans (List.length_filter_le _ _) (by rw [List.length_take]; omega)⟩) (by rw [kvs_map_len]; exact Nat.le_trans hlen (by decide)) (fun i x ys H' Nx hx h kn => ?_) (fun ys H' h Dd hD => ?_)
  · obtain ⟨rfl, rfl⟩ := h
    have hx' : ∃ l, M.held[i]? = some l ∧ x = .ref l.at_ := by
      unfold kvsOf at hx
      rw [List.map_map, List.getElem?_map] at hx
      obtain ⟨l, hl, rfl⟩ := Option.map_eq_some_iff.mp hx
      exact ⟨l, hl, rfl⟩
    obtain ⟨l, hl, rfl⟩ := hx'
    refine ht l (List.mem_of_getElem? hl) _ ?_
    by_cases h : l.worker = z
    · rw [if_pos (decide_eq_true h)]
      refine he l _ (kn _ _ ⟨rfl, ?_⟩)
      rw [List.take_add_one, hl, List.filter_append, List.map_append]
      congr 1
      show _ = (List.filter _ [l]).map _
      rw [List.filter_cons_of_pos (by simpa using h)]
      rfl
    · rw [if_neg (fun c => h (of_decide_eq_true c))]
      refine kn _ _ ⟨rfl, ?_⟩
      rw [List.take_add_one, hl, List.filter_append, List.map_append]
      show _ = _ ++ (List.filter _ [l]).map _
      rw [List.filter_cons_of_neg (by simpa using h)]
      simp
  · obtain ⟨rfl, rfl⟩ := h
    have := hd Dd hD
    unfold Ls.sel at this
    rw [kvs_map_len, List.take_length]
    exact this
theorem sel_reps {K : PySem.W.Frag} {H : Hp} : ∀ {ls : List Lse}, (∀ l ∈ ls, H l.at_ = some (.tup l.row)) → Reps K H (ls.map fun l => V.ref l.at_) (ls.map rowD)
  | [], _ => .nil
  | x :: r, h => .cons (row_rep (h x (by simp))) (sel_reps fun l hl => h l (by simp [hl]))
theorem thaw_same {H Hx : Hp} {od : Addr} {kvs : List (Key × V)} (e : H od = some (.dK kvs)) (h : ∀ b u, b ≠ od → H b = some u → Hx b = some u) : Same H (upd Hx od (.dK kvs)) := fun b u q => by
  by_cases hb : b = od
  · subst hb
    rw [e] at q
    rw [upd_same]
    exact q
  · rw [upd_ne hb]
    exact h b u hb q
section
variable {P : Program} {w : World} {K : PySem.W.Frag} {mg : Str → Option Value} {base : Heap} {C : Addr} {D : Nat → Addr} {R : Nat → Prop}
def DuePost (d od : Addr) (H : Hp) (Q : VK) (r : Addr → Sum Str (Lse × Ls)) : Prop := ∀ T H', Chg [d, od] H H' → match r T with
  | .inl z => Same H H' → Q (.str z) H'
  | .inr x => ∀ q, H q = none → H' q = some (.lst [.ref x.1.at_]) → MdAt H' d od x.2 → H' x.1.at_ = some (.tup x.1.row) → Q (.ref q) H'
def spDue : Sp := fun vs H Q _ => ∃ (d od : Addr) (M : Ls) (way : Nat) (n : Int) (zv : V) (z : Str) (u : Int), vs = [.ref d, .int (way : Int), .int n, zv, .int u] ∧ MdAt H d od M ∧ M.held.length ≤ 100 ∧ way < 4 ∧ (way = 0 → zv = .str z) ∧ DuePost d od H Q (M.deed way n z u)
theorem ok_due (Df : Def K mg "_law_due" s__law_due ["_law_m", "_law_way", "_law_one", "_law_other", "_law_turn"]) : Knows P w K mg base 1 "_law_due" ["_law_m", "_law_way", "_law_one", "_law_other", "_law_turn"] spDue := by
  refine Df.ok sc__law_due (fun vs H Q E h => ?_) (fun f cdv A outer s H vs Q E hr h => ?_)
  · obtain ⟨d, od, M, way, n, zv, z, u, rfl, _⟩ := h
    rfl
  · obtain ⟨d, od, M, way, n, zv, z, u, rfl, L, hlt, hw, hz, post⟩ := h
    have hu := hu1 hr
    have huD := hr.units
    refine ⟨_, by exact (pss_cons (ps_if (pt_cmpR op_eq (pv 1) pe_int (nomark _)) (pss_cons (ps_thaw (ps_if (pt_cmpR (op_neD huD) (pe_comp1 [3] ["_law_lease", "_law_other"] rfl (pi_vals (pe_dvals (pe_dget hu (pv 0) pe_str (fun _ _ => rfl)) ⟨rfl, by rfl, rfl, rfl⟩)) (fun _ _ _ _ => pts_one (pt_cmpR op_eq (pe_ix (ix_tupC (K0 := K) rfl) (pv 0) pe_int (fun _ _ => rfl)) (pv 1) (nomark _))) (fun _ _ _ _ => (pv 0))) (pe_lst pa_nil) (nomark _)) (pss_one (ps_ret pe_str)) pss_nil))
      (pss_cons (ps_set (i := 5) sc__law_due.nd rfl (Or.inl rfl) (pe_tup (pa_c (pe_dget hu (pv 0) pe_str (fun _ _ => rfl)) (pa_c (pv 2) (pa_c (pv 3) (pa_c (pv 4) (pa_c (pe_op op_add (pv 4) (pe_dget hu (pv 0) pe_str (fun _ _ => rfl))) pa_nil)))))))
      (pss_cons (ps_dput hu (pv 0) pe_str (pe_op op_add (pe_dget hu (pv 0) pe_str (fun _ _ => rfl)) pe_int) rfl)
      (pss_cons (ps_dput hu (pe_dget hu (pv 0) pe_str (fun _ _ => rfl)) (pe_ix ix_tup (pv 5) pe_int (fun _ _ => rfl)) (pv 5) rfl)
      (pss_one (ps_ret (pe_lst (pa_c (pv 5) pa_nil)))))))) pss_nil)
      (pss_cons (ps_if (pt_cmp (pc_dnotin hu (pv 2) (pe_dget hu (pv 0) pe_str (fun _ _ => rfl)))) (pss_one (ps_ret pe_str)) pss_nil)
      (pss_cons (ps_set (i := 5) sc__law_due.nd rfl (Or.inl rfl) (pe_dget hu (pe_dget hu (pv 0) pe_str (fun _ _ => rfl)) (pv 2) (fun _ _ => rfl)))
      (pss_cons (ps_if (pt_cmpR op_eq (pv 1) pe_int (nomark _)) (pss_cons (ps_set (i := 5) sc__law_due.nd rfl (Or.inl rfl) (pe_op op_catT (pe_slice sl_tup (pv 5) po_none (po_some pe_int)) (pe_tup (pa_c (pe_op op_add (pv 4) (pe_dget hu (pv 0) pe_str (fun _ _ => rfl))) pa_nil))))
      (pss_one (ps_dput hu (pe_dget hu (pv 0) pe_str (fun _ _ => rfl)) (pv 2) (pv 5) rfl))) pss_nil)
      (pss_cons (ps_if (pt_cmpR op_eq (pv 1) pe_int (nomark _)) (pss_one (ps_expr (pe_dpop1 (pe_dget hu (pv 0) pe_str (fun _ _ => rfl)) (pv 2) ⟨rfl, by rfl, rfl, rfl⟩))) pss_nil)
      (pss_one (ps_ret (pe_lst (pa_c (pv 5) pa_nil))))))))), ?_⟩
    have hdo := md_ne L
    have told : ∀ (l : Lse) (M' : Ls) H1, (∀ q H2, Chg [d, od] H H2 → H q = none → H2 q = some (.lst [.ref l.at_]) → MdAt H2 d od M' → H2 l.at_ = some (.tup l.row) → Q (.ref q) H2) → Chg [d, od] H H1 → MdAt H1 d od M' → H1 l.at_ = some (.tup l.row) → ([V.ref l.at_] : List V).length ≤ sizeLine ∧ ∀ q, H1 q = none → Q (.ref q) (upd H1 q (.lst [.ref l.at_])) := fun l m' H1 k c L' er => by
      refine ⟨by show 1 ≤ sizeLine; decide, fun q hq => ?_⟩
      have s1 : Same H1 (upd H1 q (.lst [.ref l.at_])) := same_of hq
      refine k q _ (c.trans (Chg.of s1)) ?_ upd_same (L'.same s1) (s1 _ _ er)
      cases e : H q with
      | none => rfl
      | some ob =>
        by_cases hb : q ∈ [d, od]
        · exfalso
          simp only [List.mem_cons, List.not_mem_nil, or_false] at hb
          rcases hb with rfl | rfl
          · rw [L'.obj] at hq; cases hq
          · rw [L'.tab] at hq; cases hq
        · rw [c q ob hb e] at hq; cases hq
    match way, hw with
    | 0, _ =>
      obtain rfl := hz rfl
      refine ⟨_, rfl, rfl, _, rfl, iteT ?_⟩
      refine stm_use (fun σ' H' => Same H H' ∧ M.by_ z = none ∧ σ' = [some (.ref d), some (.int ((0 : Nat) : Int)), some (.int n), some (.str z), some (.int u), none]) (fun Q' kk => ?_) ?_
      · refine ⟨_, rfl, d, _, rfl, L.gO, od, kvsOf M.held, rfl, L.tab, fun r hrn => ⟨r, od, kvsOf M.held, rfl, upd_same, ?_, fun ob nf => ?_⟩⟩
        · rw [upd_ne (ne_of_none L.tab hrn)]
          exact L.tab
        have s1 : Same H (upd H r (ViewO r od)) := same_of hrn
        generalize upd H r (ViewO r od) = H1 at s1
        have keep : ∀ b v, b ≠ od → H b = some v → (upd H1 od (.frz ob (.dK (kvsOf M.held)))) b = some v := fun b v hb e => by
          rw [upd_ne hb]
          exact s1 _ _ e
        have rows : ∀ l ∈ M.held, (upd H1 od (.frz ob (.dK (kvsOf M.held)))) l.at_ = some (.tup l.row) := fun l hl => keep _ _ (fun zz => by have := L.row l hl; rw [zz, L.tab] at this; cases this) (L.row l hl)
        have hfz : (upd H1 od (.frz ob (.dK (kvsOf M.held)))) od = some (.frz ob (.dK (kvsOf M.held))) := upd_same
        generalize upd H1 od (.frz ob (.dK (kvsOf M.held))) = Hf at keep rows hfz
        refine comp_sel (z := z) hfz hlt (fun l hl Q1 k1 => ?_) (fun l Q1 k1 => ⟨_, rfl, k1⟩) (fun Dd hD => ?_)
        · refine ⟨_, rfl, l.at_, _, _, _, rfl, rfl, SqT.of (rows l hl), atI_nat (j := 2) rfl, _, rfl, rfl, _, rfl, ?_⟩
          rw [dstr]
          exact k1
        · have s2 : Same Hf (upd Hf Dd (.lst ((M.sel z).map fun l => V.ref l.at_))) := same_of hD
          have e2 : (upd Hf Dd (.lst ((M.sel z).map fun l => V.ref l.at_))) Dd = some (.lst ((M.sel z).map fun l => V.ref l.at_)) := upd_same
          generalize upd Hf Dd (.lst ((M.sel z).map fun l => V.ref l.at_)) = H2 at s2 e2
          refine ⟨by show 0 ≤ sizeLine; decide, fun En hE => ?_⟩
          have s3 : Same H2 (upd H2 En (.lst [])) := same_of hE
          have e3 : (upd H2 En (.lst [])) En = some (.lst []) := upd_same
          generalize upd H2 En (.lst []) = H3 at s3 e3
          have s23 := s2.trans s3
          have back : Same H (upd H3 od (.dK (kvsOf M.held))) := thaw_same L.tab fun b v hb e => s23 _ _ (keep b v hb e)
          refine ⟨.l ((M.sel z).map rowD), .l [], .l (SqL.of (s3 _ _ e2)) (sel_reps fun l hl => s23 _ _ (rows l (List.mem_filter.mp hl).1)), .l (SqL.of e3) .nil, ?_, _, rfl, ?_⟩
          · have := dep_rows (M.sel z)
            simp only [depD]
            omega
          · cases e : M.by_ z with
            | some l =>
              obtain ⟨r', er⟩ := sel_cons e
              rw [er]
              refine iteT ⟨od, _, ob, s23 _ _ hfz, nf, ?_⟩
              have := post 0 _ (Chg.of back)
              unfold Ls.deed at this
              rw [e] at this
              exact this back
            | none =>
              rw [sel_nil e]
              exact iteF ⟨od, _, ob, s23 _ _ hfz, nf, kk _ _ ⟨back, e, rfl⟩⟩
      · rintro σ' H1 ⟨s1, hn, rfl⟩
        have L1 := L.same s1
        refine ⟨_, rfl, d, _, rfl, L1.gG, _, rfl, _, rfl, _, rfl, _, rfl, _, rfl, d, _, rfl, L1.gT, _, _, rfl, rfl, by show 5 ≤ sizeLine; decide, fun T hT => ?_⟩
        dsimp only [gName]
        have s2 : Same H (upd H1 T (.tup [.int (M.given : Int), .int n, .str z, .int u, .int (u + M.term)])) := s1.trans (same_of hT)
        have e2 : (upd H1 T (.tup [.int (M.given : Int), .int n, .str z, .int u, .int (u + M.term)])) T = some (.tup [.int (M.given : Int), .int n, .str z, .int u, .int (u + M.term)]) := upd_same
        generalize upd H1 T (.tup [.int (M.given : Int), .int n, .str z, .int u, .int (u + M.term)]) = H2 at s2 e2
        have L2 := L.same s2
        refine ⟨_, rfl, d, _, rfl, L2.gG, _, _, rfl, rfl, _, rfl, d, _, rfl, DPut.k (k := .inr "given") L2.obj (by show 3 < sizeLine; decide), ?_⟩
        have eput : putK (mdK M od) (.inr "given") (.int ((M.given : Int) + 1)) = mdK (M.take n z u T) od := by
          show [((.inr "term" : Key), V.int M.term), (.inr "given", .int ((M.given : Int) + 1)), (.inr "open", .ref od)] = [((.inr "term" : Key), V.int M.term), (.inr "given", .int ((M.given + 1 : Nat) : Int)), (.inr "open", .ref od)]
          rw [show ((M.given + 1 : Nat) : Int) = (M.given : Int) + 1 by omega]
        rw [eput]
        have g3 : DGet (upd H2 d (.dK (mdK (M.take n z u T) od))) d (.str "open") (some (.ref od)) := DGet.k (k := .inr "open") upd_same
        have t3 : (upd H2 d (.dK (mdK (M.take n z u T) od))) T = some (.tup [.int (M.given : Int), .int n, .str z, .int u, .int (u + M.term)]) := by
          rw [upd_ne (fun zz => by rw [zz, L2.obj] at e2; cases e2)]
          exact e2
        have o3 : (upd H2 d (.dK (mdK (M.take n z u T) od))) od = some (.dK (kvsOf M.held)) := by
          rw [upd_ne (Ne.symm hdo)]
          exact L2.tab
        dsimp only
        refine ⟨_, rfl, _, rfl, d, _, rfl, g3, _, rfl, T, _, _, _, rfl, rfl, SqT.of t3, atI_nat (j := 0) rfl, od, _, rfl, DPut.k (k := .inl (M.given : Int)) o3 (by rw [kvs_len]; exact Nat.lt_of_le_of_lt hlt (by decide)), ?_⟩
        rw [put_new M L.ok n z u T]
        dsimp only
        have tn : ∀ b xs, H2 b = some (.tup xs) → (upd (upd H2 d (.dK (mdK (M.take n z u T) od))) od (.dK (kvsOf (M.take n z u T).held))) b = some (.tup xs) := fun b xs e => by
          rw [upd_ne (fun zz => by rw [zz, L2.tab] at e; cases e), upd_ne (fun zz => by rw [zz, L2.obj] at e; cases e)]
          exact e
        have e : M.deed 0 n z u T = .inr (⟨M.given, n, z, u, u + M.term, T⟩, M.take n z u T) := by
          simp only [Ls.deed, hn]
        refine ⟨_, rfl, told ⟨M.given, n, z, u, u + M.term, T⟩ (M.take n z u T) _ (fun q H2' c hq => ?_) (fun b o' hb e' => ?_) ⟨?_, upd_same, fun l hl => ?_, Ok.take L.ok hn⟩ (tn _ _ e2)⟩
        · have := post T H2' c
          rw [e] at this
          exact this q hq
        · rw [upd_ne (fun zz => hb (by simp [zz])), upd_ne (fun zz => hb (by simp [zz]))]
          exact s2 _ _ e'
        · rw [upd_ne hdo]
          exact upd_same
        · rcases List.mem_append.mp hl with h | h
          · exact tn _ _ (s2 _ _ (L.row l h))
          · rw [List.mem_singleton.mp h]
            exact tn _ _ e2
    | k + 1, hk =>
      refine ⟨_, rfl, rfl, _, rfl, ite_of (d := false) (decide_eq_false (fun zz => by injection zz with zz; omega)) (fun h => by cases h) (fun _ => next_to ?_)⟩
      dsimp only
      refine ⟨_, rfl, _, rfl, d, _, rfl, L.gO, od, _, rfl, L.at_ n, _, rfl, ?_⟩
      cases e : M.of (.int n) with
      | none =>
        refine iteT ?_
        have := post 0 H (Chg.of (Same.refl _))
        match k, hk with
        | 0, _ => unfold Ls.deed at this; rw [e] at this; exact this (Same.refl _)
        | 1, _ => unfold Ls.deed at this; rw [e] at this; exact this (Same.refl _)
        | 2, _ => unfold Ls.deed at this; rw [e] at this; exact this (Same.refl _)
      | some l =>
        obtain ⟨hmem, en⟩ := of_some e
        injection en with en
        have ga := L.at_ n
        rw [e] at ga
        refine iteF (next_to ?_)
        dsimp only
        refine ⟨_, rfl, d, _, rfl, L.gO, _, rfl, od, _, rfl, ga, ?_⟩
        dsimp only [gName]
        match k, hk with
        | 0, _ =>
          refine ⟨_, rfl, rfl, _, rfl, iteT ?_⟩
          have hrow := L.row l hmem
          refine ⟨_, rfl, _, rfl, l.at_, _, rfl, SqT.of hrow, (fun h => by have h2 : (4 : Nat) = 5 := h.2; cases h2), fun c1 hc1 => ?_⟩
          have s1 : Same H (upd H c1 (.tup (cutV l.row none (some 4)))) := same_of hc1
          have e1 : (upd H c1 (.tup (cutV l.row none (some 4)))) c1 = some (.tup [.int (l.num : Int), .int l.place, .str l.worker, .int l.turn]) := upd_same
          generalize upd H c1 (.tup (cutV l.row none (some 4))) = H1 at s1 e1
          refine ⟨_, rfl, _, rfl, d, _, rfl, (L.same s1).gT, _, _, rfl, rfl, by show 1 ≤ sizeLine; decide, fun c2 hc2 => ?_⟩
          have s2 : Same H1 (upd H1 c2 (.tup [.int (u + M.term)])) := same_of hc2
          have e2 : (upd H1 c2 (.tup [.int (u + M.term)])) c2 = some (.tup [.int (u + M.term)]) := upd_same
          generalize upd H1 c2 (.tup [.int (u + M.term)]) = H2 at s2 e2
          refine ⟨c1, c2, _, _, rfl, rfl, SqT.of (s2 _ _ e1), SqT.of e2, (by simp), by show 5 ≤ sizeLine; decide, (fun h => by cases h), fun _ T hT => ?_⟩
          dsimp only [gName]
          have s3 : Same H (upd H2 T (.tup ([.int (l.num : Int), .int l.place, .str l.worker, .int l.turn] ++ [.int (u + M.term)]))) := (s1.trans s2).trans (same_of hT)
          have e3 : (upd H2 T (.tup ([.int (l.num : Int), .int l.place, .str l.worker, .int l.turn] ++ [.int (u + M.term)]))) T = some (.tup [.int (l.num : Int), .int l.place, .str l.worker, .int l.turn, .int (u + M.term)]) := upd_same
          generalize upd H2 T (.tup ([.int (l.num : Int), .int l.place, .str l.worker, .int l.turn] ++ [.int (u + M.term)])) = H3 at s3 e3
          have L3 := L.same s3
          refine ⟨_, rfl, _, rfl, d, _, rfl, L3.gO, _, rfl, od, _, rfl, DPut.k (k := .inl n) L3.tab (by rw [kvs_len]; exact Nat.lt_of_le_of_lt hlt (by decide)), ?_⟩
          rw [en, put_old M hmem u T]
          dsimp only
          refine ⟨_, rfl, rfl, _, rfl, iteF (next_to ?_)⟩
          dsimp only
          have tn : ∀ b xs, H3 b = some (.tup xs) → (upd H3 od (.dK (kvsOf (M.renew l u T).held))) b = some (.tup xs) := fun b xs e => by
            rw [upd_ne (fun zz => by rw [zz, L3.tab] at e; cases e)]
            exact e
          have ed : M.deed 1 n z u T = .inr (⟨l.num, l.place, l.worker, l.turn, u + M.term, T⟩, M.renew l u T) := by
            simp only [Ls.deed, e]
          refine ⟨_, rfl, told ⟨l.num, l.place, l.worker, l.turn, u + M.term, T⟩ (M.renew l u T) _ (fun q H2' c hq => ?_) (fun b o' hb e' => ?_) ⟨?_, upd_same, fun l2 hl2 => ?_, Ok.renew L.ok hmem⟩ (tn _ _ e3)⟩
          · have := post T H2' c
            rw [ed] at this
            exact this q hq
          · rw [upd_ne (fun zz => hb (by simp [zz]))]
            exact s3 _ _ e'
          · rw [upd_ne hdo]
            exact L3.obj
          · obtain ⟨y, hy, rfl⟩ := List.mem_map.mp hl2
            by_cases h : y.num = l.num
            · rw [if_pos h]
              exact tn _ _ e3
            · rw [if_neg h]
              exact tn _ _ (s3 _ _ (L.row y hy))
        | 1, _ =>
          refine ⟨_, rfl, rfl, _, rfl, iteF (next_to ?_)⟩
          dsimp only
          refine ⟨_, rfl, rfl, _, rfl, iteT ?_⟩
          refine ⟨_, rfl, d, _, rfl, L.gO, od, rfl, .inl ⟨_, .inl L.tab⟩, _, rfl, _, .inl n, .ref l.at_, L.tab, rfl, by rw [val_kvs, e]; rfl, ?_⟩
          rw [en, drop_kvs]
          dsimp only
          have tn : ∀ b xs, H b = some (.tup xs) → (upd H od (.dK (kvsOf (M.close l).held))) b = some (.tup xs) := fun b xs e => by
            rw [upd_ne (fun zz => by rw [zz, L.tab] at e; cases e)]
            exact e
          have ed : M.deed 2 n z u 0 = .inr (l, M.close l) := by
            simp only [Ls.deed, e]
          refine ⟨_, rfl, told l (M.close l) _ (fun q H2' c hq => ?_) (fun b o' hb e' => ?_) ⟨?_, upd_same, fun l2 hl2 => tn _ _ (L.row l2 (List.mem_filter.mp hl2).1), Ok.close L.ok l⟩ (tn _ _ (L.row l hmem))⟩
          · have := post 0 H2' c
            rw [ed] at this
            exact this q hq
          · rw [upd_ne (fun zz => hb (by simp [zz]))]
            exact e'
          · rw [upd_ne hdo]
            exact L.obj
        | 2, _ =>
          refine ⟨_, rfl, rfl, _, rfl, iteF (next_to ?_)⟩
          dsimp only
          refine ⟨_, rfl, rfl, _, rfl, iteF (next_to ?_)⟩
          dsimp only
          have ed : M.deed 3 n z u 0 = .inr (l, M) := by
            simp only [Ls.deed, e]
          refine ⟨_, rfl, told l M H (fun q H2' c hq => ?_) (Chg.of (Same.refl _)) L (L.row l hmem)⟩
          have := post 0 H2' c
          rw [ed] at this
          exact this q hq
def spWhole (K : PySem.W.Frag) : Sp := fun vs H Q _ => ∃ x, vs = [x] ∧ Any K H x ∧ Q (.bl (isI x)) H
theorem ok_whole' (Df : Def K mg "_law_whole" s__law_whole ["_law_found"]) (B : Bltn mg) : Knows P w K mg base 1 "_law_whole" ["_law_found"] (spWhole K) := by
  refine Df.ok sc__law_whole (fun vs H Q E h => ?_) (fun f cdv A outer s H vs Q E hr h => ?_)
  · obtain ⟨x, rfl, _⟩ := h
    rfl
  · obtain ⟨x, rfl, ⟨⟨m, ty⟩, _⟩, q⟩ := h
    refine ⟨_, by exact (pss_one (ps_ret (pe_and (pe_isi B.isi B.int boot_int (pv 0)) (pe_one (pe_not (pe_isi B.isi B.bool boot_bool (pv 0))))))), ?_⟩
    refine ⟨_, rfl, _, _, _, rfl, ty, isiI ty, _, rfl, ?_⟩
    refine ite2 (fun hx => ?_) (fun hx => ?_)
    · refine ⟨_, rfl, _, _, _, rfl, ty, isiB ty, _, rfl, ?_⟩
      have e : isI x = !isBl x := by revert hx; cases x <;> simp [isI, isIB, isBl]
      rw [← e]
      exact q
    · have e : isI x = false := by revert hx; cases x <;> simp [isI, isIB]
      rw [e] at q
      exact q
end
end K09

set_option Elab.async false
set_option linter.all false
set_option maxRecDepth 100000
set_option maxHeartbeats 4000000
set_option pp.maxSteps 600
set_option pp.deepTerms false
namespace K09
open PySem L2 PyProof.Rows
theorem boot_tuple : bootBuiltins "tuple" = some (.type "tuple") := by kernel_rfl
theorem boot_min' : bootBuiltins "min" = some (.builtin "min") := by kernel_rfl
structure Bv (mg : Str → Option Value) : Prop where
  w : Bw mg
  tuple : mg "tuple" = none
  min : mg "min" = none
  sorted : mg "sorted" = none
theorem kvs_mdK (hs : List Lse) (M : Ls) (od : Addr) : kvsOf hs ≠ mdK M od := fun h => by
  cases hs with
  | nil => cases h
  | cons l r =>
    injection h with h3 _
    cases h3
/-- a house and the law's dict of it -/
structure Two (C : Addr) (zs : List Str) (H : Hp) (p hd d od : Addr) (m M : Ls) : Prop where
  ls : LsAt C H p hd m
  md : MdAt H d od M
  al : Alk m M
  rs : Rs zs m
  ne : hd ≠ od
section
variable {C : Addr} {zs : List Str} {H H' : Hp} {p hd d od : Addr} {m M : Ls}
theorem Two.same (h : Two C zs H p hd d od m M) (s : Same H H') : Two C zs H' p hd d od m M := ⟨h.ls.same s, h.md.same s, h.al, h.rs, h.ne⟩
theorem Two.pd (h : Two C zs H p hd d od m M) : p ≠ d := fun e => by
  obtain ⟨dx, a⟩ := h.ls.obj
  rw [e, h.md.obj] at a
  cases a
theorem Two.po (h : Two C zs H p hd d od m M) : p ≠ od := fun e => by
  obtain ⟨dx, a⟩ := h.ls.obj
  rw [e, h.md.tab] at a
  cases a
theorem Two.hd_d (h : Two C zs H p hd d od m M) : hd ≠ d := fun e => by
  have a := h.ls.tab
  rw [e, h.md.obj] at a
  injection a with a
  injection a with a
  exact kvs_mdK _ _ _ a.symm
theorem Two.notin (h : Two C zs H p hd d od m M) : d ∉ [p, hd] ∧ od ∉ [p, hd] := by
  simp only [List.mem_cons, List.not_mem_nil, or_false, not_or]
  exact ⟨⟨Ne.symm h.pd, Ne.symm h.hd_d⟩, Ne.symm h.po, Ne.symm h.ne⟩
theorem Two.notin2 (h : Two C zs H p hd d od m M) : p ∉ [d, od] ∧ hd ∉ [d, od] := by
  simp only [List.mem_cons, List.not_mem_nil, or_false, not_or]
  exact ⟨⟨h.pd, h.po⟩, h.hd_d, h.ne⟩
theorem Two.few (h : Two C zs H p hd d od m M) : M.held.length ≤ zs.length := by
  obtain ⟨g, rfl⟩ := h.al
  show (m.held.map _).length ≤ _
  rw [List.length_map]
  exact h.rs.few h.ls.ok
theorem Chg.wide {S S' : List Addr} (c : Chg S H H') (h : ∀ b ∈ S, b ∈ S') : Chg S' H H' := fun b o hb e => c b o (fun z => hb (h b z)) e
end
section
variable {P : Program} {w : World} {K : PySem.W.Frag} {mg : Str → Option Value} {base : Heap} {C : Addr} {D : Nat → Addr} {R : Nat → Prop}
def spAlike (K : PySem.W.Frag) : Sp := fun vs H Q _ => ∃ x y, vs = [x, y] ∧ ((∃ z : Str, x = .str z ∧ y = .str z) ∨ ∃ (q q' a b : Addr) (l : Lse), x = .ref q ∧ y = .ref q' ∧ H q = some (.lst [.ref a]) ∧ H q' = some (.lst [.ref b]) ∧ H a = some (.tup l.row) ∧ H b = some (.tup l.row)) ∧ ∀ H', Same H H' → Q (.bl true) H'
theorem ok_alike (Df : Def K mg "_law_alike" s__law_alike ["_law_found", "_law_due_here"]) (B : Bv mg) (k_whole : Knows P w K mg base 1 "_law_whole" ["_law_found"] (spWhole K)) : Knows P w K mg base 2 "_law_alike" ["_law_found", "_law_due_here"] (spAlike K) := by
  refine Df.ok sc__law_alike (fun vs H Q E h => ?_) (fun f cdv A outer s H vs Q E hr h => ?_)
  · obtain ⟨x, y, rfl, _⟩ := h
    rfl
  · obtain ⟨x, y, rfl, h, q⟩ := h
    have hu := hr.units
    refine ⟨_, by exact (pss_cons (ps_if (pt_val (pe_isiM B.w.b.isi B.w.b.str boot_str (pv 1))) (pss_one (ps_ret (pe_and (pe_isiM B.w.b.isi B.w.b.str boot_str (pv 0)) (pe_one (pe_cmpR op_eq (pv 0) (pv 1) (nomark _)))))) pss_nil)
      (pss_cons (ps_if (PW.pt (pw_or (pt_not (pt_val (pe_isiM B.w.b.isi B.w.b.list boot_list (pv 0)))) (pw_or (pt_cmpR (op_neD hu) (pv 0) (pv 1) (nomark _)) (pw_or1 (pt_not (pt_val (pe_isiM B.w.b.isi B.tuple boot_tuple (pe_ix ix_list (pv 0) pe_int (fun _ _ => rfl))))))))) (pss_one (ps_ret pe_bl)) pss_nil)
      (pss_one (ps_ret (pe_bcall (call_all rfl) rfl B.w.b.all boot_all (pa_c (pe_comp1 [0] ["_law_k", "_law_found"] rfl (pi_tup (pe_tup (pa_c pe_int (pa_c pe_int (pa_c pe_int (pa_c pe_int pa_nil)))))) (fun _ _ _ _ => pts_nil) (fun _ _ _ _ => (pe_callM k_whole hr (pa_c (pe_ix (ix_tupC (K0 := K) rfl) (pe_ix (ix_listC (K0 := K) rfl) (pv 1) pe_int (fun _ _ => rfl)) (pv 0) (fun _ _ => rfl)) pa_nil)))) pa_nil)))))), ?_⟩
    rcases h with ⟨z, rfl, rfl⟩ | ⟨q1, q2, a, b, l, rfl, rfl, h1, h2, ha, hb⟩
    · refine ⟨_, rfl, _, _, true, rfl, TyOf.str z, by kernel_rfl, _, rfl, iteT ?_⟩
      refine ⟨_, rfl, _, _, true, rfl, TyOf.str z, by kernel_rfl, _, rfl, iteT ?_⟩
      refine ⟨_, rfl, _, rfl, rfl, ?_⟩
      rw [dstr, decide_eq_true rfl]
      exact q _ (Same.refl _)
    · refine ⟨_, rfl, _, _, false, rfl, TyOf.lst h2, by kernel_rfl, _, rfl, iteF (next_to ?_)⟩
      dsimp only
      refine ⟨_, rfl, _, _, true, rfl, TyOf.lst h1, by kernel_rfl, _, rfl, iteF ?_⟩
      refine ⟨_, rfl, _, rfl, .l [rowD l], .l [rowD l], .l (SqL.of h1) (.cons (.t (SqT.of ha) (.cons (.a rfl) (.cons (.a rfl) (.cons (.a rfl) (.cons (.a rfl) (.cons (.a rfl) .nil)))))) .nil), .l (SqL.of h2) (.cons (.t (SqT.of hb) (.cons (.a rfl) (.cons (.a rfl) (.cons (.a rfl) (.cons (.a rfl) (.cons (.a rfl) .nil)))))) .nil), ?_, _, rfl, ?_⟩
      · have := dep_rows [l]
        simp only [depD, List.map_cons, List.map_nil] at this ⊢
        omega
      · have e : eqD (.l [rowD l]) (.l [rowD l]) = true := eqD_refl _ (by
          have := (sel_reps (K := K) (H := fun _ => some (.tup l.row)) (ls := [l]) (fun _ h => by rw [List.mem_singleton.mp h])).flat
          simpa [flatD] using this)
        rw [e]
        refine iteF ?_
        refine ⟨_, rfl, q1, _, _, _, rfl, rfl, SqL.of h1, atI_nat (j := 0) rfl, _, _, true, rfl, TyOf.tup ha, by kernel_rfl, _, rfl, iteF (next_to ?_)⟩
        dsimp only
        refine ⟨by show 4 ≤ sizeLine; decide, fun W hW => ⟨W, rfl, ⟨_, SqT.of upd_same⟩, ?_⟩⟩
        have sW : Same H (upd H W (.tup [.int 0, .int 1, .int 3, .int 4])) := same_of hW
        have eW : (upd H W (.tup [.int 0, .int 1, .int 3, .int 4])) W = some (.tup [.int 0, .int 1, .int 3, .int 4]) := upd_same
        generalize upd H W (.tup [.int 0, .int 1, .int 3, .int 4]) = HW at sW eW
        refine comp1_wk (wk_tup K W [.int 0, .int 1, .int 3, .int 4]) (fun i ys H' => H' = HW ∧ ys = (List.replicate i true).map V.bl) ⟨rfl, rfl⟩ (fun i ys H' _ h => ⟨by rw [h.1]; exact SqT.of eW, by rw [h.2, List.length_map, List.length_replicate]; exact Nat.le_refl _⟩) (by show 4 ≤ sizeLine; decide) (fun i x ys H' Nx hx h kn => ?_) (fun ys H' h Dd hD => ?_)
        · obtain ⟨rfl, rfl⟩ := h
          refine tTrue_use ?_
          have step : ∀ n : Int, Nx ((List.replicate i true).map V.bl ++ [V.bl (isI (.int n))]) H' := fun n => kn _ _ ⟨rfl, by rw [List.replicate_succ', List.map_append]; rfl⟩
          match i, hx with
          | 0, hx => cases hx; exact ⟨_, rfl, q1, _, _, _, rfl, rfl, SqL.of (sW _ _ h1), atI_nat (j := 0) rfl, _, rfl, a, _, _, _, rfl, rfl, SqT.of (sW _ _ ha), atI_nat (j := 0) rfl, _, rfl, .int, step _⟩
          | 1, hx => cases hx; exact ⟨_, rfl, q1, _, _, _, rfl, rfl, SqL.of (sW _ _ h1), atI_nat (j := 0) rfl, _, rfl, a, _, _, _, rfl, rfl, SqT.of (sW _ _ ha), atI_nat (j := 1) rfl, _, rfl, .int, step _⟩
          | 2, hx => cases hx; exact ⟨_, rfl, q1, _, _, _, rfl, rfl, SqL.of (sW _ _ h1), atI_nat (j := 0) rfl, _, rfl, a, _, _, _, rfl, rfl, SqT.of (sW _ _ ha), atI_nat (j := 3) rfl, _, rfl, .int, step _⟩
          | 3, hx => cases hx; exact ⟨_, rfl, q1, _, _, _, rfl, rfl, SqL.of (sW _ _ h1), atI_nat (j := 0) rfl, _, rfl, a, _, _, _, rfl, rfl, SqT.of (sW _ _ ha), atI_nat (j := 4) rfl, _, rfl, .int, step _⟩
          | k + 4, hx => simp at hx
        · obtain ⟨rfl, rfl⟩ := h
          exact ⟨Dd, _, rfl, SqL.of upd_same, q _ (sW.trans (same_of hD))⟩
theorem DonePost.mono {p hd : Addr} {H : Hp} {Q Q' : VK} {r : Addr → Sum Str (Lse × Ls)} (h : DonePost C p hd H Q r) (k : ∀ v H', Q v H' → Q' v H') : DonePost C p hd H Q' r := by
  intro T H' c
  have := h T H' c
  revert this
  cases r T with
  | inl z => exact fun a s => k _ _ (a s)
  | inr x => exact fun a q h1 h2 h3 h4 => k _ _ (a q h1 h2 h3 h4)
theorem DuePost.mono {d od : Addr} {H : Hp} {Q Q' : VK} {r : Addr → Sum Str (Lse × Ls)} (h : DuePost d od H Q r) (k : ∀ v H', Q v H' → Q' v H') : DuePost d od H Q' r := by
  intro T H' c
  have := h T H' c
  revert this
  cases r T with
  | inl z => exact fun a s => k _ _ (a s)
  | inr x => exact fun a q h1 h2 h3 h4 => k _ _ (a q h1 h2 h3 h4)
theorem spDone.mono {vs : List V} {H : Hp} {Q Q' : VK} {E E' : XK} (h : spDone C vs H Q E) (k : ∀ v H', Q v H' → Q' v H') : spDone C vs H Q' E' := by
  obtain ⟨p, hd, m, way, n, zv, z, u, e, L, h1, h2, h3, h4⟩ := h
  exact ⟨p, hd, m, way, n, zv, z, u, e, L, h1, h2, h3, h4.mono k⟩
theorem spDue.mono {vs : List V} {H : Hp} {Q Q' : VK} {E E' : XK} (h : spDue vs H Q E) (k : ∀ v H', Q v H' → Q' v H') : spDue vs H Q' E' := by
  obtain ⟨d, od, m, way, n, zv, z, u, e, L, h1, h2, h3, h4⟩ := h
  exact ⟨d, od, m, way, n, zv, z, u, e, L, h1, h2, h3, h4.mono k⟩
/-- what a deed and its model tell is alike, and leaves them alike -/
theorem dda {zs : List Str} {H : Hp} {p hd d od : Addr} {m M : Ls} {Qf : VK} {E E' E'' : XK} (t : Two C zs H p hd d od m M) (hg : m.given < 1000) (h8 : zs.length = 8) {way : Nat} (hw : way < 4) (n : Int) (zv : V) (z : Str) (u : Int) (hz : way = 0 → zv = .str z ∧ z ∈ zs)
    (fin : ∀ m' M' H', Chg [p, hd, d, od] H H' → Two C zs H' p hd d od m' M' → m'.given ≤ m.given + 1 → (way = 3 → m' = m ∧ M' = M) → Qf (.bl true) H') :
    spDone C [.ref p, .int (way : Int), .int n, zv, .int u] H (fun v H1 => spDue [.ref d, .int (way : Int), .int n, zv, .int u] H1 (fun v2 H2 => spAlike K [v, v2] H2 Qf E'') E') E := by
  have hfew : M.held.length ≤ 100 := Nat.le_trans t.few (by rw [h8]; decide)
  refine ⟨p, hd, m, way, n, zv, z, u, rfl, t.ls, hg, hw, fun h => (hz h).1, fun T H1 c1 => ?_⟩
  have md1 : MdAt H1 d od M := t.md.chg c1 t.ls.noT t.notin.1 t.notin.2
  have rs := t.rs.deed t.ls.ok (way := way) (n := n) (z := z) (u := u) (T := T) (fun h => (hz h).2)
  have ww : ∀ {S : List Addr} {A B : Hp}, (∀ b ∈ S, b ∈ [p, hd, d, od]) → Chg S A B → Chg [p, hd, d, od] A B := fun h c => c.wide h
  have w1 : ∀ b ∈ [p, hd], b ∈ [p, hd, d, od] := fun b hb => by simp at hb ⊢; rcases hb with h | h <;> simp [h]
  have w2 : ∀ b ∈ [d, od], b ∈ [p, hd, d, od] := fun b hb => by simp at hb ⊢; rcases hb with h | h <;> simp [h]
  cases e : m.deed way n z u T with
  | inl x =>
    intro s1
    refine ⟨d, od, M, way, n, zv, z, u, rfl, md1, hfew, hw, fun h => (hz h).1, fun T' H2 c2 => ?_⟩
    have al := t.al.deed t.ls.ok way n z u T T'
    rw [e] at al
    cases e' : M.deed way n z u T' with
    | inl x' =>
      intro s2
      rw [e'] at al
      obtain rfl : x = x' := al
      exact ⟨_, _, rfl, .inl ⟨x, rfl, rfl⟩, fun H3 s3 => fin m M H3 (Chg.of ((s1.trans s2).trans s3)) (t.same ((s1.trans s2).trans s3)) (Nat.le_succ _) (fun _ => ⟨rfl, rfl⟩)⟩
    | inr x' =>
      rw [e'] at al
      exact al.elim
  | inr x =>
    intro q hq eq L1 er
    rw [e] at rs
    refine ⟨d, od, M, way, n, zv, z, u, rfl, md1, hfew, hw, fun h => (hz h).1, fun T' H2 c2 => ?_⟩
    have al := t.al.deed t.ls.ok way n z u T T'
    rw [e] at al
    cases e' : M.deed way n z u T' with
    | inl x' =>
      rw [e'] at al
      exact al.elim
    | inr x' =>
      intro q' hq' eq' L2 er'
      rw [e'] at al
      obtain ⟨al1, al2⟩ := al
      have nq : q ∉ [d, od] := fun h => by
        simp only [List.mem_cons, List.not_mem_nil, or_false] at h
        rcases h with rfl | rfl
        · rw [t.md.obj] at hq; cases hq
        · rw [t.md.tab] at hq; cases hq
      have np := t.notin2
      refine ⟨_, _, rfl, .inr ⟨q, q', x.1.at_, x'.1.at_, x.1, rfl, rfl, c2 _ _ nq eq, eq', c2.tup md1.noT er, by rw [al1]; exact er'⟩, fun H3 s3 => ?_⟩
      refine fin x.2 x'.2 H3 (((ww w1 c1).trans (ww w2 c2)).trans (Chg.of s3)) ⟨(L1.chg c2 md1.noT np.1 np.2).same s3, L2.same s3, al2, rs.1, t.ne⟩ rs.2.2 (fun h3 => ?_)
      subst h3
      have f : ∀ (mm : Ls) (TT : Addr) (y : Lse × Ls), mm.deed 3 n z u TT = .inr y → y.2 = mm := fun mm TT y hy => by
        unfold Ls.deed at hy
        cases ho : mm.of (.int n) with
        | none => rw [ho] at hy; cases hy
        | some l =>
          rw [ho] at hy
          cases hy
          rfl
      exact ⟨f m T x e, f M T' x' e'⟩
theorem int_at {zs : List Str} {i : Int} (h8 : zs.length = 8) : ∃ z, atI (zs.map V.str) (i % 8) = some (.str z) ∧ z ∈ zs := by
  obtain ⟨v, hv, hm, _⟩ := atI_mem (xs := zs.map V.str) (i := i % 8) (Int.emod_nonneg _ (by decide)) (by rw [List.length_map, h8]; exact Int.emod_lt_of_pos _ (by decide))
  obtain ⟨z, hz, rfl⟩ := List.mem_map.mp hm
  exact ⟨z, hv, hz⟩
theorem keys_nums (hs : List Lse) : (kvsOf hs).map (·.1) = (hs.map fun l => (l.num : Int)).map Sum.inl := by
  unfold kvsOf
  rw [List.map_map, List.map_map]
  rfl
def spDeed (C : Addr) : Sp := fun vs H Q _ => ∃ (zs : List Str) (p hd d od nl : Addr) (m M : Ls) (c u : Int), vs = [.ref p, .ref d, .int c, .ref nl, .int u] ∧ Two C zs H p hd d od m M ∧ H nl = some (.lst (zs.map V.str)) ∧ zs.length = 8 ∧ m.given < 1000 ∧
  ∀ m' M' H', Chg [p, hd, d, od] H H' → Two C zs H' p hd d od m' M' → m'.given ≤ m.given + 1 → Q (.bl true) H'
theorem ok_deed (Df : Def K mg "_law_deed" s__law_deed ["_law_house", "_law_m", "_law_cell", "_law_names_here", "_law_turn"]) (B : Bv mg) (k_done : Knows P w K mg base 4 "_law_done" ["_law_house", "_law_way", "_law_one", "_law_other", "_law_turn"] (spDone C)) (k_due : Knows P w K mg base 1 "_law_due" ["_law_m", "_law_way", "_law_one", "_law_other", "_law_turn"] spDue) (k_alike : Knows P w K mg base 2 "_law_alike" ["_law_found", "_law_due_here"] (spAlike K)) :
    Knows P w K mg base 5 "_law_deed" ["_law_house", "_law_m", "_law_cell", "_law_names_here", "_law_turn"] (spDeed C) := by
  refine Df.ok sc__law_deed (fun vs H Q E h => ?_) (fun f cdv A outer s H vs Q E hr h => ?_)
  · obtain ⟨zs, p, hd, d, od, nl, m, M, c, u, rfl, _⟩ := h
    rfl
  · obtain ⟨zs, p, hd, d, od, nl, m, M, c, u, rfl, t, hn, h8, hg, q⟩ := h
    have hu := hu1 hr
    have hu0 := hr.units0
    refine ⟨_, by exact (pss_cons (ps_set (i := 5) sc__law_deed.nd rfl (Or.inl rfl) (pe_ix ix_list (pe_lst (pa_c pe_int (pa_c pe_int (pa_c pe_int (pa_c pe_int (pa_c pe_int (pa_c pe_int (pa_c pe_int pa_nil)))))))) (pe_op op_mod (pv 2) pe_int) (fun _ _ => rfl)))
      (pss_cons (ps_set (i := 6) sc__law_deed.nd rfl (Or.inl rfl) (pe_op op_mod (pe_op op_fdiv (pv 2) pe_int) (pe_op op_add (pe_dget hu (pv 1) pe_str (fun _ _ => rfl)) pe_int)))
      (pss_cons (ps_if (pt_cmpR op_eq (pv 5) pe_int (nomark _)) (pss_one (ps_set (i := 6) sc__law_deed.nd rfl (Or.inl rfl) (pe_op op_mod (pe_op op_fdiv (pv 2) pe_int) pe_int))) (pss_one (ps_if (PW.pt (pw_and (pt_cmpR op_gt (pe_op op_mod (pe_op op_fdiv (pv 2) pe_int) pe_int) pe_int (nomark _)) (pw_and1 (pt_cmpR (op_neE hu0) (pe_dget hu (pv 1) pe_str (fun _ _ => rfl)) pe_dnewK (nomark _))))) (pss_one (ps_set (i := 6) sc__law_deed.nd rfl (Or.inl rfl) (pe_ix ix_list (pe_bcall (call_sortedD rfl) rfl B.sorted boot_sorted' (pa_c (pe_dget hu (pv 1) pe_str (fun _ _ => rfl)) pa_nil)) (pe_op op_mod (pe_op op_fdiv (pv 2) pe_int) (pe_bcall call_lenD rfl B.w.b.len PySem.boot_len (pa_c (pe_dget hu (pv 1) pe_str (fun _ _ => rfl)) pa_nil))) (fun _ _ => rfl)))) pss_nil)))
      (pss_cons (ps_set (i := 7) sc__law_deed.nd rfl (Or.inl rfl) (pe_ix ix_list (pv 3) (pe_op op_mod (pe_op op_fdiv (pv 2) pe_int) pe_int) (fun _ _ => rfl)))
      (pss_cons (ps_set (i := 8) sc__law_deed.nd rfl (Or.inl rfl) (pe_callM k_done hr (pa_c (pv 0) (pa_c (pv 5) (pa_c (pv 6) (pa_c (pv 7) (pa_c (pv 4) pa_nil)))))))
      (pss_one (ps_ret (pe_callM k_alike hr (pa_c (pv 8) (pa_c (pe_callM k_due hr (pa_c (pv 1) (pa_c (pv 5) (pa_c (pv 6) (pa_c (pv 7) (pa_c (pv 4) pa_nil)))))) pa_nil)))))))))), ?_⟩
    refine ⟨by show 7 ≤ sizeLine; decide, fun l hl => ?_⟩
    have s1 : Same H (upd H l (.lst [.int 0, .int 0, .int 0, .int 1, .int 1, .int 2, .int 2])) := same_of hl
    obtain ⟨v, hv, hm, _⟩ := atI_mem (xs := [V.int 0, .int 0, .int 0, .int 1, .int 1, .int 2, .int 2]) (i := c % 7) (Int.emod_nonneg _ (show (7 : Int) ≠ 0 by decide)) (Int.emod_lt_of_pos _ (show (0 : Int) < 7 by decide))
    have hv2 : ∃ way : Nat, v = .int (way : Int) ∧ way < 3 := by
      simp only [List.mem_cons, List.not_mem_nil, or_false] at hm
      rcases hm with rfl | rfl | rfl | rfl | rfl | rfl | rfl
      · exact ⟨0, rfl, by decide⟩
      · exact ⟨0, rfl, by decide⟩
      · exact ⟨0, rfl, by decide⟩
      · exact ⟨1, rfl, by decide⟩
      · exact ⟨1, rfl, by decide⟩
      · exact ⟨2, rfl, by decide⟩
      · exact ⟨2, rfl, by decide⟩
    obtain ⟨way, rfl, hw⟩ := hv2
    refine ⟨_, rfl, _, _, rfl, rfl, by walk_at "m", l, _, _, _, rfl, rfl, SqL.of upd_same, hv, ?_⟩
    dsimp only [gName]
    generalize upd H l (.lst [.int 0, .int 0, .int 0, .int 1, .int 1, .int 2, .int 2]) = H1 at s1
    have t1 := t.same s1
    have hpos : (0 : Int) < (M.given : Int) + 1 := by omega
    refine ⟨_, rfl, _, _, rfl, rfl, by walk_at "m", _, rfl, d, _, rfl, t1.md.gG, _, _, rfl, rfl, _, _, rfl, rfl, hpos, ?_⟩
    dsimp only [gName]
    refine stm_use (fun σ' H' => Same H H' ∧ ∃ n : Int, σ' = [some (.ref p), some (.ref d), some (.int c), some (.ref nl), some (.int u), some (.int (way : Int)), some (.int n), none, none]) (fun Q' kk => ?_) ?_
    · refine ⟨_, rfl, rfl, _, rfl, ite2 (fun h0 => ?_) (fun h0 => ?_)⟩
      · exact ⟨_, rfl, _, _, rfl, rfl, by walk_at "m", _, _, rfl, rfl, by walk_at "m", kk _ _ ⟨s1, _, rfl⟩⟩
      · refine ⟨_, rfl, _, _, rfl, rfl, by walk_at "m", _, _, rfl, rfl, by walk_at "m", _, _, rfl, rfl, _, rfl, ite2 (fun h1 => ?_) (fun h1 => ?_)⟩
        · refine ⟨_, rfl, d, _, rfl, t1.md.gO, fun e he => ?_⟩
          have s2 : Same H1 (upd H1 e (.dK [])) := same_of he
          have e2 : (upd H1 e (.dK [])) e = some (.dK []) := upd_same
          generalize upd H1 e (.dK []) = H2 at s2 e2
          have t2 := t1.same s2
          refine ⟨od, e, kvsOf M.held, rfl, rfl, t2.md.tab, e2, _, rfl, ite2 (fun h2 => ?_) (fun h2 => ?_)⟩
          · have hne : M.held ≠ [] := fun z => by rw [z] at h2; cases h2
            have hfew : M.held.length ≤ 8 := by rw [← h8]; exact t.few
            refine ⟨_, rfl, d, _, rfl, t2.md.gO, od, kvsOf M.held, M.held.map fun l => (l.num : Int), rfl, t2.md.tab, keys_nums _, by rw [List.length_map]; omega, fun sp ms hsp perm srt => ?_⟩
            have s3 : Same H2 (upd H2 sp (.lst (ms.map V.int))) := same_of hsp
            have e3 : (upd H2 sp (.lst (ms.map V.int))) sp = some (.lst (ms.map V.int)) := upd_same
            generalize upd H2 sp (.lst (ms.map V.int)) = H3 at s3 e3
            have t3 := t2.same s3
            have hl3 : ms.length = M.held.length := by rw [perm.length_eq, List.length_map]
            have hp3 : 0 < M.held.length := List.length_pos_iff.mpr hne
            have hp4 : (0 : Int) < ((kvsOf M.held).length : Int) := by rw [kvs_len]; omega
            obtain ⟨v, hv, hm, _⟩ := atI_mem (xs := ms.map V.int) (i := c / 7 % ((kvsOf M.held).length : Int)) (Int.emod_nonneg _ (by omega)) (by rw [List.length_map, hl3, ← kvs_len]; exact Int.emod_lt_of_pos _ hp4)
            obtain ⟨n, _, rfl⟩ := List.mem_map.mp hm
            exact ⟨_, rfl, _, _, rfl, rfl, by walk_at "m", _, rfl, d, _, rfl, t3.md.gO, od, _, rfl, t3.md.tab, _, _, rfl, rfl, hp4, sp, _, _, _, rfl, rfl, SqL.of e3, hv, kk _ _ ⟨(s1.trans s2).trans s3, _, rfl⟩⟩
          · exact kk _ _ ⟨s1.trans s2, _, rfl⟩
        · exact iteF (kk _ _ ⟨s1, _, rfl⟩)
    · rintro σ' H2 ⟨s2, n, rfl⟩
      obtain ⟨z, hz, hzm⟩ := int_at (zs := zs) (i := c / 280) h8
      refine ⟨_, rfl, _, rfl, _, _, rfl, rfl, by walk_at "m", _, _, rfl, rfl, by walk_at "m", nl, _, _, _, rfl, rfl, SqL.of (s2 _ _ hn), hz, ?_⟩
      dsimp only [gName]
      refine ⟨_, rfl, _, rfl, _, rfl, _, rfl, _, rfl, spDone.mono (E' := E0) (dda (K := K) (Qf := Q) (E := E0) (E' := E0) (E'' := E0) (t.same s2) hg h8 (way := way) (by omega) n (.str z) z u (fun _ => ⟨rfl, hzm⟩) (fun m' M' H' ch t' hle _ => q m' M' H' ((Chg.of s2).trans ch) t' hle)) (fun v H' hh => ?_)⟩
      dsimp only [gName]
      exact ⟨_, rfl, _, rfl, _, rfl, _, rfl, _, rfl, _, rfl, spDue.mono (E' := E0) hh (fun v2 H'' hh2 => hh2)⟩
end
end K09

set_option Elab.async false
set_option linter.all false
set_option maxRecDepth 100000
set_option maxHeartbeats 4000000
set_option pp.maxSteps 600
set_option pp.deepTerms false
namespace K09
open PySem L2 PyProof.Rows
def hv (m : Ls) (z : Str) : V := match m.by_ z with
  | some l => .ref l.at_
  | none => .non
def hvD (m : Ls) (z : Str) : L2.D := match m.by_ z with
  | some l => rowD l
  | none => .a .non
theorem hvD_alk {m M : Ls} (h : Alk m M) (z : Str) : hvD M z = hvD m z := by
  obtain ⟨g, rfl⟩ := h
  unfold hvD
  rw [re_by]
  cases m.by_ z with
  | none => rfl
  | some l => rfl
theorem rows_alk {m M : Ls} (h : Alk m M) : M.held.map rowD = m.held.map rowD := by
  obtain ⟨g, rfl⟩ := h
  show (m.held.map (reL g)).map rowD = _
  rw [List.map_map]
  rfl
theorem hv_rep {K : PySem.W.Frag} {H : Hp} {m : Ls} (h : ∀ l ∈ m.held, H l.at_ = some (.tup l.row)) (z : Str) : Rep K H (hv m z) (hvD m z) := by
  unfold hv hvD
  cases e : m.by_ z with
  | none => exact .a rfl
  | some l => exact row_rep (h l (by_some e).1)
theorem hvD_dep (m : Ls) (z : Str) : depD (hvD m z) ≤ 60 := by
  unfold hvD
  cases m.by_ z with
  | none => simp [depD]
  | some l => simp [rowD, depD, depDs]
theorem sel_at (M : Ls) (z : Str) : atI ((M.sel z).map (fun l => V.ref l.at_) ++ [.non]) 0 = some (hv M z) := by
  unfold hv
  cases e : M.by_ z with
  | none =>
    rw [sel_nil e]
    exact atI_nat (j := 0) rfl
  | some l =>
    obtain ⟨r, er⟩ := sel_cons e
    rw [er]
    exact atI_nat (j := 0) rfl
/-- what was told and then changed -/
def PairOk (H : Hp) (hl t : Addr) : Prop := ∃ (a b : Addr) (ls : List Lse), H t = some (.tup [.ref a, .ref b]) ∧ a ≠ hl ∧ b ≠ hl ∧ H a = some (.lst (ls.map (fun l => V.ref l.at_) ++ [.non])) ∧ H b = some (.lst (ls.map (fun l => V.ref l.at_) ++ [.non])) ∧ ∀ l ∈ ls, H l.at_ = some (.tup l.row)
structure HeldAt (H : Hp) (hl : Addr) (n : Nat) : Prop where
  ex : ∃ ts : List Addr, H hl = some (.lst (ts.map V.ref)) ∧ ts.length ≤ n ∧ ∀ t ∈ ts, PairOk H hl t
def noL (H : Hp) (S : List Addr) : Prop := ∀ b ∈ S, ∀ xs, H b ≠ some (.lst xs)
theorem Chg.lst {S : List Addr} {H H' : Hp} (c : Chg S H H') (n : noL H S) {b : Addr} {xs : List V} (e : H b = some (.lst xs)) : H' b = some (.lst xs) := c b _ (fun hb => n b hb xs e) e
theorem PairOk.chg {S : List Addr} {H H' : Hp} {hl t : Addr} (h : PairOk H hl t) (c : Chg S H H') (n1 : noT H S) (n2 : ∀ b ∈ S, b ≠ hl → ∀ xs, H b ≠ some (.lst xs)) : PairOk H' hl t := by
  obtain ⟨a, b, ls, h1, h2, h3, h4, h5, h6⟩ := h
  exact ⟨a, b, ls, c.tup n1 h1, h2, h3, c _ _ (fun z => n2 a z h2 _ h4) h4, c _ _ (fun z => n2 b z h3 _ h5) h5, fun l hl' => c.tup n1 (h6 l hl')⟩
theorem HeldAt.chg {S : List Addr} {H H' : Hp} {hl : Addr} {n : Nat} (h : HeldAt H hl n) (c : Chg S H H') (n1 : noT H S) (n2 : noL H S) : HeldAt H' hl n := by
  obtain ⟨ts, h1, h2, h3⟩ := h
  exact ⟨ts, c.lst n2 h1, h2, fun t ht => (h3 t ht).chg c n1 fun b hb _ => n2 b hb⟩
theorem HeldAt.more {H : Hp} {hl : Addr} {n n' : Nat} (h : HeldAt H hl n) (hle : n ≤ n') : HeldAt H hl n' := by
  obtain ⟨ts, h1, h2, h3⟩ := h
  exact ⟨ts, h1, Nat.le_trans h2 hle, h3⟩
section
variable {C : Addr} {zs : List Str} {H H' : Hp} {p hd d od : Addr} {m M : Ls}
theorem Two.noT (h : Two C zs H p hd d od m M) : noT H [p, hd, d, od] := fun b hb xs e => by
  obtain ⟨dx, a⟩ := h.ls.obj
  simp only [List.mem_cons, List.not_mem_nil, or_false] at hb
  rcases hb with rfl | rfl | rfl | rfl
  · rw [a] at e; cases e
  · rw [h.ls.tab] at e; cases e
  · rw [h.md.obj] at e; cases e
  · rw [h.md.tab] at e; cases e
theorem Two.noL (h : Two C zs H p hd d od m M) : noL H [p, hd, d, od] := fun b hb xs e => by
  obtain ⟨dx, a⟩ := h.ls.obj
  simp only [List.mem_cons, List.not_mem_nil, or_false] at hb
  rcases hb with rfl | rfl | rfl | rfl
  · rw [a] at e; cases e
  · rw [h.ls.tab] at e; cases e
  · rw [h.md.obj] at e; cases e
  · rw [h.md.tab] at e; cases e
theorem Two.chg {S : List Addr} (h : Two C zs H p hd d od m M) (c : Chg S H H') (n : K09.noT H S) (h1 : p ∉ S) (h2 : hd ∉ S) (h3 : d ∉ S) (h4 : od ∉ S) : Two C zs H' p hd d od m M := ⟨h.ls.chg c n h1 h2, h.md.chg c n h3 h4, h.al, h.rs, h.ne⟩
end
theorem w4 {p hd d od hl : Addr} : ∀ b ∈ [p, hd, d, od], b ∈ [p, hd, d, od, hl] := fun b hb => by
  simp only [List.mem_cons, List.not_mem_nil, or_false] at hb ⊢
  rcases hb with h | h | h | h <;> simp [h]
section
variable {P : Program} {w : World} {K : PySem.W.Frag} {mg : Str → Option Value} {base : Heap} {C : Addr} {D : Nat → Addr} {R : Nat → Prop}
theorem spAlike.mono {vs : List V} {H : Hp} {Q Q' : VK} {E E' : XK} (h : spAlike K vs H Q E) (k : ∀ v H', Q v H' → Q' v H') : spAlike K vs H Q' E' := by
  obtain ⟨x, y, e, h1, h2⟩ := h
  exact ⟨x, y, e, h1, fun H' s => k _ _ (h2 H' s)⟩
theorem spHolder.use {H : Hp} {p hd : Addr} {m : Ls} {z : Str} {Q : VK} {E : XK} (L : LsAt C H p hd m) (k : ∀ H3, Same H H3 → Q (hv m z) H3) : spHolder C [.ref p, .str z] H Q E := by
  refine ⟨p, hd, m, z, rfl, L, fun l hl H3 s3 => ?_, fun hn H3 s3 => ?_⟩
  · have := k H3 s3
    unfold hv at this
    rw [hl] at this
    exact this
  · have := k H3 s3
    unfold hv at this
    rw [hn] at this
    exact this
theorem cutV_mem {xs : List V} {lo hi : Option Int} {v : V} (h : v ∈ cutV xs lo hi) : v ∈ xs := by
  unfold cutV at h
  exact List.mem_of_mem_drop (List.mem_of_mem_take h)
def spAsked (C : Addr) : Sp := fun vs H Q _ => ∃ (zs : List Str) (p hd d od nl hl : Addr) (m M : Ls) (way : Nat) (c : Int) (n : Nat), vs = [.ref p, .ref d, .int (way : Int), .int c, .ref nl, .ref hl] ∧ Two C zs H p hd d od m M ∧ H nl = some (.lst (zs.map V.str)) ∧ zs.length = 8 ∧ m.given < 1000 ∧ way < 5 ∧ HeldAt H hl n ∧ n < 100000 ∧
  ∀ H', Chg [p, hd, d, od, hl] H H' → Two C zs H' p hd d od m M → HeldAt H' hl (n + 1) → Q (.bl true) H'
theorem ok_asked (Df : Def K mg "_law_asked" s__law_asked ["_law_house", "_law_m", "_law_way", "_law_cell", "_law_names_here", "_law_held"]) (B : Bv mg) (S : LCls K mg C) (k_whole : Knows P w K mg base 1 "_law_whole" ["_law_found"] (spWhole K)) (k_done : Knows P w K mg base 4 "_law_done" ["_law_house", "_law_way", "_law_one", "_law_other", "_law_turn"] (spDone C)) (k_due : Knows P w K mg base 1 "_law_due" ["_law_m", "_law_way", "_law_one", "_law_other", "_law_turn"] spDue) (k_alike : Knows P w K mg base 2 "_law_alike" ["_law_found", "_law_due_here"] (spAlike K))
    (km_holder : KnowsM CX0 P w K mg base 1 C "holder" ["self", "worker"] (spHolder C)) (km_rows : KnowsM CX0 P w K mg base 1 C "rows" ["self"] (spRows C)) :
    Knows P w K mg base 5 "_law_asked" ["_law_house", "_law_m", "_law_way", "_law_cell", "_law_names_here", "_law_held"] (spAsked C) := by
  refine Df.ok sc__law_asked (fun vs H Q E h => ?_) (fun f cdv A outer s H vs Q E hr h => ?_)
  · obtain ⟨zs, p, hd, d, od, nl, hl, m, M, way, c, n, rfl, _⟩ := h
    rfl
  · obtain ⟨zs, p, hd, d, od, nl, hl, m, M, way, c, n, rfl, t, hn, h8, hg, hw, he, hn5, q⟩ := h
    have hu := hu1 hr
    have huD := hr.units
    obtain ⟨dx, hp⟩ := t.ls.obj
    refine ⟨_, by exact (pss_cons (ps_if (pt_cmpR op_eq (pv 2) pe_int (nomark _)) (pss_one (ps_ret (pe_and (pe_callM k_whole hr (pa_c (pe_fld (pv 0) rfl) pa_nil)) (pe_one (pe_cmpR op_eq (pe_fld (pv 0) rfl) (pe_dget hu (pv 1) pe_str (fun _ _ => rfl)) (nomark _)))))) pss_nil)
      (pss_cons (ps_if (pt_cmpR op_eq (pv 2) pe_int (nomark _)) (pss_one (ps_ret (pe_and (pe_callM k_whole hr (pa_c (pe_fld (pv 0) rfl) pa_nil)) (pe_one (pe_cmpR op_eq (pe_fld (pv 0) rfl) (pe_dget hu (pv 1) pe_str (fun _ _ => rfl)) (nomark _)))))) pss_nil)
      (pss_cons (ps_if (pt_cmpR op_eq (pv 2) pe_int (nomark _)) (pss_cons (ps_for PassesOwn.never rfl (pi_range1 rfl B.w.b.range (pa_c pe_int pa_nil)) (pg_name (i := 6) sc__law_asked.nd rfl (Or.inr rfl)) (pss_cons (ps_thaw (ps_setC (i := 7) [3, 4, 6] ["_law_lease", "_law_cell", "_law_names_here", "_law_k"] sc__law_asked.nd rfl (Or.inl rfl) rfl (pi_vals (pe_dvals (pe_dget hu (pv 1) pe_str (fun _ _ => rfl)) ⟨rfl, by rfl, rfl, rfl⟩)) (fun _ _ _ _ => pts_one (pt_cmpR op_eq (pe_ix (ix_tupC (K0 := K) rfl) (pv 0) pe_int (fun _ _ => rfl)) (pe_ix (ix_listC (K0 := K) rfl) (pv 2) (pe_op op_mod (pe_op op_add (pv 3) (pv 1)) pe_int) (fun _ _ => rfl)) (nomark _))) (fun _ _ _ _ => (pv 0))))
      (pss_one (ps_if (pt_cmpR (op_neD huD) (pe_methM km_holder S.cl hr pass0 (pv 0) (pa_c (pe_ix ix_list (pv 4) (pe_op op_mod (pe_op op_add (pv 6) (pv 3)) pe_int) (fun _ _ => rfl)) pa_nil)) (pe_ix ix_list (pe_op op_cat (pv 7) (pe_lst (pa_c pe_non pa_nil))) pe_int (fun _ _ => rfl)) (nomark _)) (pss_one (ps_ret pe_bl)) pss_nil))))
      (pss_one (ps_ret pe_bl))) pss_nil)
      (pss_cons (ps_if (pt_cmpR op_eq (pv 2) pe_int (nomark _)) (pss_cons (ps_set (i := 8) sc__law_asked.nd rfl (Or.inr rfl) (pe_op op_add (pe_dget hu (pv 1) pe_str (fun _ _ => rfl)) pe_int))
      (pss_cons (ps_for PassesOwn.never rfl (pi_list (pe_slice sl_list (pe_comp1 [3, 8] ["_law_k", "_law_cell", "_law_many"] rfl (pi_range1 rfl B.w.b.range (pa_c (pv 8) pa_nil)) (fun _ _ _ _ => pts_nil) (fun _ _ _ _ => (pe_op op_mod (pe_op op_add (pv 0) (pv 1)) (pv 2)))) po_none (po_some pe_int))) (pg_name (i := 9) sc__law_asked.nd rfl (Or.inl rfl)) (pss_one (ps_if (pt_not (pt_val (pe_callM k_alike hr (pa_c (pe_callM k_done hr (pa_c (pv 0) (pa_c pe_int (pa_c (pv 9) (pa_c pe_non (pa_c pe_int pa_nil)))))) (pa_c (pe_callM k_due hr (pa_c (pv 1) (pa_c pe_int (pa_c (pv 9) (pa_c pe_non (pa_c pe_int pa_nil)))))) pa_nil))))) (pss_one (ps_ret pe_bl)) pss_nil)))
      (pss_one (ps_ret pe_bl)))) pss_nil)
      (pss_cons (ps_set (i := 10) sc__law_asked.nd rfl (Or.inl rfl) (pe_methM0 km_rows S.cl hr pass0 (pv 0)))
      (pss_cons (ps_if (PW.pt (pw_or (pt_not (pt_val (pe_isiM B.w.b.isi B.w.b.list boot_list (pv 10)))) (pw_or1 (pt_cmpR (op_neD huD) (pv 10) (pe_comp1 [1] ["_law_number", "_law_m"] rfl (pi_list (pe_bcall (call_sortedD rfl) rfl B.sorted boot_sorted' (pa_c (pe_dget hu (pv 1) pe_str (fun _ _ => rfl)) pa_nil))) (fun _ _ _ _ => pts_nil) (fun _ _ _ _ => (pe_dget hu (pe_dget hu (pv 1) pe_str (fun _ _ => rfl)) (pv 0) (fun _ _ => rfl)))) (nomark _))))) (pss_one (ps_ret pe_bl)) pss_nil)
      (pss_cons (ps_expr (pe_mcall PySem.F.plainAttrs_list PySem.F.slot_list_append PySem.F.type_list_append mt_append (pv 10) (pa_c pe_non pa_nil)))
      (pss_cons (ps_expr (pe_mcall PySem.F.plainAttrs_list PySem.F.slot_list_append PySem.F.type_list_append mt_append (pv 5) (pa_c (pe_tup (pa_c (pv 10) (pa_c (pe_tcall call_list_of rfl B.w.b.list boot_list (pa_c (pv 10) pa_nil)) pa_nil))) pa_nil)))
      (pss_one (ps_ret pe_bl)))))))))), ?_⟩
    have fin : ∀ H', Same H H' → Q (.bl true) H' := fun H' s => q H' (Chg.of s) (t.same s) ((he.chg (S := []) (Chg.of s) (fun _ h => by cases h) (fun _ h => by cases h)).more (Nat.le_succ _))
    have al := t.al
    have e1 : m.term = M.term := by obtain ⟨g, rfl⟩ := al; rfl
    have e2 : m.given = M.given := by obtain ⟨g, rfl⟩ := al; rfl
    have hfew : M.held.length ≤ 8 := by rw [← h8]; exact t.few
    match way, hw with
    | 0, _ =>
      refine ⟨_, rfl, rfl, _, rfl, iteT ?_⟩
      refine ⟨_, rfl, p, C, dx, _, _, rfl, hp, S.cl, S.n1, rfl, _, rfl, .int, _, rfl, iteT ?_⟩
      refine ⟨_, rfl, p, C, dx, _, _, rfl, hp, S.cl, S.n1, rfl, _, rfl, d, _, rfl, t.md.gT, rfl, ?_⟩
      rw [e1, decide_eq_true rfl]
      exact fin _ (Same.refl _)
    | 1, _ =>
      refine ⟨_, rfl, rfl, _, rfl, iteF (next_to ?_)⟩
      dsimp only
      refine ⟨_, rfl, rfl, _, rfl, iteT ?_⟩
      refine ⟨_, rfl, p, C, dx, _, _, rfl, hp, S.cl, S.n2, rfl, _, rfl, .int, _, rfl, iteT ?_⟩
      refine ⟨_, rfl, p, C, dx, _, _, rfl, hp, S.cl, S.n2, rfl, _, rfl, d, _, rfl, t.md.gG, rfl, ?_⟩
      rw [e2, decide_eq_true rfl]
      exact fin _ (Same.refl _)
    | 2, _ =>
      refine ⟨_, rfl, rfl, _, rfl, iteF (next_to ?_)⟩
      dsimp only
      refine ⟨_, rfl, rfl, _, rfl, iteF (next_to ?_)⟩
      dsimp only
      refine ⟨_, rfl, rfl, _, rfl, iteT ?_⟩
      refine ⟨8, rfl, by decide, by decide, ?_⟩
      refine for_range (n := 8) (fun i σ H' => Same H H' ∧ ∃ v6 v7, σ = [some (.ref p), some (.ref d), some (.int ((2 : Nat) : Int)), some (.int c), some (.ref nl), some (.ref hl), v6, v7, none, none, none]) ⟨Same.refl _, _, _, rfl⟩ ?_ (fun σ H1 h => fin _ h.1)
      rintro i σ H1 hi ⟨s1, v6, v7, rfl⟩
      have t1 := t.same s1
      obtain ⟨z, hz, hzm⟩ := int_at (zs := zs) (i := (0 + (i : Int)) + c) h8
      dsimp only [gName]
      refine stm_use (fun σ' H' => Same H1 H' ∧ ∃ Dd, H' Dd = some (.lst ((M.sel z).map fun l => V.ref l.at_)) ∧ σ' = [some (.ref p), some (.ref d), some (.int ((2 : Nat) : Int)), some (.int c), some (.ref nl), some (.ref hl), some (.int (0 + (i : Int))), some (.ref Dd), none, none, none]) (fun Q' kk => ?_) ?_
      · refine ⟨_, rfl, d, _, rfl, t1.md.gO, od, kvsOf M.held, rfl, t1.md.tab, fun r hrn => ⟨r, od, kvsOf M.held, rfl, upd_same, ?_, fun ob nf => ?_⟩⟩
        · rw [upd_ne (ne_of_none t1.md.tab hrn)]
          exact t1.md.tab
        have s2 : Same H1 (upd H1 r (ViewO r od)) := same_of hrn
        generalize upd H1 r (ViewO r od) = H2 at s2
        have keep : ∀ b v, b ≠ od → H1 b = some v → (upd H2 od (.frz ob (.dK (kvsOf M.held)))) b = some v := fun b v hb e => by
          rw [upd_ne hb]
          exact s2 _ _ e
        have rows : ∀ l ∈ M.held, (upd H2 od (.frz ob (.dK (kvsOf M.held)))) l.at_ = some (.tup l.row) := fun l hl => keep _ _ (fun zz => by have := t1.md.row l hl; rw [zz, t1.md.tab] at this; cases this) (t1.md.row l hl)
        have hnf : (upd H2 od (.frz ob (.dK (kvsOf M.held)))) nl = some (.lst (zs.map V.str)) := keep _ _ (fun zz => by have := s1 _ _ hn; rw [zz, t1.md.tab] at this; cases this) (s1 _ _ hn)
        have hfz : (upd H2 od (.frz ob (.dK (kvsOf M.held)))) od = some (.frz ob (.dK (kvsOf M.held))) := upd_same
        generalize upd H2 od (.frz ob (.dK (kvsOf M.held))) = Hf at keep rows hfz hnf
        refine comp_sel (z := z) hfz (Nat.le_trans hfew (by decide)) (fun l hl Q1 k1 => ?_) (fun l Q1 k1 => ⟨_, rfl, k1⟩) (fun Dd hD => ?_)
        · refine ⟨_, rfl, l.at_, _, _, _, rfl, rfl, SqT.of (rows l hl), atI_nat (j := 2) rfl, _, rfl, _, rfl, _, rfl, _, _, rfl, rfl, _, _, rfl, rfl, by walk_at "m", nl, _, _, _, rfl, rfl, SqL.of hnf, hz, rfl, _, rfl, ?_⟩
          rw [dstr]
          exact k1
        · dsimp only [gName]
          refine ⟨od, _, ob, same_of hD _ _ hfz, nf, kk _ _ ⟨thaw_same t1.md.tab fun b v hb e => same_of hD _ _ (keep b v hb e), Dd, ?_, rfl⟩⟩
          rw [upd_ne (fun zz => by rw [zz, hfz] at hD; cases hD)]
          exact upd_same
      · rintro σ' H2 ⟨s2, Dd, eD, rfl⟩
        have s12 := s1.trans s2
        have t2 := t.same s12
        obtain ⟨dx2, hp2⟩ := t2.ls.obj
        refine ⟨_, rfl, p, dx2, _, rfl, hp2, rfl, _, rfl, _, rfl, _, rfl, _, _, rfl, rfl, _, _, rfl, rfl, by walk_at "m", nl, _, _, _, rfl, rfl, SqL.of (s12 _ _ hn), hz, ?_⟩
        dsimp only [tNil, List.append_nil]
        refine spHolder.use t2.ls fun H3 s3 => ?_
        refine ⟨_, rfl, by show 1 ≤ sizeLine; decide, fun e he => ⟨Dd, e, _, _, rfl, rfl, same_of he _ _ (s3 _ _ eD), upd_same, ?_, fun cc hcc => ?_⟩⟩
        · rw [List.length_map]
          have h1 : (M.sel z).length ≤ M.held.length := List.length_filter_le _ _
          exact Nat.le_trans (show _ ≤ 9 by simp; omega) (by decide)
        · have s4 : Same H3 (upd (upd H3 e (.lst [.non])) cc (.lst ((M.sel z).map (fun l => V.ref l.at_) ++ [.non]))) := (same_of he).trans (same_of hcc)
          have s14 := (s12.trans s3).trans s4
          have t4 := t.same s14
          refine ⟨cc, _, _, _, rfl, rfl, SqL.of upd_same, sel_at M z, hvD m z, hvD M z, hv_rep t4.ls.row z, hv_rep t4.md.row z, hvD_dep m z, _, rfl, ?_⟩
          rw [hvD_alk al z, eqD_refl _ (hv_rep (K := K) t4.ls.row z).flat]
          exact iteF ⟨s14, _, _, rfl⟩
    | 3, _ =>
      refine ⟨_, rfl, rfl, _, rfl, iteF (next_to ?_)⟩
      dsimp only
      refine ⟨_, rfl, rfl, _, rfl, iteF (next_to ?_)⟩
      dsimp only
      refine ⟨_, rfl, rfl, _, rfl, iteF (next_to ?_)⟩
      dsimp only
      refine ⟨_, rfl, rfl, _, rfl, iteT ?_⟩
      refine ⟨_, rfl, d, _, rfl, t.md.gG, _, _, rfl, rfl, ?_⟩
      dsimp only [gName]
      have hpos : (0 : Int) < (M.given : Int) + 1 := by omega
      refine ⟨_, rfl, _, rfl, by have := hpos; omega, by rw [e2] at hg; omega, ?_⟩
      refine comp1_wk (wk_range 0 ((M.given : Int) + 1).toNat) (fun i ys H' => H' = H ∧ ys.length = i ∧ ∀ y ∈ ys, ∃ k : Int, y = .int k) ⟨rfl, rfl, (fun y hy => by cases hy)⟩ (fun i ys H' _ h => ⟨trivial, Nat.le_of_eq h.2.1⟩) (by rw [rangeV_length]; exact Nat.le_trans (show _ ≤ 1000 by rw [e2] at hg; omega) (by decide)) ?_ ?_
      · rintro i x ys H' Nx hx ⟨rfl, hl', hy⟩ hN
        obtain ⟨k, hk, rfl⟩ := List.mem_map.mp (List.mem_of_getElem? hx)
        refine tTrue_use ?_
        refine ⟨_, rfl, _, rfl, _, _, rfl, rfl, _, rfl, _, _, rfl, rfl, hpos, hN _ _ ⟨rfl, by simp [hl'], fun y hy' => ?_⟩⟩
        rcases List.mem_append.mp hy' with h | h
        · exact hy y h
        · exact ⟨_, List.mem_singleton.mp h⟩
      · rintro ys H' ⟨rfl, hl', hy⟩ cp hcp
        have s1 : Same H' (upd H' cp (.lst ys)) := same_of hcp
        have e3 : (upd H' cp (.lst ys)) cp = some (.lst ys) := upd_same
        generalize upd H' cp (.lst ys) = H1 at s1 e3
        refine ⟨_, rfl, cp, _, rfl, SqL.of e3, fun sp hsp => ?_⟩
        have s2 : Same H' (upd H1 sp (.lst (cutV ys none (some 20)))) := s1.trans (same_of hsp)
        have e4 : (upd H1 sp (.lst (cutV ys none (some 20)))) sp = some (.lst (cutV ys none (some 20))) := upd_same
        generalize upd H1 sp (.lst (cutV ys none (some 20))) = H2 at s2 e4
        refine ⟨sp, rfl, ⟨_, SqL.of e4⟩, ?_⟩
        refine for_wk (wk_list K sp (cutV ys none (some 20))) (fun i σ H3 => Chg [p, hd, d, od] H' H3 ∧ Two C zs H3 p hd d od m M ∧ H3 sp = some (.lst (cutV ys none (some 20))) ∧ ∃ v9, σ = [some (.ref p), some (.ref d), some (.int ((3 : Nat) : Int)), some (.int c), some (.ref nl), some (.ref hl), none, none, some (.int ((M.given : Int) + 1)), v9, none]) ⟨Chg.of s2, t.same s2, e4, _, rfl⟩ (fun i σ H3 _ h => SqL.of h.2.2.1) ?_ ?_
        · rintro i x σ H3 hx ⟨c3, t3, e5, v9, rfl⟩
          obtain ⟨k, rfl⟩ := hy x (cutV_mem (List.mem_of_getElem? hx))
          dsimp only [gName]
          refine ⟨_, rfl, _, rfl, spDone.mono (E' := E0) (dda (K := K) (Qf := fun v H4 => v = .bl true ∧ Chg [p, hd, d, od] H3 H4 ∧ Two C zs H4 p hd d od m M) (E := E0) (E' := E0) (E'' := E0) t3 hg h8 (way := 3) (by decide) k .non "" 0 (fun h => by cases h) (fun m' M' H4 ch t' _ h3 => by
            obtain ⟨rfl, rfl⟩ := h3 rfl
            exact ⟨rfl, ch, t'⟩)) (fun v H4 hh => ?_)⟩
          refine ⟨_, rfl, _, rfl, spDue.mono (E' := E0) hh (fun v2 H5 hh2 => ?_)⟩
          dsimp only [tNil, List.append_nil]
          refine spAlike.mono hh2 (fun v3 H6 hq => ?_)
          obtain ⟨rfl, c6, t6⟩ := hq
          exact ⟨_, rfl, iteF ⟨c3.trans c6, t6, c6.lst t3.noL e5, _, rfl⟩⟩
        · rintro σ H3 ⟨c3, t3, e5, v9, rfl⟩
          exact q H3 (c3.wide w4) t3 ((he.chg c3 t.noT t.noL).more (Nat.le_succ _))
    | 4, _ =>
      refine ⟨_, rfl, rfl, _, rfl, iteF (next_to ?_)⟩
      dsimp only
      refine ⟨_, rfl, rfl, _, rfl, iteF (next_to ?_)⟩
      dsimp only
      refine ⟨_, rfl, rfl, _, rfl, iteF (next_to ?_)⟩
      dsimp only
      refine ⟨_, rfl, rfl, _, rfl, iteF (next_to ?_)⟩
      dsimp only
      refine ⟨_, rfl, p, dx, _, rfl, hp, rfl, p, hd, m, rfl, t.ls, fun r H1 s1 nr er => ?_⟩
      dsimp only [gName]
      have t1 := t.same s1
      refine if_use (fun b H' => b = false ∧ Same H1 H') (fun Q' kk => ?_) (fun H' h => by cases h.1) (fun H2 ⟨_, s2⟩ => next_to ?_)
      · refine ⟨_, rfl, _, _, true, rfl, TyOf.lst er, by kernel_rfl, _, rfl, iteF ?_⟩
        have hlt : (M.held.map fun l => (l.num : Int)).length < 64 := by rw [List.length_map]; omega
        refine ⟨_, rfl, _, rfl, d, _, rfl, t1.md.gO, od, kvsOf M.held, M.held.map fun l => (l.num : Int), rfl, t1.md.tab, keys_nums _, hlt, fun sp ms hsp perm srt => ?_⟩
        have hup : (M.held.map fun l => (l.num : Int)).Pairwise (· ≤ ·) := by
          obtain ⟨g, rfl⟩ := al
          have h1 := t.rs.up
          rw [List.pairwise_map] at h1 ⊢
          show List.Pairwise _ (m.held.map (reL g))
          rw [List.pairwise_map]
          exact h1.imp fun {a b} h => by
            show (a.num : Int) ≤ (b.num : Int)
            omega
        obtain rfl : ms = M.held.map fun l => (l.num : Int) := List.Perm.eq_of_pairwise (le := (· ≤ ·)) (fun a b _ _ h1 h2 => Int.le_antisymm h1 h2) srt hup perm
        have s2 : Same H1 (upd H1 sp (.lst ((M.held.map fun l => (l.num : Int)).map V.int))) := same_of hsp
        have e3 : (upd H1 sp (.lst ((M.held.map fun l => (l.num : Int)).map V.int))) sp = some (.lst ((M.held.map fun l => (l.num : Int)).map V.int)) := upd_same
        generalize upd H1 sp (.lst ((M.held.map fun l => (l.num : Int)).map V.int)) = H2 at s2 e3
        have t2 := t1.same s2
        refine ⟨sp, rfl, ⟨_, SqL.of e3⟩, ?_⟩
        refine comp1_wk (wk_list K sp ((M.held.map fun l => (l.num : Int)).map V.int)) (fun i ys H' => H' = H2 ∧ ys = (M.held.take i).map fun l => V.ref l.at_) ⟨rfl, rfl⟩ (fun i ys H' _ h => ⟨by rw [h.1]; exact SqL.of e3, by rw [h.2, List.length_map, List.length_take]; omega⟩) (by rw [List.length_map]; exact Nat.le_trans (Nat.le_of_lt hlt) (by decide)) ?_ ?_
        · rintro i x ys H' Nx hx ⟨rfl, rfl⟩ hN
          rw [List.getElem?_map, List.getElem?_map] at hx
          obtain ⟨l, hl', rfl⟩ : ∃ l, M.held[i]? = some l ∧ x = .int (l.num : Int) := by
            cases h : M.held[i]? with
            | none => rw [h] at hx; cases hx
            | some l =>
              rw [h] at hx
              cases hx
              exact ⟨l, rfl, rfl⟩
          refine tTrue_use ?_
          have ga := t2.md.at_ (l.num : Int)
          rw [of_mem t2.md.ok (List.mem_of_getElem? hl')] at ga
          refine ⟨_, rfl, d, _, rfl, t2.md.gO, _, rfl, od, _, rfl, ga, hN _ _ ⟨rfl, ?_⟩⟩
          rw [List.take_add_one, hl', List.map_append]
          rfl
        · rintro ys H' ⟨rfl, rfl⟩ Dd hD
          have s3 : Same H' (upd H' Dd (.lst ((M.held.take ((M.held.map fun l => (l.num : Int)).map V.int).length).map fun l => V.ref l.at_))) := same_of hD
          have e4 : (upd H' Dd (.lst ((M.held.take ((M.held.map fun l => (l.num : Int)).map V.int).length).map fun l => V.ref l.at_))) Dd = some (.lst (M.held.map fun l => V.ref l.at_)) := by rw [upd_same, List.length_map, List.length_map, List.take_length]
          generalize upd H' Dd (.lst ((M.held.take ((M.held.map fun l => (l.num : Int)).map V.int).length).map fun l => V.ref l.at_)) = H3 at s3 e4
          have t3 := t2.same s3
          refine ⟨.l (m.held.map rowD), .l (M.held.map rowD), .l (SqL.of ((s2.trans s3) _ _ er)) (sel_reps t3.ls.row), .l (SqL.of e4) (sel_reps t3.md.row), ?_, _, rfl, ?_⟩
          · have := dep_rows m.held
            simp only [depD]
            omega
          · have fl := (sel_reps (K := K) t3.ls.row).flat
            rw [rows_alk al, eqD_refl _ (by unfold flatD; exact fl)]
            exact kk _ _ ⟨rfl, s2.trans s3⟩
      · dsimp only
        have er2 := s2 _ _ er
        obtain ⟨ts, eh, hts, pk⟩ := he.ex
        have s02 := s1.trans s2
        have t2 := t.same s02
        have eh2 := s02 _ _ eh
        have rh : r ≠ hl := fun z => by rw [z, eh] at nr; cases nr
        refine ⟨_, rfl, .inl ⟨rfl, _, SqL.of er2⟩, r, _, _, rfl, rfl, er2, ?_, ?_⟩
        · rw [List.length_map]
          have h1 := t.rs.few t.ls.ok
          exact Nat.lt_of_le_of_lt (show _ ≤ 8 by omega) (by decide)
        dsimp only
        have k4 : ∀ b o, b ≠ r → H2 b = some o → (upd H2 r (.lst (m.held.map (fun l => V.ref l.at_) ++ [.non]))) b = some o := fun b o hb e => by rw [upd_ne hb]; exact e
        have e4 : (upd H2 r (.lst (m.held.map (fun l => V.ref l.at_) ++ [.non]))) r = some (.lst (m.held.map (fun l => V.ref l.at_) ++ [.non])) := upd_same
        generalize upd H2 r (.lst (m.held.map (fun l => V.ref l.at_) ++ [.non])) = H4 at k4 e4
        have eh4 := k4 _ _ (Ne.symm rh) eh2
        refine ⟨_, rfl, .inl ⟨rfl, _, SqL.of eh4⟩, _, rfl, _, rfl, r, _, rfl, .inl (SqL.of e4), fun l2 hl2 => ⟨by show 2 ≤ sizeLine; decide, fun tt htt => ?_⟩⟩
        have s5 : Same H4 (upd H4 l2 (.lst (m.held.map (fun l => V.ref l.at_) ++ [.non]))) := same_of hl2
        have e5 : (upd H4 l2 (.lst (m.held.map (fun l => V.ref l.at_) ++ [.non]))) l2 = some (.lst (m.held.map (fun l => V.ref l.at_) ++ [.non])) := upd_same
        generalize upd H4 l2 (.lst (m.held.map (fun l => V.ref l.at_) ++ [.non])) = H5 at s5 e5 htt
        have s6 : Same H5 (upd H5 tt (.tup [.ref r, .ref l2])) := same_of htt
        have e6 : (upd H5 tt (.tup [.ref r, .ref l2])) tt = some (.tup [.ref r, .ref l2]) := upd_same
        generalize upd H5 tt (.tup [.ref r, .ref l2]) = H6 at s6 e6
        have s46 := s5.trans s6
        have l2h : l2 ≠ hl := fun z => by rw [z, eh4] at hl2; cases hl2
        refine ⟨hl, _, _, rfl, rfl, s46 _ _ eh4, by rw [List.length_map]; exact Nat.lt_of_le_of_lt (Nat.le_trans hts (Nat.le_of_lt hn5)) (by decide), ?_⟩
        dsimp only
        have k7 : ∀ b o, b ≠ hl → H6 b = some o → (upd H6 hl (.lst (ts.map V.ref ++ [.ref tt]))) b = some o := fun b o hb e => by rw [upd_ne hb]; exact e
        have e7 : (upd H6 hl (.lst (ts.map V.ref ++ [.ref tt]))) hl = some (.lst ((ts ++ [tt]).map V.ref)) := by rw [upd_same, List.map_append]; rfl
        generalize upd H6 hl (.lst (ts.map V.ref ++ [.ref tt])) = H7 at k7 e7
        have c27 : Chg [hl, r] H2 H7 := fun b o hb e => by
          simp only [List.mem_cons, List.not_mem_nil, or_false, not_or] at hb
          exact k7 _ _ hb.1 (s46 _ _ (k4 _ _ hb.2 e))
        have n27 : noT H2 [hl, r] := fun b hb xs e => by
          simp only [List.mem_cons, List.not_mem_nil, or_false] at hb
          rcases hb with rfl | rfl
          · rw [eh2] at e; cases e
          · rw [er2] at e; cases e
        have c07 : Chg [hl] H H7 := fun b o hb e => by
          refine c27 b o (fun z => ?_) (s02 _ _ e)
          simp only [List.mem_cons, List.not_mem_nil, or_false] at z
          rcases z with rfl | rfl
          · exact hb (by simp)
          · rw [nr] at e; cases e
        have nin : ∀ b o, H2 b = some o → (∀ xs, o ≠ .lst xs) → b ∉ [hl, r] := fun b o e ho z => by
          simp only [List.mem_cons, List.not_mem_nil, or_false] at z
          rcases z with rfl | rfl
          · rw [eh2] at e; cases e; exact ho _ rfl
          · rw [er2] at e; cases e; exact ho _ rfl
        obtain ⟨dx2, hp2⟩ := t2.ls.obj
        have t7 : Two C zs H7 p hd d od m M := t2.chg c27 n27 (nin _ _ hp2 (fun _ z => by cases z)) (nin _ _ t2.ls.tab (fun _ z => by cases z)) (nin _ _ t2.md.obj (fun _ z => by cases z)) (nin _ _ t2.md.tab (fun _ z => by cases z))
        refine q H7 (c07.wide (fun b hb => by simp only [List.mem_cons, List.not_mem_nil, or_false] at hb; simp [hb])) t7 ⟨ts ++ [tt], e7, by rw [List.length_append]; simp; exact hts, fun u hu' => ?_⟩
        rcases List.mem_append.mp hu' with h | h
        · exact (pk u h).chg c07 (fun b hb xs e => by rw [List.mem_singleton.mp hb, eh] at e; cases e) (fun b hb hne => absurd (List.mem_singleton.mp hb) hne)
        · rw [List.mem_singleton.mp h]
          exact ⟨r, l2, m.held, k7 _ _ (fun z => by rw [z] at e6; rw [s46 _ _ eh4] at e6; cases e6) e6, rh, l2h, k7 _ _ rh (s46 _ _ e4), k7 _ _ l2h (s6 _ _ e5), t7.ls.row⟩
end
end K09

set_option Elab.async false
set_option linter.all false
set_option maxRecDepth 100000
set_option maxHeartbeats 4000000
set_option pp.maxSteps 600
set_option pp.deepTerms false
namespace K09
open PySem L2 PyProof.Rows
/-- the script: changed by nothing here -/
def Scr (K : PySem.W.Frag) (H : Hp) (a hl : Addr) (xs : List V) : Prop := (Rd H a (.lst xs) ∧ a ≠ hl) ∨ ∀ H', SqL K H' a xs
theorem Scr.sq {K : PySem.W.Frag} {H : Hp} {a hl : Addr} {xs : List V} (h : Scr K H a hl xs) : SqL K H a xs := by
  rcases h with h | h
  · exact .inl h.1
  · exact h H
theorem Scr.of {K : PySem.W.Frag} {H : Hp} {a hl : Addr} {xs : List V} (h : SqL K H a xs) (hn : H hl = none) : Scr K H a hl xs := by
  rcases h with h | h
  · refine .inl ⟨h, fun e => ?_⟩
    subst e
    rcases h with h | ⟨o, h⟩
    · rw [hn] at h; cases h
    · rw [hn] at h; cases h
  · exact .inr fun H' => .inr h
theorem Scr.same {K : PySem.W.Frag} {H H' : Hp} {a hl : Addr} {xs : List V} (h : Scr K H a hl xs) (s : Same H H') : Scr K H' a hl xs := by
  rcases h with ⟨h, n⟩ | h
  · refine .inl ⟨?_, n⟩
    rcases h with h | ⟨o, h⟩
    · exact .inl (s _ _ h)
    · exact .inr ⟨o, s _ _ h⟩
  · exact .inr h
def Plain (H : Hp) (S : List Addr) (hl : Addr) : Prop := ∀ b ∈ S, b ≠ hl → ∀ o, H b = some o → (∀ xs, o ≠ .lst xs) ∧ ∀ xs u, o ≠ .frz xs u
theorem Scr.chg {K : PySem.W.Frag} {H H' : Hp} {a hl : Addr} {xs : List V} {S : List Addr} (h : Scr K H a hl xs) (c : Chg S H H') (pl : Plain H S hl) : Scr K H' a hl xs := by
  rcases h with ⟨h, n⟩ | h
  · refine .inl ⟨?_, n⟩
    rcases h with h | ⟨o, h⟩
    · exact .inl (c _ _ (fun z => (pl a z n _ h).1 _ rfl) h)
    · exact .inr ⟨o, c _ _ (fun z => (pl a z n _ h).2 _ _ rfl) h⟩
  · exact .inr h
structure Sep (p hd d od : Nat → Addr) (nl hl hs ms : Addr) : Prop where
  two : ∀ i j, i < 2 → j < 2 → i ≠ j → p i ≠ p j ∧ hd i ≠ hd j ∧ d i ≠ d j ∧ od i ≠ od j ∧ hd i ≠ od j ∧ od i ≠ hd j
  n_h : nl ≠ hl
  hs_h : hs ≠ hl
  ms_h : ms ≠ hl
/-- both houses, both dicts, the names, the lists told -/
structure All9 (C : Addr) (zs : List Str) (H : Hp) (p hd d od : Nat → Addr) (m M : Nat → Ls) (nl hl hs ms : Addr) (n : Nat) : Prop where
  t : ∀ i, i < 2 → Two C zs H (p i) (hd i) (d i) (od i) (m i) (M i)
  nm : H nl = some (.lst (zs.map V.str))
  hs : H hs = some (.lst [.ref (p 0), .ref (p 1)])
  ms : H ms = some (.lst [.ref (d 0), .ref (d 1)])
  he : HeldAt H hl n
def put9 (m : Nat → Ls) (i : Nat) (x : Ls) : Nat → Ls := fun j => if j = i then x else m j
theorem put9_same (m : Nat → Ls) (i : Nat) : put9 m i (m i) = m := by
  funext j
  unfold put9
  by_cases h : j = i
  · rw [if_pos h, h]
  · rw [if_neg h]
section
variable {C : Addr} {zs : List Str} {H H' : Hp} {p hd d od : Nat → Addr} {m M : Nat → Ls} {nl hl hs ms : Addr} {n n' : Nat}
theorem All9.same (A : All9 C zs H p hd d od m M nl hl hs ms n) (s : Same H H') : All9 C zs H' p hd d od m M nl hl hs ms n :=
  ⟨fun i hi => (A.t i hi).same s, s _ _ A.nm, s _ _ A.hs, s _ _ A.ms, A.he.chg (S := []) (Chg.of s) (fun _ h => by cases h) (fun _ h => by cases h)⟩
theorem All9.hl_lst (A : All9 C zs H p hd d od m M nl hl hs ms n) : ∃ xs, H hl = some (.lst xs) := by
  obtain ⟨ts, h, _⟩ := A.he.ex
  exact ⟨_, h⟩
theorem All9.step (A : All9 C zs H p hd d od m M nl hl hs ms n) (S : Sep p hd d od nl hl hs ms) {i : Nat} (hi : i < 2) {m' M' : Ls} (c : Chg [p i, hd i, d i, od i, hl] H H') (ti : Two C zs H' (p i) (hd i) (d i) (od i) m' M') (he : HeldAt H' hl n') :
    All9 C zs H' p hd d od (put9 m i m') (put9 M i M') nl hl hs ms n' := by
  obtain ⟨hx, ehl⟩ := A.hl_lst
  have t := A.t i hi
  obtain ⟨dx, hp⟩ := t.ls.obj
  have nT : noT H [p i, hd i, d i, od i, hl] := fun b hb xs e => by
    simp only [List.mem_cons, List.not_mem_nil, or_false] at hb
    rcases hb with rfl | rfl | rfl | rfl | rfl
    · rw [hp] at e; cases e
    · rw [t.ls.tab] at e; cases e
    · rw [t.md.obj] at e; cases e
    · rw [t.md.tab] at e; cases e
    · rw [ehl] at e; cases e
  have lst : ∀ b xs, b ≠ hl → H b = some (.lst xs) → H' b = some (.lst xs) := fun b xs hb e => c b _ (fun z => by
    simp only [List.mem_cons, List.not_mem_nil, or_false] at z
    rcases z with rfl | rfl | rfl | rfl | rfl
    · rw [hp] at e; cases e
    · rw [t.ls.tab] at e; cases e
    · rw [t.md.obj] at e; cases e
    · rw [t.md.tab] at e; cases e
    · exact hb rfl) e
  refine ⟨fun j hj => ?_, lst _ _ S.n_h A.nm, lst _ _ S.hs_h A.hs, lst _ _ S.ms_h A.ms, he⟩
  unfold put9
  by_cases h : j = i
  · rw [if_pos h, if_pos h, h]
    exact ti
  · rw [if_neg h, if_neg h]
    have u := A.t j hj
    obtain ⟨s1, s2, s3, s4, s5, s6⟩ := S.two j i hj hi h
    obtain ⟨dy, hq⟩ := u.ls.obj
    have hdd : ∀ {x : Addr} {ls : List Lse} {mm : Ls} {oo : Addr}, H x = some (.dK (kvsOf ls)) → H x = some (.dK (mdK mm oo)) → False := fun e e' => by
      rw [e] at e'
      injection e' with e'
      injection e' with e'
      exact kvs_mdK _ _ _ e'
    refine u.chg c nT ?_ ?_ ?_ ?_
    · simp only [List.mem_cons, List.not_mem_nil, or_false, not_or]
      exact ⟨s1, (fun z => by rw [z, t.ls.tab] at hq; cases hq), (fun z => by rw [z, t.md.obj] at hq; cases hq), (fun z => by rw [z, t.md.tab] at hq; cases hq), (fun z => by rw [z, ehl] at hq; cases hq)⟩
    · have e := u.ls.tab
      simp only [List.mem_cons, List.not_mem_nil, or_false, not_or]
      exact ⟨(fun z => by rw [z, hp] at e; cases e), s2, (fun z => hdd (z ▸ e) t.md.obj), s5, (fun z => by rw [z, ehl] at e; cases e)⟩
    · have e := u.md.obj
      simp only [List.mem_cons, List.not_mem_nil, or_false, not_or]
      exact ⟨(fun z => by rw [z, hp] at e; cases e), (fun z => hdd t.ls.tab (z ▸ e)), s3, (fun z => hdd t.md.tab (z ▸ e)), (fun z => by rw [z, ehl] at e; cases e)⟩
    · have e := u.md.tab
      simp only [List.mem_cons, List.not_mem_nil, or_false, not_or]
      exact ⟨(fun z => by rw [z, hp] at e; cases e), s6, (fun z => hdd (z ▸ e) t.md.obj), s4, (fun z => by rw [z, ehl] at e; cases e)⟩
theorem All9.plain (A : All9 C zs H p hd d od m M nl hl hs ms n) {i : Nat} (hi : i < 2) : Plain H [p i, hd i, d i, od i, hl] hl := fun b hb hne o e => by
  have t := A.t i hi
  obtain ⟨dx, hp⟩ := t.ls.obj
  simp only [List.mem_cons, List.not_mem_nil, or_false] at hb
  rcases hb with rfl | rfl | rfl | rfl | rfl
  · rw [hp] at e; cases e; exact ⟨fun _ z => (by cases z), fun _ _ z => (by cases z)⟩
  · rw [t.ls.tab] at e; cases e; exact ⟨fun _ z => (by cases z), fun _ _ z => (by cases z)⟩
  · rw [t.md.obj] at e; cases e; exact ⟨fun _ z => (by cases z), fun _ _ z => (by cases z)⟩
  · rw [t.md.tab] at e; cases e; exact ⟨fun _ z => (by cases z), fun _ _ z => (by cases z)⟩
  · exact absurd rfl hne
end
theorem two_at {p : Nat → Addr} (c : Int) : ∃ i : Nat, i < 2 ∧ c % 2 = (i : Int) ∧ atI [V.ref (p 0), V.ref (p 1)] (c % 2) = some (.ref (p i)) := by
  have h0 := Int.emod_nonneg c (show (2 : Int) ≠ 0 by decide)
  have h1 := Int.emod_lt_of_pos c (show (0 : Int) < 2 by decide)
  have : c % 2 = 0 ∨ c % 2 = 1 := by omega
  rcases this with e | e
  · exact ⟨0, by decide, e, by rw [e]; exact atI_nat (j := 0) rfl⟩
  · exact ⟨1, by decide, e, by rw [e]; exact atI_nat (j := 1) rfl⟩
theorem two_at' {p : Nat → Addr} {c : Int} {i : Nat} (hi : i < 2) (e : c % 2 = (i : Int)) : atI [V.ref (p 0), V.ref (p 1)] (c % 2) = some (.ref (p i)) := by
  rw [e]
  match i, hi with
  | 0, _ => exact atI_nat (j := 0) rfl
  | 1, _ => exact atI_nat (j := 1) rfl
section
variable {P : Program} {w : World} {K : PySem.W.Frag} {mg : Str → Option Value} {base : Heap} {C : Addr} {D : Nat → Addr} {R : Nat → Prop}
def spLooked (K : PySem.W.Frag) (C : Addr) : Sp := fun vs H Q _ => ∃ (zs : List Str) (p hd d od : Nat → Addr) (m M : Nat → Ls) (nl hl hs ms : Addr) (n : Nat) (c : Int) (a : Addr) (xs : List V), vs = [.ref hs, .ref ms, .int c, .ref nl, .ref hl] ∧ All9 C zs H p hd d od m M nl hl hs ms n ∧ Sep p hd d od nl hl hs ms ∧ zs.length = 8 ∧ (∀ i, i < 2 → (m i).given < 1000) ∧ n + 10 < 100000 ∧ Scr K H a hl xs ∧
  ∀ H', All9 C zs H' p hd d od m M nl hl hs ms (n + 10) → Scr K H' a hl xs → Q (.bl true) H'
theorem ok_looked (Df : Def K mg "_law_looked" s__law_looked ["_law_houses", "_law_models", "_law_cell", "_law_names_here", "_law_held"]) (B : Bv mg) (k_asked : Knows P w K mg base 5 "_law_asked" ["_law_house", "_law_m", "_law_way", "_law_cell", "_law_names_here", "_law_held"] (spAsked C)) :
    Knows P w K mg base 6 "_law_looked" ["_law_houses", "_law_models", "_law_cell", "_law_names_here", "_law_held"] (spLooked K C) := by
  refine Df.ok sc__law_looked (fun vs H Q E h => ?_) (fun f cdv A outer s H vs Q E hr h => ?_)
  · obtain ⟨zs, p, hd, d, od, m, M, nl, hl, hs, ms, n, c, a, xs, rfl, _⟩ := h
    rfl
  · obtain ⟨zs, p, hd, d, od, m, M, nl, hl, hs, ms, n, c, a, xs, rfl, A9, sep, h8, hg, hn, sc, q⟩ := h
    refine ⟨_, by exact (pss_cons (ps_if (pt_cmpR op_eq (pe_op op_mod (pv 2) pe_int) pe_int (nomark _)) (pss_one (ps_ret pe_bl)) pss_nil)
      (pss_cons (ps_for PassesOwn.never rfl (pi_range1 rfl B.w.b.range (pa_c pe_int pa_nil)) (pg_name (i := 5) sc__law_looked.nd rfl (Or.inl rfl)) (pss_cons (ps_set (i := 6) sc__law_looked.nd rfl (Or.inl rfl) (pe_op op_mod (pe_op op_add (pe_op op_fdiv (pv 2) pe_int) (pe_op op_mul (pv 5) (pe_ix ix_list (pe_lst (pa_c pe_int (pa_c pe_int (pa_c pe_int (pa_c pe_int pa_nil))))) (pe_op op_mod (pe_op op_fdiv (pv 2) pe_int) pe_int) (fun _ _ => rfl)))) pe_int))
      (pss_one (ps_if (pt_not (pt_val (pe_callM k_asked hr (pa_c (pe_ix ix_list (pv 0) (pe_op op_mod (pv 6) pe_int) (fun _ _ => rfl)) (pa_c (pe_ix ix_list (pv 1) (pe_op op_mod (pv 6) pe_int) (fun _ _ => rfl)) (pa_c (pe_op op_fdiv (pv 6) pe_int) (pa_c (pe_op op_fdiv (pv 2) pe_int) (pa_c (pv 3) (pa_c (pv 4) pa_nil))))))))) (pss_one (ps_ret pe_bl)) pss_nil))))
      (pss_one (ps_ret pe_bl)))), ?_⟩
    have more : ∀ {H' : Hp} {k : Nat}, k ≤ n + 10 → All9 C zs H' p hd d od m M nl hl hs ms k → All9 C zs H' p hd d od m M nl hl hs ms (n + 10) := fun hk A => ⟨A.t, A.nm, A.hs, A.ms, A.he.more hk⟩
    refine ⟨_, rfl, _, _, rfl, rfl, by walk_at "m", rfl, _, rfl, ite2 (fun _ => q H (more (by omega) A9) sc) (fun _ => next_to ?_)⟩
    dsimp only
    refine ⟨10, rfl, by decide, by decide, ?_⟩
    refine for_range (n := 10) (fun i σ H' => All9 C zs H' p hd d od m M nl hl hs ms (n + i) ∧ Scr K H' a hl xs ∧ ∃ v5 v6, σ = [some (.ref hs), some (.ref ms), some (.int c), some (.ref nl), some (.ref hl), v5, v6]) ⟨A9, sc, _, _, rfl⟩ ?_ (fun σ H1 h => q _ h.1 h.2.1)
    rintro i σ H1 hi ⟨A1, sc1, v5, v6, rfl⟩
    refine ⟨_, rfl, _, _, rfl, rfl, by walk_at "m", _, rfl, by show 4 ≤ sizeLine; decide, fun l hl4 => ?_⟩
    have s2 : Same H1 (upd H1 l (.lst [.int 1, .int 3, .int 7, .int 9])) := same_of hl4
    obtain ⟨v, hv, hm, _⟩ := atI_mem (xs := [V.int 1, .int 3, .int 7, .int 9]) (i := c / 40 % 4) (Int.emod_nonneg _ (show (4 : Int) ≠ 0 by decide)) (Int.emod_lt_of_pos _ (show (0 : Int) < 4 by decide))
    have hv2 : ∃ t : Int, v = .int t ∧ 1 ≤ t ∧ t ≤ 9 := by
      simp only [List.mem_cons, List.not_mem_nil, or_false] at hm
      rcases hm with rfl | rfl | rfl | rfl
      · exact ⟨1, rfl, by decide, by decide⟩
      · exact ⟨3, rfl, by decide, by decide⟩
      · exact ⟨7, rfl, by decide, by decide⟩
      · exact ⟨9, rfl, by decide, by decide⟩
    obtain ⟨t, rfl, t1, t2⟩ := hv2
    refine ⟨_, rfl, _, _, rfl, rfl, by walk_at "m", _, _, rfl, rfl, by walk_at "m", l, _, _, _, rfl, rfl, SqL.of upd_same, hv, _, _, rfl, rfl, .inl ⟨by omega, by omega⟩, _, _, rfl, rfl, _, _, rfl, rfl, by walk_at "m", ?_⟩
    dsimp only [gName]
    generalize upd H1 l (.lst [.int 1, .int 3, .int 7, .int 9]) = H2 at s2
    have A2 := A1.same s2
    have w0 := Int.emod_nonneg (c / 4 + (0 + (i : Int)) * t) (show (10 : Int) ≠ 0 by decide)
    have w1 := Int.emod_lt_of_pos (c / 4 + (0 + (i : Int)) * t) (show (0 : Int) < 10 by decide)
    generalize (c / 4 + (0 + (i : Int)) * t) % 10 = tn at w0 w1
    obtain ⟨j, hj, ej, hat⟩ := two_at (p := p) tn
    have ew : ∃ way : Nat, tn / 2 = (way : Int) ∧ way < 5 := ⟨(tn / 2).toNat, by omega, by omega⟩
    obtain ⟨way, ew, hw⟩ := ew
    refine ⟨_, rfl, _, rfl, _, _, rfl, rfl, by walk_at "m", hs, _, _, _, rfl, rfl, SqL.of A2.hs, hat, _, rfl, _, rfl, _, _, rfl, rfl, by walk_at "m", ms, _, _, _, rfl, rfl, SqL.of A2.ms, two_at' hj ej, _, rfl, _, _, rfl, rfl, by walk_at "m", _, rfl, _, _, rfl, rfl, by walk_at "m", _, rfl, _, rfl, ?_⟩
    refine ⟨zs, p j, hd j, d j, od j, nl, hl, m j, M j, way, _, n + i, by show [V.ref (p j), V.ref (d j), V.int (tn / 2), _, _, _] = _; rw [ew], A2.t j hj, A2.nm, h8, hg j hj, hw, A2.he, by omega, fun H3 c3 t3 he3 => ?_⟩
    have A3 := A2.step sep hj c3 t3 he3
    rw [put9_same, put9_same] at A3
    exact ⟨_, rfl, iteF ⟨A3, (sc1.same s2).chg c3 (A2.plain hj), _, _, rfl⟩⟩
end
end K09

set_option Elab.async false
set_option linter.all false
set_option maxRecDepth 100000
set_option maxHeartbeats 4000000
set_option pp.maxSteps 600
set_option pp.deepTerms false
namespace K09
open PySem L2 PyProof.Rows
theorem op_neDC {X : Cx} {K0 : PySem.W.Frag} (hK : X.K = K0) (hu : X.A.units + 64 < cLine) : OpR X (compareOp .NotEq) (rNeD K0) := by subst hK; exact op_neD hu
def two2 {α : Type} (x y : α) : Nat → α
  | 0 => x
  | _ => y
theorem reps_snoc {K : PySem.W.Frag} {H : Hp} : ∀ {vs : List V} {ds : List L2.D} {v : V} {e : L2.D}, Reps K H vs ds → Rep K H v e → Reps K H (vs ++ [v]) (ds ++ [e])
  | _, _, _, _, .nil, r => .cons r .nil
  | _, _, _, _, .cons h t, r => .cons h (reps_snoc t r)
theorem dep_snoc : ∀ ls : List Lse, depDs (ls.map rowD ++ [.a .non]) ≤ 1
  | [] => by simp [depDs, depD]
  | x :: r => by
    have ih := dep_snoc r
    rw [List.map_cons, List.cons_append]
    unfold depDs
    have : depD (rowD x) = 1 := by simp [rowD, depD, depDs]
    omega
theorem among_int (i : Int) : amongV (.int i) 2 1000 = (decide (2 ≤ i) && decide (i ≤ 1000)) := rfl
theorem rs_nil (zs : List Str) (t : Int) : Rs zs ⟨t, 0, []⟩ := ⟨List.Pairwise.nil, fun l hl => by cases hl⟩
theorem alk_nil (t : Int) : Alk ⟨t, 0, []⟩ ⟨t, 0, []⟩ := ⟨fun _ => 0, rfl⟩
abbrev Tri := Addr × Addr × Int
structure HsAt (C : Addr) (H0 H : Hp) (L : List Tri) (ts : List Int) : Prop where
  s : Same H0 H
  ls : ∀ x ∈ L, LsAt C H x.1 x.2.1 ⟨x.2.2, 0, []⟩
  nd1 : (L.map (·.1)).Nodup
  nd2 : (L.map (·.2.1)).Nodup
  tm : L.map (·.2.2) = ts
structure MsAt (H0 H : Hp) (L : List Tri) (ts : List Int) : Prop where
  s : Same H0 H
  md : ∀ x ∈ L, MdAt H x.1 x.2.1 ⟨x.2.2, 0, []⟩
  nd1 : (L.map (·.1)).Nodup
  nd2 : (L.map (·.2.1)).Nodup
  tm : L.map (·.2.2) = ts
  new : ∀ x ∈ L, H0 x.2.1 = none
theorem nodup_snoc {α : Type} {xs : List α} {y : α} (h : xs.Nodup) (hy : y ∉ xs) : (xs ++ [y]).Nodup := by
  rw [List.nodup_append]
  exact ⟨h, by simp, fun a ha b hb e => hy (by rw [List.mem_singleton.mp hb] at e; rw [← e]; exact ha)⟩
theorem HsAt.snoc {C : Addr} {H0 H H' : Hp} {L : List Tri} {ts : List Int} {y hd : Addr} {t : Int} (h : HsAt C H0 H L ts) (s : Same H H') (hy : H y = none) (hh : H hd = none) (l : LsAt C H' y hd ⟨t, 0, []⟩) : HsAt C H0 H' (L ++ [(y, hd, t)]) (ts ++ [t]) := by
  refine ⟨h.s.trans s, fun x hx => ?_, ?_, ?_, by rw [List.map_append, h.tm]; rfl⟩
  · rcases List.mem_append.mp hx with z | z
    · exact (h.ls x z).same s
    · rw [List.mem_singleton.mp z]
      exact l
  · rw [List.map_append]
    refine nodup_snoc h.nd1 fun z => ?_
    obtain ⟨x, hx, e⟩ := List.mem_map.mp z
    obtain ⟨dx, o⟩ := (h.ls x hx).obj
    have e' : x.1 = y := e
    rw [e', hy] at o
    cases o
  · rw [List.map_append]
    refine nodup_snoc h.nd2 fun z => ?_
    obtain ⟨x, hx, e⟩ := List.mem_map.mp z
    have o := (h.ls x hx).tab
    have e' : x.2.1 = hd := e
    rw [e', hh] at o
    cases o
theorem MsAt.snoc {H0 H H' : Hp} {L : List Tri} {ts : List Int} {y hd : Addr} {t : Int} (h : MsAt H0 H L ts) (s : Same H H') (hy : H y = none) (hh : H hd = none) (l : MdAt H' y hd ⟨t, 0, []⟩) : MsAt H0 H' (L ++ [(y, hd, t)]) (ts ++ [t]) := by
  refine ⟨h.s.trans s, fun x hx => ?_, ?_, ?_, by rw [List.map_append, h.tm]; rfl, fun x hx => ?_⟩
  · rcases List.mem_append.mp hx with z | z
    · exact (h.md x z).same s
    · rw [List.mem_singleton.mp z]
      exact l
  · rw [List.map_append]
    refine nodup_snoc h.nd1 fun z => ?_
    obtain ⟨x, hx, e⟩ := List.mem_map.mp z
    have o := (h.md x hx).obj
    have e' : x.1 = y := e
    rw [e', hy] at o
    cases o
  · rw [List.map_append]
    refine nodup_snoc h.nd2 fun z => ?_
    obtain ⟨x, hx, e⟩ := List.mem_map.mp z
    have o := (h.md x hx).tab
    have e' : x.2.1 = hd := e
    rw [e', hh] at o
    cases o
  · rcases List.mem_append.mp hx with z | z
    · exact h.new x z
    · rw [List.mem_singleton.mp z]
      exact h.s.free hh
theorem tri2 {L : List Tri} {t0 t1 : Int} (h : L.map (·.2.2) = [t0, t1]) : ∃ a b c d, L = [(a, b, t0), (c, d, t1)] := by
  match L, h with
  | [(a, b, x), (c, d, y)], h =>
    injection h with h1 h2
    injection h2 with h2 _
    have h1' : x = t0 := h1
    have h2' : y = t1 := h2
    exact ⟨a, b, c, d, by rw [h1', h2']⟩
section
variable {P : Program} {w : World} {K : PySem.W.Frag} {mg : Str → Option Value} {base : Heap} {C : Addr} {D : Nat → Addr} {R : Nat → Prop}
def spLaw (K : PySem.W.Frag) : Sp := fun vs H Q _ => ∃ (a : Addr) (ns : List Int), vs = [.ref a] ∧ SqL K H a (ns.map V.int) ∧ ns.length ≤ 63 ∧ (∀ v ∈ ns, Sm v) ∧ ∀ H', Q (.bl true) H'
theorem ok_law {f : Addr} {fd : FuncData} (F : Fun K "law" "law" s_law f fd) (B : Bv mg) (S : LCls K mg C) (k_cell : Knows P w K mg base 1 "_law_cell_at" ["_law_script", "_law_k"] (spCell K)) (k_mixed : Knows P w K mg base 1 "_law_mixed" ["_law_cell", "_law_k"] spMixed) (k_names : Knows P w K mg base 2 "_law_names" ["_law_cell"] spNames)
    (ki : KnowsI (CX1 P w base) P w K mg base 4 C ["self", "term"] (spInit K C D)) (k_deed : Knows P w K mg base 5 "_law_deed" ["_law_house", "_law_m", "_law_cell", "_law_names_here", "_law_turn"] (spDeed C))
    (k_looked : Knows P w K mg base 6 "_law_looked" ["_law_houses", "_law_models", "_law_cell", "_law_names_here", "_law_held"] (spLooked K C)) : FnOk P w K mg base CX0 7 f fd ["_law_script"] (spLaw K) := by
  refine F.ok sc_law (fun vs H Q E h => ?_) (fun cdv A outer s H vs Q E hr h => ?_)
  · obtain ⟨a, ns, rfl, _⟩ := h
    rfl
  · obtain ⟨a, ns, rfl, hS, hlen, hsm, q⟩ := h
    have hu := hr.units
    refine ⟨_, by exact (pss_cons (ps_set (i := 1) sc_law.nd rfl (Or.inl rfl) (pe_callM k_names hr (pa_c (pe_callM k_cell hr (pa_c (pv 0) (pa_c pe_int pa_nil))) pa_nil)))
      (pss_cons (ps_setC (i := 2) [0] ["_law_k", "_law_script"] sc_law.nd rfl (Or.inl rfl) rfl (pi_range1 rfl B.w.b.range (pa_c pe_int pa_nil)) (fun _ _ _ _ => pts_nil) (fun _ _ _ _ => (pe_op op_add pe_int (pe_op op_mod (pe_callM k_cell hr (pa_c (pv 1) (pa_c (pe_op op_add pe_int (pv 0)) pa_nil))) (pe_ix (ix_listC (K0 := K) rfl) (pe_lst (pa_c pe_int (pa_c pe_int pa_nil))) (pe_op op_mod (pe_op op_fdiv (pe_callM k_cell hr (pa_c (pv 1) (pa_c pe_int pa_nil))) (pe_op op_add pe_int (pv 0))) pe_int) (fun _ _ => rfl))))))
      (pss_cons (ps_setC (i := 3) [] ["_law_term"] sc_law.nd rfl (Or.inl rfl) rfl (pi_list (pv 2)) (fun _ _ _ _ => pts_nil) (fun _ _ _ _ => (pe_makeM ki hr S.mgC pass1N (pa_c (pv 0) pa_nil))))
      (pss_cons (ps_setC (i := 4) [] ["_law_term"] sc_law.nd rfl (Or.inl rfl) rfl (pi_list (pv 2)) (fun _ _ _ _ => pts_nil) (fun _ _ _ _ => (pe_disp (pps_cons pe_str (pv 0) (pps_cons pe_str pe_int (pps_cons pe_str pe_dnewK pps_nil))) rfl rfl (by decide) (by decide))))
      (pss_cons (ps_set (i := 5) sc_law.nd rfl (Or.inl rfl) (pe_lst pa_nil))
      (pss_cons (ps_set (i := 6) sc_law.nd rfl (Or.inl rfl) (pe_op op_mod (pe_callM k_cell hr (pa_c (pv 0) (pa_c pe_int pa_nil))) (pe_ix ix_list (pe_lst (pa_c pe_int (pa_c pe_int pa_nil))) (pe_op op_mod (pe_op op_fdiv (pe_callM k_cell hr (pa_c (pv 0) (pa_c pe_int pa_nil))) pe_int) pe_int) (fun _ _ => rfl))))
      (pss_cons (ps_set (i := 7) sc_law.nd rfl (Or.inl rfl) (pe_ifExp (pt_cmpR op_gt (pe_bcall call_len_seq rfl B.w.b.len PySem.boot_len (pa_c (pv 0) pa_nil)) pe_int (nomark _)) pe_int pe_int))
      (pss_cons (ps_for PassesOwn.never rfl (pi_range2 rfl B.w.b.range (pa_c pe_int (pa_c (pe_bcall (call_min2 rfl) rfl B.min boot_min' (pa_c (pe_bcall call_len_seq rfl B.w.b.len PySem.boot_len (pa_c (pv 0) pa_nil)) (pa_c (pe_op op_add pe_int (pv 7)) pa_nil))) pa_nil))) (pg_name (i := 8) sc_law.nd rfl (Or.inl rfl)) (pss_cons (ps_set (i := 9) sc_law.nd rfl (Or.inl rfl) (pe_callM k_mixed hr (pa_c (pe_ix ix_list (pv 0) (pv 8) (fun _ _ => rfl)) (pa_c (pv 8) pa_nil))))
      (pss_cons (ps_set (i := 6) sc_law.nd rfl (Or.inl rfl) (pe_op op_add (pv 6) (pe_op op_mod (pe_op op_fdiv (pv 9) pe_int) pe_int)))
      (pss_cons (ps_if (pt_not (pt_val (pe_callM k_deed hr (pa_c (pe_ix ix_list (pv 3) (pe_op op_mod (pv 9) pe_int) (fun _ _ => rfl)) (pa_c (pe_ix ix_list (pv 4) (pe_op op_mod (pv 9) pe_int) (fun _ _ => rfl)) (pa_c (pe_op op_fdiv (pv 9) pe_int) (pa_c (pv 1) (pa_c (pv 6) pa_nil)))))))) (pss_one (ps_ret pe_bl)) pss_nil)
      (pss_one (ps_if (pt_not (pt_val (pe_callM k_looked hr (pa_c (pv 3) (pa_c (pv 4) (pa_c (pe_callM k_mixed hr (pa_c (pe_ix ix_list (pv 0) (pv 8) (fun _ _ => rfl)) (pa_c (pe_op op_add pe_int (pv 8)) pa_nil))) (pa_c (pv 1) (pa_c (pv 5) pa_nil)))))))) (pss_one (ps_ret pe_bl)) pss_nil))))))
      (pss_cons (ps_if (pt_not (pt_val (pe_callM k_looked hr (pa_c (pv 3) (pa_c (pv 4) (pa_c (pe_op op_mul pe_int (pe_callM k_cell hr (pa_c (pv 0) (pa_c pe_int pa_nil)))) (pa_c (pv 1) (pa_c (pv 5) pa_nil)))))))) (pss_one (ps_ret pe_bl)) pss_nil)
      (pss_one (ps_ret (pe_cmpR (op_eqD hu) (pe_comp1 [] ["_law_pair"] rfl (pi_list (pv 5)) (fun _ _ _ _ => pts_one (pt_cmpR (op_neDC (K0 := K) rfl hu) (pe_ix (ix_tupC (K0 := K) rfl) (pv 0) pe_int (fun _ _ => rfl)) (pe_ix (ix_tupC (K0 := K) rfl) (pv 0) pe_int (fun _ _ => rfl)) (nomark _))) (fun _ _ _ _ => (pv 0))) (pe_lst pa_nil) (nomark _))))))))))))), ?_⟩
    refine ⟨_, rfl, a, ns, 0, rfl, hS, hsm, fun c0 hc0 => ⟨c0, rfl, hc0, fun nl zs H1 s1 hnl h8 h100 => ?_⟩⟩
    dsimp only [gName]
    refine seq_use (fun v H' => ∃ (tl : Addr) (t0 t1 : Int), v = .ref tl ∧ H' tl = some (.lst [.int t0, .int t1]) ∧ (2 ≤ t0 ∧ t0 ≤ 1000) ∧ (2 ≤ t1 ∧ t1 ≤ 1000) ∧ Same H1 H') (fun Q' kk => ?_) ?_
    · refine ⟨2, rfl, by decide, by decide, ?_⟩
      refine comp1_wk (wk_range 0 2) (fun i ys H' => Same H1 H' ∧ ys.length = i ∧ ∀ y ∈ ys, ∃ t : Int, y = .int t ∧ 2 ≤ t ∧ t ≤ 1000) ⟨Same.refl _, rfl, (fun y hy => by cases hy)⟩ (fun i ys H' _ h => ⟨trivial, Nat.le_of_eq h.2.1⟩) (by rw [rangeV_length]; decide) ?_ ?_
      · rintro i x ys H2 Nx hx ⟨s2, hl, ht⟩ hN
        obtain ⟨k, hk, rfl⟩ := List.mem_map.mp (List.mem_of_getElem? hx)
        have hk1 := List.mem_range.mp hk
        refine tTrue_use ?_
        have ek : (1 : Int) + (0 + (k : Int)) = ((1 + k : Nat) : Int) := by omega
        have hS2 := (s1.trans s2).seq hS
        refine ⟨_, rfl, _, rfl, _, _, rfl, rfl, a, ns, 1 + k, (by show [V.ref a, V.int ((1 : Int) + (0 + (k : Int)))] = _; rw [ek]), hS2, hsm, fun c1 hc1 => ⟨by show 2 ≤ sizeLine; decide, fun l hl2 => ?_⟩⟩
        have s3 : Same H2 (upd H2 l (.lst [.int 9, .int 999])) := same_of hl2
        refine ⟨_, rfl, a, ns, 3, rfl, s3.seq hS2, hsm, fun c3 hc3 => ?_⟩
        obtain ⟨v, hv, hm, _⟩ := atI_mem (xs := [V.int 9, .int 999]) (i := c3 / ((1 : Int) + (0 + (k : Int))) % 2) (Int.emod_nonneg _ (show (2 : Int) ≠ 0 by decide)) (Int.emod_lt_of_pos _ (show (0 : Int) < 2 by decide))
        have hv2 : ∃ b : Int, v = .int b ∧ 0 < b ∧ b ≤ 999 := by
          simp only [List.mem_cons, List.not_mem_nil, or_false] at hm
          rcases hm with rfl | rfl
          · exact ⟨9, rfl, by decide, by decide⟩
          · exact ⟨999, rfl, by decide, by decide⟩
        obtain ⟨b, rfl, b1, b2⟩ := hv2
        refine ⟨_, rfl, _, _, rfl, rfl, _, _, rfl, rfl, ⟨by omega, by omega⟩, _, _, rfl, rfl, by walk_at "m", l, _, _, _, rfl, rfl, SqL.of upd_same, hv, _, _, rfl, rfl, b1, _, _, rfl, rfl, hN _ _ ⟨s2.trans s3, by simp [hl], fun y hy => ?_⟩⟩
        rcases List.mem_append.mp hy with h | h
        · exact ht y h
        · have w0 := Int.emod_nonneg c1 (show b ≠ 0 by omega)
          have w1 := Int.emod_lt_of_pos c1 b1
          exact ⟨_, List.mem_singleton.mp h, by omega, by omega⟩
      · rintro ys H2 ⟨s2, hl, ht⟩ tl htl
        rw [rangeV_length] at hl
        match ys, hl with
        | [y0, y1], _ =>
          obtain ⟨t0, rfl, a0⟩ := ht y0 (by simp)
          obtain ⟨t1, rfl, a1⟩ := ht y1 (by simp)
          exact kk _ _ ⟨tl, t0, t1, rfl, upd_same, a0, a1, s2.trans (same_of htl)⟩
    rintro _ H2 ⟨tl, t0, t1, rfl, etl, b0, b1, s2⟩
    dsimp only [gName]
    have bnd : ∀ t ∈ [t0, t1], amongV (.int t) 2 1000 = true := fun t ht => by
      simp only [List.mem_cons, List.not_mem_nil, or_false] at ht
      rcases ht with rfl | rfl
      · rw [among_int, decide_eq_true b0.1, decide_eq_true b0.2]; rfl
      · rw [among_int, decide_eq_true b1.1, decide_eq_true b1.2]; rfl
    have tk1 : ∀ (i : Nat) (x : V), ([t0, t1].map V.int)[i]? = some x → ∃ t, x = .int t ∧ t ∈ [t0, t1] ∧ [t0, t1].take (i + 1) = [t0, t1].take i ++ [t] := fun i x hx => by
      rw [List.getElem?_map] at hx
      obtain ⟨t, ht, rfl⟩ := Option.map_eq_some_iff.mp hx
      exact ⟨t, rfl, List.mem_of_getElem? ht, by rw [List.take_add_one, ht]; rfl⟩
    refine seq_use (fun v H' => ∃ (hs : Addr) (L : List Tri), v = .ref hs ∧ H' hs = some (.lst (L.map fun x => V.ref x.1)) ∧ HsAt C H2 H' L [t0, t1]) (fun Q' kk => ?_) ?_
    · refine ⟨_, rfl, tl, rfl, ⟨_, SqL.of etl⟩, ?_⟩
      refine comp1_wk (wk_list K tl ([t0, t1].map V.int)) (fun i ys H' => ∃ L : List Tri, ys = L.map (fun x => V.ref x.1) ∧ HsAt C H2 H' L ([t0, t1].take i)) ⟨[], rfl, Same.refl _, (fun x hx => by cases hx), List.nodup_nil, List.nodup_nil, rfl⟩ (fun i ys H' _ h => ?_) (by show 2 ≤ sizeLine; decide) ?_ ?_
      · obtain ⟨L, rfl, h⟩ := h
        refine ⟨SqL.of (h.s _ _ etl), ?_⟩
        have := congrArg List.length h.tm
        rw [List.length_map, List.length_take] at this
        rw [List.length_map]
        omega
      · rintro i x ys H3 Nx hx ⟨L, rfl, hL⟩ hN
        obtain ⟨t, rfl, htm, htk⟩ := tk1 i x hx
        refine tTrue_use ⟨_, rfl, fun y dx hy hdx hne => ?_⟩
        have sy : Same H3 (upd (upd H3 dx (.own y)) y (.ins C dx [])) := fun b o e => by
          rw [upd_ne (ne_of_none e hy), upd_ne (ne_of_none e hdx)]
          exact e
        refine ⟨y, dx, .int t, rfl, upd_same, .int, fun t' et _ hd H4 hh ch L4 => ⟨rfl, hN _ _ ⟨L ++ [(y, hd, t)], by rw [List.map_append]; rfl, ?_⟩⟩, fun hf => by rw [bnd t htm] at hf; cases hf⟩
        injection et with et
        subst et
        rw [htk]
        refine hL.snoc (fun b o e => ch b o (fun z => ?_) (sy _ _ e)) hy (sy.free hh) L4
        rw [List.mem_singleton.mp z, hy] at e
        cases e
      · rintro ys H3 ⟨L, rfl, hL⟩ hs hhs
        have hL' : HsAt C H2 H3 L [t0, t1] := hL
        exact kk _ _ ⟨hs, L, rfl, upd_same, hL'.s.trans (same_of hhs), fun x hx => (hL'.ls x hx).same (same_of hhs), hL'.nd1, hL'.nd2, hL'.tm⟩
    rintro _ H3 ⟨hs, L, rfl, ehs, hL⟩
    dsimp only [gName]
    have s3 := hL.s
    refine seq_use (fun v H' => ∃ (ms : Addr) (L : List Tri), v = .ref ms ∧ H' ms = some (.lst (L.map fun x => V.ref x.1)) ∧ MsAt H3 H' L [t0, t1]) (fun Q' kk => ?_) ?_
    · refine ⟨_, rfl, tl, rfl, ⟨_, SqL.of (s3 _ _ etl)⟩, ?_⟩
      refine comp1_wk (wk_list K tl ([t0, t1].map V.int)) (fun i ys H' => ∃ L : List Tri, ys = L.map (fun x => V.ref x.1) ∧ MsAt H3 H' L ([t0, t1].take i)) ⟨[], rfl, Same.refl _, (fun x hx => by cases hx), List.nodup_nil, List.nodup_nil, rfl, (fun x hx => by cases hx)⟩ (fun i ys H' _ h => ?_) (by show 2 ≤ sizeLine; decide) ?_ ?_
      · obtain ⟨L, rfl, h⟩ := h
        refine ⟨SqL.of (h.s _ _ (s3 _ _ etl)), ?_⟩
        have := congrArg List.length h.tm
        rw [List.length_map, List.length_take] at this
        rw [List.length_map]
        omega
      · rintro i x ys H4 Nx hx ⟨L, rfl, hL4⟩ hN
        obtain ⟨t, rfl, htm, htk⟩ := tk1 i x hx
        refine tTrue_use fun d hd0 => ⟨_, rfl, fun od hod => ?_⟩
        have hdo : d ≠ od := ne_of_none upd_same hod
        refine ⟨by rw [upd_ne hdo]; exact upd_same, [(.inr "term", .int t), (.inr "given", .int 0), (.inr "open", .ref od)], rfl, by show 3 ≤ 15; decide, hN _ _ ⟨L ++ [(d, od, t)], by rw [List.map_append]; rfl, ?_⟩⟩
        rw [htk]
        have ho4 : H4 od = none := by rw [upd_ne (Ne.symm hdo)] at hod; exact hod
        refine hL4.snoc (fun b o e => ?_) hd0 ho4 ⟨upd_same, ?_, (fun l hl => by cases hl), ⟨(fun l hl => by cases hl), List.nodup_nil, List.nodup_nil, Nat.le_refl _⟩⟩
        · have b1 : b ≠ d := ne_of_none e hd0
          have b2 : b ≠ od := ne_of_none e ho4
          rw [upd_ne b1, upd_ne b2, upd_ne b1]
          exact e
        · rw [upd_ne (Ne.symm hdo)]
          exact upd_same
      · rintro ys H4 ⟨L, rfl, hL4⟩ ms hms
        have hL' : MsAt H3 H4 L [t0, t1] := hL4
        exact kk _ _ ⟨ms, L, rfl, upd_same, hL'.s.trans (same_of hms), fun x hx => (hL'.md x hx).same (same_of hms), hL'.nd1, hL'.nd2, hL'.tm, hL'.new⟩
    rintro _ H4 ⟨ms, L', rfl, ems, hM⟩
    dsimp only [gName]
    have s4 := hM.s
    obtain ⟨p0, h0, p1, h1, rfl⟩ := tri2 hL.tm
    obtain ⟨d0, o0, d1, o1, rfl⟩ := tri2 hM.tm
    refine ⟨by show 0 ≤ sizeLine; decide, fun hl hhl => ?_⟩
    dsimp only [gName]
    have s5 : Same H4 (upd H4 hl (.lst [])) := same_of hhl
    have e5 : (upd H4 hl (.lst [])) hl = some (.lst (([] : List Addr).map V.ref)) := upd_same
    have sc5 : Scr K (upd H4 hl (.lst [])) a hl (ns.map V.int) := (Scr.of ((((s1.trans s2).trans s3).trans s4).seq hS) hhl).same s5
    have nmH : H4 nl = some (.lst (zs.map V.str)) := s4 _ _ (s3 _ _ (s2 _ _ hnl))
    have hsH := s4 _ _ ehs
    have Lm0 := hL.ls (p0, h0, t0) (by simp)
    have Lm1 := hL.ls (p1, h1, t1) (by simp)
    have Mm0 := hM.md (d0, o0, t0) (by simp)
    have Mm1 := hM.md (d1, o1, t1) (by simp)
    have fo0 : H3 o0 = none := hM.new (d0, o0, t0) (by simp)
    have fo1 : H3 o1 = none := hM.new (d1, o1, t1) (by simp)
    have ho : ∀ {x o : Addr} {ob : HO}, H3 x = some ob → H3 o = none → x ≠ o := fun e e' => ne_of_none e e'
    have nd1 : p0 ≠ p1 := by have := hL.nd1; simp at this; exact this
    have nd2 : h0 ≠ h1 := by have := hL.nd2; simp at this; exact this
    have nd3 : d0 ≠ d1 := by have := hM.nd1; simp at this; exact this
    have nd4 : o0 ≠ o1 := by have := hM.nd2; simp at this; exact this
    have sep : Sep (two2 p0 p1) (two2 h0 h1) (two2 d0 d1) (two2 o0 o1) nl hl hs ms := by
      refine ⟨fun i j hi hj hij => ?_, ne_of_none nmH hhl, ne_of_none hsH hhl, ne_of_none ems hhl⟩
      match i, j, hi, hj, hij with
      | 0, 0, _, _, h => exact absurd rfl h
      | 1, 1, _, _, h => exact absurd rfl h
      | 0, 1, _, _, _ => exact ⟨nd1, nd2, nd3, nd4, ho Lm0.tab fo1, Ne.symm (ho Lm1.tab fo0)⟩
      | 1, 0, _, _, _ => exact ⟨Ne.symm nd1, Ne.symm nd2, Ne.symm nd3, Ne.symm nd4, ho Lm1.tab fo0, Ne.symm (ho Lm0.tab fo1)⟩
    have A5 : All9 C zs (upd H4 hl (.lst [])) (two2 p0 p1) (two2 h0 h1) (two2 d0 d1) (two2 o0 o1) (two2 ⟨t0, 0, []⟩ ⟨t1, 0, []⟩) (two2 ⟨t0, 0, []⟩ ⟨t1, 0, []⟩) nl hl hs ms 0 := by
      refine ⟨fun i hi => ?_, s5 _ _ nmH, s5 _ _ hsH, s5 _ _ ems, [], e5, Nat.le_refl _, fun t ht => by cases ht⟩
      match i, hi with
      | 0, _ => exact ⟨Lm0.same (s4.trans s5), Mm0.same s5, alk_nil _, rs_nil _ _, ho Lm0.tab fo0⟩
      | 1, _ => exact ⟨Lm1.same (s4.trans s5), Mm1.same s5, alk_nil _, rs_nil _ _, ho Lm1.tab fo1⟩
    have g5 : ∀ i, i < 2 → (two2 (⟨t0, 0, []⟩ : Ls) ⟨t1, 0, []⟩ i).given ≤ 0 := fun i hi => by
      match i, hi with
      | 0, _ => exact Nat.le_refl _
      | 1, _ => exact Nat.le_refl _
    generalize upd H4 hl (.lst []) = H5 at s5 e5 sc5 A5
    generalize two2 (⟨t0, 0, []⟩ : Ls) ⟨t1, 0, []⟩ = m5 at A5 g5
    generalize two2 p0 p1 = p at sep A5
    generalize two2 h0 h1 = hd at sep A5
    generalize two2 d0 d1 = d at sep A5
    generalize two2 o0 o1 = od at sep A5
    refine seq_use (fun v H' => Same H5 H' ∧ ∃ k : Int, v = .int k) (fun Q' kk => ?_) ?_
    · refine ⟨_, rfl, a, ns, 3, rfl, sc5.sq, hsm, fun c3 hc3 => ⟨by show 2 ≤ sizeLine; decide, fun l hl2 => ⟨_, rfl, a, ns, 3, rfl, (same_of hl2 : Same H5 _).seq sc5.sq, hsm, fun c4 hc4 => ?_⟩⟩⟩
      obtain ⟨v, hv, hm, _⟩ := atI_mem (xs := [V.int 10, .int 999000000]) (i := c4 / 10 % 2) (Int.emod_nonneg _ (show (2 : Int) ≠ 0 by decide)) (Int.emod_lt_of_pos _ (show (0 : Int) < 2 by decide))
      have hv2 : ∃ b : Int, v = .int b ∧ 0 < b := by
        simp only [List.mem_cons, List.not_mem_nil, or_false] at hm
        rcases hm with rfl | rfl
        · exact ⟨10, rfl, by decide⟩
        · exact ⟨999000000, rfl, by decide⟩
      obtain ⟨b, rfl, hb⟩ := hv2
      exact ⟨_, _, rfl, rfl, by walk_at "m", _, _, rfl, rfl, by walk_at "m", l, _, _, _, rfl, rfl, SqL.of upd_same, hv, _, _, rfl, rfl, hb, kk _ _ ⟨same_of hl2, _, rfl⟩⟩
    rintro _ H6 ⟨s6, tu, rfl⟩
    dsimp only [gName]
    have A6 := A5.same s6
    have sc6 := sc5.same s6
    refine seq_use (fun v H' => H6 = H' ∧ ∃ k : Int, v = .int k ∧ 0 ≤ k ∧ k ≤ 90) (fun Q' kk => ?_) ?_
    · refine ⟨_, rfl, a, _, rfl, .inl sc6.sq, _, _, rfl, rfl, _, rfl, ite2 (fun _ => kk _ _ ⟨rfl, 90, rfl, by decide, by decide⟩) (fun _ => kk _ _ ⟨rfl, 50, rfl, by decide, by decide⟩)⟩
    rintro _ _ ⟨rfl, k, rfl, k0, k1⟩
    dsimp only [gName]
    refine stm_use (fun σ' H' => ∃ (m M : Nat → Ls) (v6 v8 v9 : Option V), All9 C zs H' p hd d od m M nl hl hs ms 640 ∧ (∀ j, j < 2 → (m j).given < 1000) ∧ Scr K H' a hl (ns.map V.int) ∧ σ' = [some (.ref a), some (.ref nl), some (.ref tl), some (.ref hs), some (.ref ms), some (.ref hl), v6, some (.int k), v8, v9]) (fun Q' kk => ?_) ?_
    · refine ⟨_, rfl, a, _, rfl, .inl sc6.sq, _, rfl, _, _, rfl, rfl, _, _, rfl, 4, _, rfl, ?_, ?_⟩
      · rw [List.length_map]
        refine ⟨by decide, by decide, ?_, ?_⟩
        · split <;> omega
        · split <;> omega
      · rw [List.length_map]
        generalize hN : ((if (4 : Int) + k < (ns.length : Int) then 4 + k else (ns.length : Int)) - 4).toNat = N
        have hN1 : ∀ i, i < N → 4 + i < ns.length := fun i hi => by
          rw [← hN] at hi
          split at hi <;> omega
        have hN2 : N ≤ 63 := by rw [← hN]; split <;> omega
        refine for_range (lo := 4) (n := N) (fun i σ H' => ∃ (m M : Nat → Ls) (tu : Int) (v8 v9 : Option V), All9 C zs H' p hd d od m M nl hl hs ms (10 * i) ∧ (∀ j, j < 2 → (m j).given ≤ i) ∧ Scr K H' a hl (ns.map V.int) ∧ σ = [some (.ref a), some (.ref nl), some (.ref tl), some (.ref hs), some (.ref ms), some (.ref hl), some (.int tu), some (.int k), v8, v9]) ⟨m5, m5, tu, none, none, A6, g5, sc6, rfl⟩ ?_ (fun σ H' h => ?_)
        · rintro i σ H7 hi ⟨m, M, tu, v8, v9, A7, g7, sc7, rfl⟩
          dsimp only [gName]
          have hi2 := hN1 i hi
          obtain ⟨v, hv, hm, _⟩ := atI_mem (xs := ns.map V.int) (i := (4 : Int) + (i : Int)) (by omega) (by rw [List.length_map]; omega)
          obtain ⟨c, hc, rfl⟩ := List.mem_map.mp hm
          have ek : (4 : Int) + (i : Int) = ((4 + i : Nat) : Int) := by omega
          have ek2 : (200 : Int) + ((4 : Int) + (i : Int)) = ((204 + i : Nat) : Int) := by omega
          refine ⟨_, rfl, _, rfl, a, _, _, _, rfl, rfl, sc7.sq, hv, _, rfl, c, 4 + i, (by show [V.int c, V.int ((4 : Int) + (i : Int))] = _; rw [ek]), hsm c hc, by omega, fun cell => ?_⟩
          dsimp only [gName]
          refine ⟨_, rfl, _, rfl, _, _, rfl, rfl, by walk_at "m", _, _, rfl, rfl, by walk_at "m", _, _, rfl, rfl, ?_⟩
          dsimp only [gName]
          obtain ⟨j, hj, ej, hat⟩ := two_at (p := p) cell
          refine ⟨_, rfl, _, rfl, _, _, rfl, rfl, by walk_at "m", hs, _, _, _, rfl, rfl, SqL.of A7.hs, hat, _, rfl, _, rfl, _, _, rfl, rfl, by walk_at "m", ms, _, _, _, rfl, rfl, SqL.of A7.ms, two_at' hj ej, _, rfl, _, _, rfl, rfl, by walk_at "m", _, rfl, _, rfl, ?_⟩
          have t7 := A7.t j hj
          have gj := g7 j hj
          refine ⟨zs, p j, hd j, d j, od j, nl, m j, M j, _, _, rfl, t7, A7.nm, h8, by omega, fun m' M' H8 c8 t8 hle => ⟨_, rfl, iteF (next_to ?_)⟩⟩
          dsimp only
          have A8 := A7.step sep hj (c8.wide w4) t8 (A7.he.chg c8 t7.noT t7.noL)
          have sc8 := sc7.chg (c8.wide w4) (A7.plain hj)
          have g8 : ∀ j', j' < 2 → (put9 m j m' j').given ≤ i + 1 := fun j' hj' => by
            unfold put9
            by_cases h : j' = j
            · rw [if_pos h]
              omega
            · rw [if_neg h]
              have := g7 j' hj'
              omega
          refine ⟨_, rfl, _, rfl, _, rfl, _, rfl, a, _, _, _, rfl, rfl, sc8.sq, hv, _, rfl, _, _, rfl, rfl, c, 204 + i, (by show [V.int c, V.int ((200 : Int) + ((4 : Int) + (i : Int)))] = _; rw [ek2]), hsm c hc, by omega, fun mm => ⟨_, rfl, _, rfl, ?_⟩⟩
          refine ⟨zs, p, hd, d, od, put9 m j m', put9 M j M', nl, hl, hs, ms, 10 * i, mm, a, ns.map V.int, rfl, A8, sep, h8, fun j' hj' => by have := g8 j' hj'; omega, by omega, sc8, fun H9 A9 sc9 => ⟨_, rfl, iteF ⟨put9 m j m', put9 M j M', _, _, _, ?_, g8, sc9, rfl⟩⟩⟩
          have e10 : 10 * i + 10 = 10 * (i + 1) := by omega
          rw [e10] at A9
          exact A9
        · obtain ⟨m, M, tu', v8, v9, A7, g7, sc7, rfl⟩ := h
          exact kk _ _ ⟨m, M, _, v8, v9, ⟨A7.t, A7.nm, A7.hs, A7.ms, A7.he.more (by omega)⟩, (fun j hj => by have := g7 j hj; omega), sc7, rfl⟩
    · rintro σ' H7 ⟨m, M, v6, v8, v9, A7, g7, sc7, rfl⟩
      refine ⟨_, rfl, _, rfl, _, rfl, a, ns, 2, rfl, sc7.sq, hsm, fun c2 hc2 => ⟨_, _, rfl, rfl, .inl ⟨by decide, by decide⟩, _, rfl, _, rfl, ?_⟩⟩
      refine ⟨zs, p, hd, d, od, m, M, nl, hl, hs, ms, 640, _, a, ns.map V.int, rfl, A7, sep, h8, g7, by omega, sc7, fun H8 A8 sc8 => ⟨_, rfl, iteF (next_to ?_)⟩⟩
      dsimp only
      obtain ⟨ts, eh, hts, pk⟩ := A8.he.ex
      refine ⟨_, rfl, hl, rfl, ⟨_, SqL.of eh⟩, ?_⟩
      refine comp1_wk (wk_list K hl (ts.map V.ref)) (fun i ys H' => H' = H8 ∧ ys = []) ⟨rfl, rfl⟩ (fun i ys H' _ h => ⟨by rw [h.1]; exact SqL.of eh, by rw [h.2]; exact Nat.zero_le _⟩) (by rw [List.length_map]; exact Nat.le_trans hts (by decide)) ?_ ?_
      · rintro i x ys H' Nx hx ⟨rfl, rfl⟩ hN
        obtain ⟨t, ht, rfl⟩ := List.mem_map.mp (List.mem_of_getElem? hx)
        obtain ⟨aa, bb, ls, e1, _, _, e2, e3, e4⟩ := pk t ht
        have rr : ∀ {x : Addr}, H' x = some (.lst (ls.map (fun l => V.ref l.at_) ++ [.non])) → Rep K H' (.ref x) (.l (ls.map rowD ++ [.a .non])) := fun e => .l (SqL.of e) (reps_snoc (sel_reps e4) (.a rfl))
        refine ⟨_, rfl, t, _, _, _, rfl, rfl, SqT.of e1, atI_nat (j := 0) rfl, _, rfl, t, _, _, _, rfl, rfl, SqT.of e1, atI_nat (j := 1) rfl, .l (ls.map rowD ++ [.a .non]), .l (ls.map rowD ++ [.a .non]), rr e2, rr e3, ?_, _, rfl, ?_⟩
        · have := dep_snoc ls
          simp only [depD]
          omega
        · rw [eqD_refl _ (rr e2).flat]
          exact iteF (hN _ _ ⟨rfl, rfl⟩)
      · rintro ys H' ⟨rfl, rfl⟩ e he
        refine ⟨by show 0 ≤ sizeLine; decide, fun e' he' => ⟨.l [], .l [], .l (SqL.of (same_of he' _ _ upd_same)) .nil, .l (SqL.of upd_same) .nil, by simp [depD, depDs], ?_⟩⟩
        have e0 : eqD (.l []) (.l []) = true := by unfold eqD eqDs; rfl
        rw [e0]
        exact q _
end
end K09

set_option Elab.async false
set_option linter.all false
set_option maxRecDepth 100000
set_option maxHeartbeats 8000000
namespace K09
open PySem L2
def mkd (e0 e1 e2 e3 e4 e5 e6 e7 e8 e9 e10 e11 e12 e13 e14 e15 e16 e17 e18 : Addr) : Nat → Addr
  | 0 => e0
  | 1 => e1
  | 2 => e2
  | 3 => e3
  | 4 => e4
  | 5 => e5
  | 6 => e6
  | 7 => e7
  | 8 => e8
  | 9 => e9
  | 10 => e10
  | 11 => e11
  | 12 => e12
  | 13 => e13
  | 14 => e14
  | 15 => e15
  | 16 => e16
  | 17 => e17
  | _ => e18
theorem all_mk {l : PySem.W.OpenLaw} {w : World} {K : PySem.W.Frag} {h : Heap} {mg : Str → Option Value} {fa : Addr} (X : K.In h) (G : h.Ns mainGlobals mg) (hfa : mg "law" = some (.ref fa)) {C f eh e0 e1 e2 e3 e4 e5 e6 e7 e8 e9 e10 e11 e12 e13 e14 e15 e16 e17 e18 : Addr}
    {od an : Option Addr} {sl : Array (Option Value)} {oc kV dc pm cd ct : Value} {t1 t2 : Tok}
    (is_Leases : PySem.W.nsIn K mainGlobals "Leases" = some (some (.ref C)))
    (cls_Leases : Cls K C)
    (n1 : PySem.W.findIn K (.ref C) "term" = some none)
    (n2 : PySem.W.findIn K (.ref C) "given" = some none)
    (n3 : PySem.W.findIn K (.ref C) "held" = some none)
    (hn : PySem.W.specialIn K (.builtin "object.__class__") "__get__" = some (some (.builtin "getset_descriptor.__get__")))
    (htk : PySem.W.takesIn K (.builtin "object.__class__") = some true)
    (i_L : IDef K C "Leases.__init__" s_Leases___init__ ["self", "term"])
    (m_holder : MDef K C "holder" "Leases.holder" s_Leases_holder ["self", "worker"])
    (m_take : MDef K C "take" "Leases.take" s_Leases_take ["self", "place", "worker", "turn"])
    (m_of : MDef K C "of" "Leases.of" s_Leases_of ["self", "number"])
    (m_renew : MDef K C "renew" "Leases.renew" s_Leases_renew ["self", "number", "turn"])
    (m_close : MDef K C "close" "Leases.close" s_Leases_close ["self", "number"])
    (m_rows : MDef K C "rows" "Leases.rows" s_Leases_rows ["self"])
    (d_is_whole : Def K mg "is_whole" s_is_whole ["thing"])
    (d_is_among : Def K mg "is_among" s_is_among ["thing", "least", "most"])
    (d_is_term : Def K mg "is_term" s_is_term ["thing"])
    (d__law_cell_at : Def K mg "_law_cell_at" s__law_cell_at ["_law_script", "_law_k"])
    (d__law_mixed : Def K mg "_law_mixed" s__law_mixed ["_law_cell", "_law_k"])
    (d__law_word : Def K mg "_law_word" s__law_word ["_law_e"])
    (d__law_names : Def K mg "_law_names" s__law_names ["_law_cell"])
    (d__law_whole : Def K mg "_law_whole" s__law_whole ["_law_found"])
    (d__law_done : Def K mg "_law_done" s__law_done ["_law_house", "_law_way", "_law_one", "_law_other", "_law_turn"])
    (d__law_due : Def K mg "_law_due" s__law_due ["_law_m", "_law_way", "_law_one", "_law_other", "_law_turn"])
    (d__law_alike : Def K mg "_law_alike" s__law_alike ["_law_found", "_law_due_here"])
    (d__law_deed : Def K mg "_law_deed" s__law_deed ["_law_house", "_law_m", "_law_cell", "_law_names_here", "_law_turn"])
    (d__law_asked : Def K mg "_law_asked" s__law_asked ["_law_house", "_law_m", "_law_way", "_law_cell", "_law_names_here", "_law_held"])
    (d__law_looked : Def K mg "_law_looked" s__law_looked ["_law_houses", "_law_models", "_law_cell", "_law_names_here", "_law_held"])
    (lk : PySem.W.nsIn K mainGlobals "law" = some (some (.ref f)))
    (ll : K.lookup f = some ⟨oc, od, .func (PySem.W.fnOf "law" "law" (defArgs s_law) (defBody s_law) (defScope s_law) .none kV dc pm an cd ct), sl⟩)
    (lc : PySem.W.codeIn K cd "law" = true)
    (lp : PySem.W.keepIn K (.ref f) = true)
    (b_isinstance : PySem.W.nsIn K mainGlobals "isinstance" = some none)
    (b_len : PySem.W.nsIn K mainGlobals "len" = some none)
    (b_all : PySem.W.nsIn K mainGlobals "all" = some none)
    (b_int : PySem.W.nsIn K mainGlobals "int" = some none)
    (b_bool : PySem.W.nsIn K mainGlobals "bool" = some none)
    (b_str : PySem.W.nsIn K mainGlobals "str" = some none)
    (b_list : PySem.W.nsIn K mainGlobals "list" = some none)
    (b_range : PySem.W.nsIn K mainGlobals "range" = some none)
    (b_set : PySem.W.nsIn K mainGlobals "set" = some none)
    (b_enumerate : PySem.W.nsIn K mainGlobals "enumerate" = some none)
    (b_tuple : PySem.W.nsIn K mainGlobals "tuple" = some none)
    (b_min : PySem.W.nsIn K mainGlobals "min" = some none)
    (b_sorted : PySem.W.nsIn K mainGlobals "sorted" = some none)
    (b_ValueError : PySem.W.nsIn K mainGlobals "ValueError" = some none)
    (g_LEAST : PySem.W.nsIn K mainGlobals "LEAST_TERM" = some (some (.int 2 t1)))
    (g_MOST : PySem.W.nsIn K mainGlobals "MOST_TERM" = some (some (.int 1000 t2)))
    (x_BadTerm : PySem.W.nsIn K mainGlobals "BadTerm" = some (some (.ref e0)))
    (x_Busy : PySem.W.nsIn K mainGlobals "Busy" = some (some (.ref e1)))
    (x_Gone : PySem.W.nsIn K mainGlobals "Gone" = some (some (.ref e2)))
    (x_NoAlarm : PySem.W.nsIn K mainGlobals "NoAlarm" = some (some (.ref e3)))
    (x_BadName : PySem.W.nsIn K mainGlobals "BadName" = some (some (.ref e4)))
    (x_BadNumber : PySem.W.nsIn K mainGlobals "BadNumber" = some (some (.ref e5)))
    (x_BadNeeds : PySem.W.nsIn K mainGlobals "BadNeeds" = some (some (.ref e6)))
    (x_BadPlan : PySem.W.nsIn K mainGlobals "BadPlan" = some (some (.ref e7)))
    (x_Twice : PySem.W.nsIn K mainGlobals "Twice" = some (some (.ref e8)))
    (x_NoJob : PySem.W.nsIn K mainGlobals "NoJob" = some (some (.ref e9)))
    (x_Ring : PySem.W.nsIn K mainGlobals "Ring" = some (some (.ref e10)))
    (x_BadLine : PySem.W.nsIn K mainGlobals "BadLine" = some (some (.ref e11)))
    (x_BadBook : PySem.W.nsIn K mainGlobals "BadBook" = some (some (.ref e12)))
    (x_BadShot : PySem.W.nsIn K mainGlobals "BadShot" = some (some (.ref e13)))
    (x_BadEvent : PySem.W.nsIn K mainGlobals "BadEvent" = some (some (.ref e14)))
    (x_BadStep : PySem.W.nsIn K mainGlobals "BadStep" = some (some (.ref e15)))
    (x_BadState : PySem.W.nsIn K mainGlobals "BadState" = some (some (.ref e16)))
    (x_BadTurn : PySem.W.nsIn K mainGlobals "BadTurn" = some (some (.ref e17)))
    (x_BadBuilders : PySem.W.nsIn K mainGlobals "BadBuilders" = some (some (.ref e18)))
    (x_HallError : PySem.W.nsIn K mainGlobals "HallError" = some (some (.ref eh)))
    (ga0 : PySem.W.findIn K (.ref e0) "__getattribute__" = some (some (.builtin "BaseException.__getattribute__")))
    (gh0 : PySem.W.findIn K (.ref e0) "__getattr__" = some none)
    (be0 : PySem.W.mroIn K e0 (.type "BaseException") = some true)
    (hd0 : PySem.W.hasDictIn K e0 = true)
    (ha0 : PySem.W.findIn K (.ref e0) "__class__" = some (some (.builtin "object.__class__")))
    (hm0 : PySem.W.mroIn K e0 (.type "object") = some true)
    (kt0_0 : PySem.W.kitOne K (.ref e0) (.ref e0) = some true)
    (kt0_1 : PySem.W.kitOne K (.ref e0) (.ref e1) = some false)
    (kt0_2 : PySem.W.kitOne K (.ref e0) (.ref e2) = some false)
    (kt0_3 : PySem.W.kitOne K (.ref e0) (.ref e3) = some false)
    (kt0_4 : PySem.W.kitOne K (.ref e0) (.ref e4) = some false)
    (kt0_5 : PySem.W.kitOne K (.ref e0) (.ref e5) = some false)
    (kt0_6 : PySem.W.kitOne K (.ref e0) (.ref e6) = some false)
    (kt0_7 : PySem.W.kitOne K (.ref e0) (.ref e7) = some false)
    (kt0_8 : PySem.W.kitOne K (.ref e0) (.ref e8) = some false)
    (kt0_9 : PySem.W.kitOne K (.ref e0) (.ref e9) = some false)
    (kt0_10 : PySem.W.kitOne K (.ref e0) (.ref e10) = some false)
    (kt0_11 : PySem.W.kitOne K (.ref e0) (.ref e11) = some false)
    (kt0_12 : PySem.W.kitOne K (.ref e0) (.ref e12) = some false)
    (kt0_13 : PySem.W.kitOne K (.ref e0) (.ref e13) = some false)
    (kt0_14 : PySem.W.kitOne K (.ref e0) (.ref e14) = some false)
    (kt0_15 : PySem.W.kitOne K (.ref e0) (.ref e15) = some false)
    (kt0_16 : PySem.W.kitOne K (.ref e0) (.ref e16) = some false)
    (kt0_17 : PySem.W.kitOne K (.ref e0) (.ref e17) = some false)
    (kt0_18 : PySem.W.kitOne K (.ref e0) (.ref e18) = some false)
    (kve0 : PySem.W.kitOne K (.ref e0) (.type "ValueError") = some true)
    (exc0 : PySem.W.excIn K e0 bmV "ValueError.__new__" = true)
    (exm0 : PySem.W.exmOne K (.ref e0) (.ref eh) = some true)
    (ga1 : PySem.W.findIn K (.ref e1) "__getattribute__" = some (some (.builtin "BaseException.__getattribute__")))
    (gh1 : PySem.W.findIn K (.ref e1) "__getattr__" = some none)
    (be1 : PySem.W.mroIn K e1 (.type "BaseException") = some true)
    (hd1 : PySem.W.hasDictIn K e1 = true)
    (ha1 : PySem.W.findIn K (.ref e1) "__class__" = some (some (.builtin "object.__class__")))
    (hm1 : PySem.W.mroIn K e1 (.type "object") = some true)
    (kt1_0 : PySem.W.kitOne K (.ref e1) (.ref e0) = some false)
    (kt1_1 : PySem.W.kitOne K (.ref e1) (.ref e1) = some true)
    (kt1_2 : PySem.W.kitOne K (.ref e1) (.ref e2) = some false)
    (kt1_3 : PySem.W.kitOne K (.ref e1) (.ref e3) = some false)
    (kt1_4 : PySem.W.kitOne K (.ref e1) (.ref e4) = some false)
    (kt1_5 : PySem.W.kitOne K (.ref e1) (.ref e5) = some false)
    (kt1_6 : PySem.W.kitOne K (.ref e1) (.ref e6) = some false)
    (kt1_7 : PySem.W.kitOne K (.ref e1) (.ref e7) = some false)
    (kt1_8 : PySem.W.kitOne K (.ref e1) (.ref e8) = some false)
    (kt1_9 : PySem.W.kitOne K (.ref e1) (.ref e9) = some false)
    (kt1_10 : PySem.W.kitOne K (.ref e1) (.ref e10) = some false)
    (kt1_11 : PySem.W.kitOne K (.ref e1) (.ref e11) = some false)
    (kt1_12 : PySem.W.kitOne K (.ref e1) (.ref e12) = some false)
    (kt1_13 : PySem.W.kitOne K (.ref e1) (.ref e13) = some false)
    (kt1_14 : PySem.W.kitOne K (.ref e1) (.ref e14) = some false)
    (kt1_15 : PySem.W.kitOne K (.ref e1) (.ref e15) = some false)
    (kt1_16 : PySem.W.kitOne K (.ref e1) (.ref e16) = some false)
    (kt1_17 : PySem.W.kitOne K (.ref e1) (.ref e17) = some false)
    (kt1_18 : PySem.W.kitOne K (.ref e1) (.ref e18) = some false)
    (kve1 : PySem.W.kitOne K (.ref e1) (.type "ValueError") = some true)
    (exc1 : PySem.W.excIn K e1 bmV "ValueError.__new__" = true)
    (exm1 : PySem.W.exmOne K (.ref e1) (.ref eh) = some true)
    (ga2 : PySem.W.findIn K (.ref e2) "__getattribute__" = some (some (.builtin "BaseException.__getattribute__")))
    (gh2 : PySem.W.findIn K (.ref e2) "__getattr__" = some none)
    (be2 : PySem.W.mroIn K e2 (.type "BaseException") = some true)
    (hd2 : PySem.W.hasDictIn K e2 = true)
    (ha2 : PySem.W.findIn K (.ref e2) "__class__" = some (some (.builtin "object.__class__")))
    (hm2 : PySem.W.mroIn K e2 (.type "object") = some true)
    (kt2_0 : PySem.W.kitOne K (.ref e2) (.ref e0) = some false)
    (kt2_1 : PySem.W.kitOne K (.ref e2) (.ref e1) = some false)
    (kt2_2 : PySem.W.kitOne K (.ref e2) (.ref e2) = some true)
    (kt2_3 : PySem.W.kitOne K (.ref e2) (.ref e3) = some false)
    (kt2_4 : PySem.W.kitOne K (.ref e2) (.ref e4) = some false)
    (kt2_5 : PySem.W.kitOne K (.ref e2) (.ref e5) = some false)
    (kt2_6 : PySem.W.kitOne K (.ref e2) (.ref e6) = some false)
    (kt2_7 : PySem.W.kitOne K (.ref e2) (.ref e7) = some false)
    (kt2_8 : PySem.W.kitOne K (.ref e2) (.ref e8) = some false)
    (kt2_9 : PySem.W.kitOne K (.ref e2) (.ref e9) = some false)
    (kt2_10 : PySem.W.kitOne K (.ref e2) (.ref e10) = some false)
    (kt2_11 : PySem.W.kitOne K (.ref e2) (.ref e11) = some false)
    (kt2_12 : PySem.W.kitOne K (.ref e2) (.ref e12) = some false)
    (kt2_13 : PySem.W.kitOne K (.ref e2) (.ref e13) = some false)
    (kt2_14 : PySem.W.kitOne K (.ref e2) (.ref e14) = some false)
    (kt2_15 : PySem.W.kitOne K (.ref e2) (.ref e15) = some false)
    (kt2_16 : PySem.W.kitOne K (.ref e2) (.ref e16) = some false)
    (kt2_17 : PySem.W.kitOne K (.ref e2) (.ref e17) = some false)
    (kt2_18 : PySem.W.kitOne K (.ref e2) (.ref e18) = some false)
    (kve2 : PySem.W.kitOne K (.ref e2) (.type "ValueError") = some true)
    (exc2 : PySem.W.excIn K e2 bmV "ValueError.__new__" = true)
    (exm2 : PySem.W.exmOne K (.ref e2) (.ref eh) = some true) :
    ∃ fd : FuncData, (∀ (s : Shared) (v : Value), BindsTo s fd ⟨[v], []⟩ [("_law_script", v)]) ∧ ∀ base : Heap, K.In base → base.Ns mainGlobals mg → FnOk l.prog w K mg base CX0 7 fa fd ["_law_script"] (spLaw K) := by
  have e := hfa.symm.trans (PySem.W.mg_of X G lk)
  cases e
  have B0 : Bltn mg := ⟨PySem.W.mg_none_of X G b_isinstance, PySem.W.mg_none_of X G b_len, PySem.W.mg_none_of X G b_all, PySem.W.mg_none_of X G b_int, PySem.W.mg_none_of X G b_bool, PySem.W.mg_none_of X G b_str, PySem.W.mg_none_of X G b_list, PySem.W.mg_none_of X G b_range⟩
  have B1 : Bw mg := ⟨B0, PySem.W.mg_none_of X G b_set, PySem.W.mg_none_of X G b_enumerate⟩
  have S : LCls K mg C := ⟨cls_Leases, PySem.W.mg_of X G is_Leases, n1, n2, n3⟩
  have BXX : BX K mg (mkd e0 e1 e2 e3 e4 e5 e6 e7 e8 e9 e10 e11 e12 e13 e14 e15 e16 e17 e18) := ⟨exc0, exc1, exc2, PySem.W.mg_of X G x_BadTerm, PySem.W.mg_of X G x_Busy, PySem.W.mg_of X G x_Gone⟩
  have EXX : EX K mg (mkd e0 e1 e2 e3 e4 e5 e6 e7 e8 e9 e10 e11 e12 e13 e14 e15 e16 e17 e18) (fun r => r < 3) := by
    refine ⟨⟨hn, htk⟩, (fun r hr => ?_), (fun r i hr hi => ?_), (fun r hr => ?_), PySem.W.mg_none_of X G b_ValueError, PySem.W.mg_of X G x_BadTerm, PySem.W.mg_of X G x_Busy, PySem.W.mg_of X G x_Gone, PySem.W.mg_of X G x_NoAlarm, PySem.W.mg_of X G x_BadName, PySem.W.mg_of X G x_BadNumber, PySem.W.mg_of X G x_BadNeeds, PySem.W.mg_of X G x_BadPlan, PySem.W.mg_of X G x_Twice, PySem.W.mg_of X G x_NoJob, PySem.W.mg_of X G x_Ring, PySem.W.mg_of X G x_BadLine, PySem.W.mg_of X G x_BadBook, PySem.W.mg_of X G x_BadShot, PySem.W.mg_of X G x_BadEvent, PySem.W.mg_of X G x_BadStep, PySem.W.mg_of X G x_BadState, PySem.W.mg_of X G x_BadTurn, PySem.W.mg_of X G x_BadBuilders⟩
    · match r, hr with
      | 0, _ => exact ⟨ga0, gh0, be0, hd0, ha0, hm0⟩
      | 1, _ => exact ⟨ga1, gh1, be1, hd1, ha1, hm1⟩
      | 2, _ => exact ⟨ga2, gh2, be2, hd2, ha2, hm2⟩
      | r + 3, hr => exact absurd (show r + 3 < 3 from hr) (by omega)
    · match r, hr with
      | 0, _ =>
        match i, hi with
        | 0, _ => exact kt0_0
        | 1, _ => exact kt0_1
        | 2, _ => exact kt0_2
        | 3, _ => exact kt0_3
        | 4, _ => exact kt0_4
        | 5, _ => exact kt0_5
        | 6, _ => exact kt0_6
        | 7, _ => exact kt0_7
        | 8, _ => exact kt0_8
        | 9, _ => exact kt0_9
        | 10, _ => exact kt0_10
        | 11, _ => exact kt0_11
        | 12, _ => exact kt0_12
        | 13, _ => exact kt0_13
        | 14, _ => exact kt0_14
        | 15, _ => exact kt0_15
        | 16, _ => exact kt0_16
        | 17, _ => exact kt0_17
        | 18, _ => exact kt0_18
        | i + 19, hi => omega
      | 1, _ =>
        match i, hi with
        | 0, _ => exact kt1_0
        | 1, _ => exact kt1_1
        | 2, _ => exact kt1_2
        | 3, _ => exact kt1_3
        | 4, _ => exact kt1_4
        | 5, _ => exact kt1_5
        | 6, _ => exact kt1_6
        | 7, _ => exact kt1_7
        | 8, _ => exact kt1_8
        | 9, _ => exact kt1_9
        | 10, _ => exact kt1_10
        | 11, _ => exact kt1_11
        | 12, _ => exact kt1_12
        | 13, _ => exact kt1_13
        | 14, _ => exact kt1_14
        | 15, _ => exact kt1_15
        | 16, _ => exact kt1_16
        | 17, _ => exact kt1_17
        | 18, _ => exact kt1_18
        | i + 19, hi => omega
      | 2, _ =>
        match i, hi with
        | 0, _ => exact kt2_0
        | 1, _ => exact kt2_1
        | 2, _ => exact kt2_2
        | 3, _ => exact kt2_3
        | 4, _ => exact kt2_4
        | 5, _ => exact kt2_5
        | 6, _ => exact kt2_6
        | 7, _ => exact kt2_7
        | 8, _ => exact kt2_8
        | 9, _ => exact kt2_9
        | 10, _ => exact kt2_10
        | 11, _ => exact kt2_11
        | 12, _ => exact kt2_12
        | 13, _ => exact kt2_13
        | 14, _ => exact kt2_14
        | 15, _ => exact kt2_15
        | 16, _ => exact kt2_16
        | 17, _ => exact kt2_17
        | 18, _ => exact kt2_18
        | i + 19, hi => omega
      | r + 3, hr => exact absurd (show r + 3 < 3 from hr) (by omega)
    · match r, hr with
      | 0, _ => exact kve0
      | 1, _ => exact kve1
      | 2, _ => exact kve2
      | r + 3, hr => exact absurd (show r + 3 < 3 from hr) (by omega)
  have EXM : ∀ r, r < 3 → PySem.W.exmOne K (.ref ((mkd e0 e1 e2 e3 e4 e5 e6 e7 e8 e9 e10 e11 e12 e13 e14 e15 e16 e17 e18) r)) (.ref eh) = some true := fun r hr => by
    match r, hr with
    | 0, _ => exact exm0
    | 1, _ => exact exm1
    | 2, _ => exact exm2
    | r + 3, hr => omega
  refine ⟨PySem.W.fnOf "law" "law" (defArgs s_law) (defBody s_law) (defScope s_law) .none kV dc pm an cd ct, fun s v => .of_eq rfl, fun base _ _ => ?_⟩
  have F := fun_mk (st := s_law) ll lc lp
  have gL := PySem.W.mg_of X G g_LEAST
  have gM := PySem.W.mg_of X G g_MOST
  have k_is_whole := ok_is_whole (P := l.prog) (w := w) (base := base) d_is_whole B0
  have k_is_among := ok_is_among d_is_among k_is_whole
  have k_term := ok_term d_is_term gL gM k_is_among
  have ki := i_L.knows (P := l.prog) (w := w) (mg := mg) (base := base) fun f fd F => ok_init F BXX S gL gM k_term
  have km_holder := m_holder.knows (P := l.prog) (w := w) (mg := mg) (base := base) fun f fd F => ok_holder F S
  have km_take := m_take.knows (P := l.prog) (w := w) (mg := mg) (base := base) fun f fd F => ok_take F BXX S km_holder
  have km_of := m_of.knows (P := l.prog) (w := w) (mg := mg) (base := base) fun f fd F => ok_of F BXX S k_is_whole
  have km_renew := m_renew.knows (P := l.prog) (w := w) (mg := mg) (base := base) fun f fd F => ok_renew F S km_of
  have km_close := m_close.knows (P := l.prog) (w := w) (mg := mg) (base := base) fun f fd F => ok_close F S km_of
  have km_rows := m_rows.knows (P := l.prog) (w := w) (mg := mg) (base := base) fun f fd F => ok_rows F S B0
  have k_word := ok_word (P := l.prog) (w := w) (base := base) d__law_word B0 EXX
  have k_cell := ok_cell (P := l.prog) (w := w) (base := base) d__law_cell_at B0
  have k_mixed := ok_mixed (P := l.prog) (w := w) (base := base) d__law_mixed
  have k_names := ok_names d__law_names B1 k_mixed
  have k_done := ok_done (D := (mkd e0 e1 e2 e3 e4 e5 e6 e7 e8 e9 e10 e11 e12 e13 e14 e15 e16 e17 e18)) (R := fun r => r < 3) d__law_done S eh (PySem.W.mg_of X G x_HallError) EXM (fun r h => h) km_of km_renew km_close km_take k_word
  have k_due := ok_due (P := l.prog) (w := w) (base := base) d__law_due
  have k_whole := ok_whole' (P := l.prog) (w := w) (base := base) d__law_whole B0
  have B2 : Bv mg := ⟨B1, PySem.W.mg_none_of X G b_tuple, PySem.W.mg_none_of X G b_min, PySem.W.mg_none_of X G b_sorted⟩
  have k_alike := ok_alike d__law_alike B2 k_whole
  have k_deed := ok_deed d__law_deed B2 k_done k_due k_alike
  have k_asked := ok_asked d__law_asked B2 S k_whole k_done k_due k_alike km_holder km_rows
  have k_looked := ok_looked d__law_looked B2 k_asked
  exact ok_law F B2 S k_cell k_mixed k_names ki k_deed k_looked
theorem walk {l : PySem.W.OpenLaw} {q : Program} {loose : List Str} {XP : (Str → Option Value) → Heap → Prop} {YP : World → Heap → Prop} {d : DefRec} {K : Params → PySem.W.Frag} (hn : l.most = some 63) (hdf : d.params.defaults = [])
    (hY : ∀ (w : World) (h : Heap), YP w h → (K w.params).In h)
    (F : ∀ (w : World) (mg : Str → Option Value) (fa : Addr) (h : Heap), (K w.params).In h → h.Ns mainGlobals mg → mg d.name = some (.ref fa) →
      ∃ fd : FuncData, (∀ (s : Shared) (u : Value), BindsTo s fd ⟨[u], []⟩ [("_law_script", u)]) ∧ ∀ base : Heap, (K w.params).In base → base.Ns mainGlobals mg → FnOk l.prog w (K w.params) mg base CX0 7 fa fd ["_law_script"] (spLaw (K w.params))) :
    PySem.W.WalkO q loose XP YP l.row.toRowW d [] (fun f vs => PySem.call f vs) :=
  L2.walk_ofW (n := 63) (k := 7) (x := "_law_script") (CX := fun _ => CX0) (sp := fun w => spLaw (K w.params)) hn (by decide) hdf ⟨rfl, by decide, by decide⟩ hY F (fun _ _ a ns hl hsm _ hS => ⟨a, ns, rfl, hS, hl, hsm, fun _ => rfl⟩) fun _ _ _ _ _ z => z
end K09

set_option Elab.async false
set_option linter.all false
namespace PySem.W.Fast
end PySem.W.Fast
open PySem PySem.W PyProof.Rows
set_option maxRecDepth 100000 in
set_option maxHeartbeats 0 in
theorem PySem.Challenge.cw_buildhall_k09_leases_by_deeds_holds : PySem.Challenge.rw_buildhall_k09_leases_by_deeds.Holds := by
  w_on; o_law; k_head; (case hw => w_witness2)
  k_fill
  refine K09.walk (l := PySem.Challenge.rw_buildhall_k09_leases_by_deeds) rfl rfl (fun w h Y => PySem.W.kIn_of Y) ?F
  case F =>
    intro w mg fa h KX G hmg
    refine' K09.all_mk KX G hmg ?is_Leases ?cls_Leases ?n1 ?n2 ?n3 ?hn ?htk ?i_L ?m_holder ?m_take ?m_of ?m_renew ?m_close ?m_rows ?d_is_whole ?d_is_among ?d_is_term ?d__law_cell_at ?d__law_mixed ?d__law_word ?d__law_names ?d__law_whole ?d__law_done ?d__law_due ?d__law_alike ?d__law_deed ?d__law_asked ?d__law_looked ?lk ?ll ?lc ?lp ?b_isinstance ?b_len ?b_all ?b_int ?b_bool ?b_str ?b_list ?b_range ?b_set ?b_enumerate ?b_tuple ?b_min ?b_sorted ?b_ValueError ?g_LEAST ?g_MOST ?x_BadTerm ?x_Busy ?x_Gone ?x_NoAlarm ?x_BadName ?x_BadNumber ?x_BadNeeds ?x_BadPlan ?x_Twice ?x_NoJob ?x_Ring ?x_BadLine ?x_BadBook ?x_BadShot ?x_BadEvent ?x_BadStep ?x_BadState ?x_BadTurn ?x_BadBuilders ?x_HallError ?ga0 ?gh0 ?be0 ?hd0 ?ha0 ?hm0 ?kt0_0 ?kt0_1 ?kt0_2 ?kt0_3 ?kt0_4 ?kt0_5 ?kt0_6 ?kt0_7 ?kt0_8 ?kt0_9 ?kt0_10 ?kt0_11 ?kt0_12 ?kt0_13 ?kt0_14 ?kt0_15 ?kt0_16 ?kt0_17 ?kt0_18 ?kve0 ?exc0 ?exm0 ?ga1 ?gh1 ?be1 ?hd1 ?ha1 ?hm1 ?kt1_0 ?kt1_1 ?kt1_2 ?kt1_3 ?kt1_4 ?kt1_5 ?kt1_6 ?kt1_7 ?kt1_8 ?kt1_9 ?kt1_10 ?kt1_11 ?kt1_12 ?kt1_13 ?kt1_14 ?kt1_15 ?kt1_16 ?kt1_17 ?kt1_18 ?kve1 ?exc1 ?exm1 ?ga2 ?gh2 ?be2 ?hd2 ?ha2 ?hm2 ?kt2_0 ?kt2_1 ?kt2_2 ?kt2_3 ?kt2_4 ?kt2_5 ?kt2_6 ?kt2_7 ?kt2_8 ?kt2_9 ?kt2_10 ?kt2_11 ?kt2_12 ?kt2_13 ?kt2_14 ?kt2_15 ?kt2_16 ?kt2_17 ?kt2_18 ?kve2 ?exc2 ?exm2
    (case is_Leases => k_is)
    (case cls_Leases => refine' ⟨?_, ?_, ?_, ?_⟩ <;> k_is)
    (case n1 => k_is)
    (case n2 => k_is)
    (case n3 => k_is)
    (case hn => first | k_is | kernel_rfl)
    (case htk => first | k_is | kernel_rfl)
    case i_L =>
      refine' L2.init_mk ?a ?n ?l ?c ?k ?mk ?kC ?b
      (case a => k_is); (case n => k_is); (case l => k_is); (case c => k_is); (case k => k_is); (case mk => k_is); (case kC => k_is)
      (case b => exact fun _ _ _ _ _ _ us hl => match us, hl with | [_, _], _ => rfl)
    case m_holder =>
      refine' L2.meth_mk ?a ?n ?l ?c ?k ?b
      (case a => k_is); (case n => k_is); (case l => k_is); (case c => k_is); (case k => k_is)
      (case b => exact fun _ _ _ _ _ _ us hl => match us, hl with | [_, _], _ => rfl)
    case m_take =>
      refine' L2.meth_mk ?a ?n ?l ?c ?k ?b
      (case a => k_is); (case n => k_is); (case l => k_is); (case c => k_is); (case k => k_is)
      (case b => exact fun _ _ _ _ _ _ us hl => match us, hl with | [_, _, _, _], _ => rfl)
    case m_of =>
      refine' L2.meth_mk ?a ?n ?l ?c ?k ?b
      (case a => k_is); (case n => k_is); (case l => k_is); (case c => k_is); (case k => k_is)
      (case b => exact fun _ _ _ _ _ _ us hl => match us, hl with | [_, _], _ => rfl)
    case m_renew =>
      refine' L2.meth_mk ?a ?n ?l ?c ?k ?b
      (case a => k_is); (case n => k_is); (case l => k_is); (case c => k_is); (case k => k_is)
      (case b => exact fun _ _ _ _ _ _ us hl => match us, hl with | [_, _, _], _ => rfl)
    case m_close =>
      refine' L2.meth_mk ?a ?n ?l ?c ?k ?b
      (case a => k_is); (case n => k_is); (case l => k_is); (case c => k_is); (case k => k_is)
      (case b => exact fun _ _ _ _ _ _ us hl => match us, hl with | [_, _], _ => rfl)
    case m_rows =>
      refine' L2.meth_mk ?a ?n ?l ?c ?k ?b
      (case a => k_is); (case n => k_is); (case l => k_is); (case c => k_is); (case k => k_is)
      (case b => exact fun _ _ _ _ _ _ us hl => match us, hl with | [_], _ => rfl)
    case d_is_whole =>
      refine' L2.def_mk KX G ?a ?l ?c ?k ?b
      (case a => k_is); (case l => k_is); (case c => k_is); (case k => k_is)
      (case b => exact fun _ _ _ _ _ _ us hl => match us, hl with | [_], _ => rfl)
    case d_is_among =>
      refine' L2.def_mk KX G ?a ?l ?c ?k ?b
      (case a => k_is); (case l => k_is); (case c => k_is); (case k => k_is)
      (case b => exact fun _ _ _ _ _ _ us hl => match us, hl with | [_, _, _], _ => rfl)
    case d_is_term =>
      refine' L2.def_mk KX G ?a ?l ?c ?k ?b
      (case a => k_is); (case l => k_is); (case c => k_is); (case k => k_is)
      (case b => exact fun _ _ _ _ _ _ us hl => match us, hl with | [_], _ => rfl)
    case d__law_cell_at =>
      refine' L2.def_mk KX G ?a ?l ?c ?k ?b
      (case a => k_is); (case l => k_is); (case c => k_is); (case k => k_is)
      (case b => exact fun _ _ _ _ _ _ us hl => match us, hl with | [_, _], _ => rfl)
    case d__law_mixed =>
      refine' L2.def_mk KX G ?a ?l ?c ?k ?b
      (case a => k_is); (case l => k_is); (case c => k_is); (case k => k_is)
      (case b => exact fun _ _ _ _ _ _ us hl => match us, hl with | [_, _], _ => rfl)
    case d__law_word =>
      refine' L2.def_mk KX G ?a ?l ?c ?k ?b
      (case a => k_is); (case l => k_is); (case c => k_is); (case k => k_is)
      (case b => exact fun _ _ _ _ _ _ us hl => match us, hl with | [_], _ => rfl)
    case d__law_names =>
      refine' L2.def_mk KX G ?a ?l ?c ?k ?b
      (case a => k_is); (case l => k_is); (case c => k_is); (case k => k_is)
      (case b => exact fun _ _ _ _ _ _ us hl => match us, hl with | [_], _ => rfl)
    case d__law_whole =>
      refine' L2.def_mk KX G ?a ?l ?c ?k ?b
      (case a => k_is); (case l => k_is); (case c => k_is); (case k => k_is)
      (case b => exact fun _ _ _ _ _ _ us hl => match us, hl with | [_], _ => rfl)
    case d__law_done =>
      refine' L2.def_mk KX G ?a ?l ?c ?k ?b
      (case a => k_is); (case l => k_is); (case c => k_is); (case k => k_is)
      (case b => exact fun _ _ _ _ _ _ us hl => match us, hl with | [_, _, _, _, _], _ => rfl)
    case d__law_due =>
      refine' L2.def_mk KX G ?a ?l ?c ?k ?b
      (case a => k_is); (case l => k_is); (case c => k_is); (case k => k_is)
      (case b => exact fun _ _ _ _ _ _ us hl => match us, hl with | [_, _, _, _, _], _ => rfl)
    case d__law_alike =>
      refine' L2.def_mk KX G ?a ?l ?c ?k ?b
      (case a => k_is); (case l => k_is); (case c => k_is); (case k => k_is)
      (case b => exact fun _ _ _ _ _ _ us hl => match us, hl with | [_, _], _ => rfl)
    case d__law_deed =>
      refine' L2.def_mk KX G ?a ?l ?c ?k ?b
      (case a => k_is); (case l => k_is); (case c => k_is); (case k => k_is)
      (case b => exact fun _ _ _ _ _ _ us hl => match us, hl with | [_, _, _, _, _], _ => rfl)
    case d__law_asked =>
      refine' L2.def_mk KX G ?a ?l ?c ?k ?b
      (case a => k_is); (case l => k_is); (case c => k_is); (case k => k_is)
      (case b => exact fun _ _ _ _ _ _ us hl => match us, hl with | [_, _, _, _, _, _], _ => rfl)
    case d__law_looked =>
      refine' L2.def_mk KX G ?a ?l ?c ?k ?b
      (case a => k_is); (case l => k_is); (case c => k_is); (case k => k_is)
      (case b => exact fun _ _ _ _ _ _ us hl => match us, hl with | [_, _, _, _, _], _ => rfl)
    (case lk => k_is)
    (case ll => k_is)
    (case lc => k_is)
    (case lp => k_is)
    (case b_isinstance => k_is)
    (case b_len => k_is)
    (case b_all => k_is)
    (case b_int => k_is)
    (case b_bool => k_is)
    (case b_str => k_is)
    (case b_list => k_is)
    (case b_range => k_is)
    (case b_set => k_is)
    (case b_enumerate => k_is)
    (case b_tuple => k_is)
    (case b_min => k_is)
    (case b_sorted => k_is)
    (case b_ValueError => k_is)
    (case g_LEAST => k_is)
    (case g_MOST => k_is)
    (case x_BadTerm => k_is)
    (case x_Busy => k_is)
    (case x_Gone => k_is)
    (case x_NoAlarm => k_is)
    (case x_BadName => k_is)
    (case x_BadNumber => k_is)
    (case x_BadNeeds => k_is)
    (case x_BadPlan => k_is)
    (case x_Twice => k_is)
    (case x_NoJob => k_is)
    (case x_Ring => k_is)
    (case x_BadLine => k_is)
    (case x_BadBook => k_is)
    (case x_BadShot => k_is)
    (case x_BadEvent => k_is)
    (case x_BadStep => k_is)
    (case x_BadState => k_is)
    (case x_BadTurn => k_is)
    (case x_BadBuilders => k_is)
    (case x_HallError => k_is)
    (case ga0 => first | k_is | kernel_rfl)
    (case gh0 => first | k_is | kernel_rfl)
    (case be0 => first | k_is | kernel_rfl)
    (case hd0 => first | k_is | kernel_rfl)
    (case ha0 => first | k_is | kernel_rfl)
    (case hm0 => first | k_is | kernel_rfl)
    (case kt0_0 => first | kernel_rfl | k_is)
    (case kt0_1 => first | kernel_rfl | k_is)
    (case kt0_2 => first | kernel_rfl | k_is)
    (case kt0_3 => first | kernel_rfl | k_is)
    (case kt0_4 => first | kernel_rfl | k_is)
    (case kt0_5 => first | kernel_rfl | k_is)
    (case kt0_6 => first | kernel_rfl | k_is)
    (case kt0_7 => first | kernel_rfl | k_is)
    (case kt0_8 => first | kernel_rfl | k_is)
    (case kt0_9 => first | kernel_rfl | k_is)
    (case kt0_10 => first | kernel_rfl | k_is)
    (case kt0_11 => first | kernel_rfl | k_is)
    (case kt0_12 => first | kernel_rfl | k_is)
    (case kt0_13 => first | kernel_rfl | k_is)
    (case kt0_14 => first | kernel_rfl | k_is)
    (case kt0_15 => first | kernel_rfl | k_is)
    (case kt0_16 => first | kernel_rfl | k_is)
    (case kt0_17 => first | kernel_rfl | k_is)
    (case kt0_18 => first | kernel_rfl | k_is)
    (case kve0 => first | kernel_rfl | k_is)
    (case exc0 => first | k_is | kernel_rfl)
    (case exm0 => first | k_is | kernel_rfl)
    (case ga1 => first | k_is | kernel_rfl)
    (case gh1 => first | k_is | kernel_rfl)
    (case be1 => first | k_is | kernel_rfl)
    (case hd1 => first | k_is | kernel_rfl)
    (case ha1 => first | k_is | kernel_rfl)
    (case hm1 => first | k_is | kernel_rfl)
    (case kt1_0 => first | kernel_rfl | k_is)
    (case kt1_1 => first | kernel_rfl | k_is)
    (case kt1_2 => first | kernel_rfl | k_is)
    (case kt1_3 => first | kernel_rfl | k_is)
    (case kt1_4 => first | kernel_rfl | k_is)
    (case kt1_5 => first | kernel_rfl | k_is)
    (case kt1_6 => first | kernel_rfl | k_is)
    (case kt1_7 => first | kernel_rfl | k_is)
    (case kt1_8 => first | kernel_rfl | k_is)
    (case kt1_9 => first | kernel_rfl | k_is)
    (case kt1_10 => first | kernel_rfl | k_is)
    (case kt1_11 => first | kernel_rfl | k_is)
    (case kt1_12 => first | kernel_rfl | k_is)
    (case kt1_13 => first | kernel_rfl | k_is)
    (case kt1_14 => first | kernel_rfl | k_is)
    (case kt1_15 => first | kernel_rfl | k_is)
    (case kt1_16 => first | kernel_rfl | k_is)
    (case kt1_17 => first | kernel_rfl | k_is)
    (case kt1_18 => first | kernel_rfl | k_is)
    (case kve1 => first | kernel_rfl | k_is)
    (case exc1 => first | k_is | kernel_rfl)
    (case exm1 => first | k_is | kernel_rfl)
    (case ga2 => first | k_is | kernel_rfl)
    (case gh2 => first | k_is | kernel_rfl)
    (case be2 => first | k_is | kernel_rfl)
    (case hd2 => first | k_is | kernel_rfl)
    (case ha2 => first | k_is | kernel_rfl)
    (case hm2 => first | k_is | kernel_rfl)
    (case kt2_0 => first | kernel_rfl | k_is)
    (case kt2_1 => first | kernel_rfl | k_is)
    (case kt2_2 => first | kernel_rfl | k_is)
    (case kt2_3 => first | kernel_rfl | k_is)
    (case kt2_4 => first | kernel_rfl | k_is)
    (case kt2_5 => first | kernel_rfl | k_is)
    (case kt2_6 => first | kernel_rfl | k_is)
    (case kt2_7 => first | kernel_rfl | k_is)
    (case kt2_8 => first | kernel_rfl | k_is)
    (case kt2_9 => first | kernel_rfl | k_is)
    (case kt2_10 => first | kernel_rfl | k_is)
    (case kt2_11 => first | kernel_rfl | k_is)
    (case kt2_12 => first | kernel_rfl | k_is)
    (case kt2_13 => first | kernel_rfl | k_is)
    (case kt2_14 => first | kernel_rfl | k_is)
    (case kt2_15 => first | kernel_rfl | k_is)
    (case kt2_16 => first | kernel_rfl | k_is)
    (case kt2_17 => first | kernel_rfl | k_is)
    (case kt2_18 => first | kernel_rfl | k_is)
    (case kve2 => first | kernel_rfl | k_is)
    (case exc2 => first | k_is | kernel_rfl)
    (case exm2 => first | k_is | kernel_rfl)
#print axioms PySem.Challenge.cw_buildhall_k09_leases_by_deeds_holds
