import PyProof.Rows.All
import Wide.All
import OpenK.AllK
import Wide.FinOn
import Lean
import PyProof.EqAt
import PyProof.EqKinds
import PyProof.TupleCall
import PyProof.ExcBaseAll.ValueError
import KE.KDictList
import PyProof.WalkInts
import PyProof.SeqI3
import PyProof.Rows.SetFrom
import PyProof.CompUse
import PyProof.ZipIter
import PyProof.ListRange
import PyProof.Rows.SumAny
import PyProof.Rows.SetObj
import PyProof.SetRoads
import KE.KIsAll
import PyProof.AttrMissSeq
import KE.KDictOf
import PyProof.Rows.SortShell
import PyProof.Rows.SortWalk
import PySem.Challenge.RW_buildhall_k12_states_step_by_step
set_option Elab.async false
set_option linter.all false
set_option maxRecDepth 100000
namespace PySem.W.Fast
def tw3361344990194634752 : Unit := ()
def tw3652361249924261920 : Unit := ()
def tw13539170763019194496 : Unit := ()
def tw8946572974377119872 : Unit := ()
def tw2680508588151086272 : Unit := ()
def tw18387172121213210848 : Unit := ()
def tw6540580492779578592 : Unit := ()
def tw112182214338036992 : Unit := ()
def tw6775298416852097280 : Unit := ()
def tw3888498862259543392 : Unit := ()
def tw646138635818963328 : Unit := ()
def tw16998187750766792160 : Unit := ()
def tw1404254248117632480 : Unit := ()
def tw16992881320938418688 : Unit := ()
def tw12687863549069524544 : Unit := ()
def tw195383044096629376 : Unit := ()
def tw16998469278751969920 : Unit := ()
def tw5762722638652079808 : Unit := ()
def tw9937129603612561152 : Unit := ()
def tw18431740771643235168 : Unit := ()
def tw2914288377505041537 : Unit := ()
def tw8074989888380299393 : Unit := ()
def tw1689090926147253473 : Unit := ()
def tw2744272643835759873 : Unit := ()
def tw6196620531503875329 : Unit := ()
def tw6173167183328423265 : Unit := ()
def tw1539142383751565761 : Unit := ()
def tw1088666293493094913 : Unit := ()
def tw6558600810496458241 : Unit := ()
def tw15526534564248910433 : Unit := ()
def tw7924472905110093441 : Unit := ()
def tw1013245161951685313 : Unit := ()
def tw9082170878143467265 : Unit := ()
def tw3919346199706919681 : Unit := ()
def tw6346102990611112737 : Unit := ()
def tw7182377471705774913 : Unit := ()
def tw9924890914787463202 : Unit := ()
def tw16081735331726990370 : Unit := ()
def tw2442224742832693282 : Unit := ()
def tw4541429475153791042 : Unit := ()
def tw9083260465602853954 : Unit := ()
def tw6173866928653087938 : Unit := ()
def tw6306014150537134274 : Unit := ()
def tw4796970749699316930 : Unit := ()
def tw12903487060488726850 : Unit := ()
def tw18156944426688986498 : Unit := ()
def tw13470915398116927874 : Unit := ()
def tw17196412367565491618 : Unit := ()
def tw6367180213633319362 : Unit := ()
def tw1279119646555744770 : Unit := ()
def tw5993255358697369122 : Unit := ()
def tw1639662063269467714 : Unit := ()
def tw5114987282122177122 : Unit := ()
def tw4853808875176579682 : Unit := ()
def tw15520341568901066370 : Unit := ()
def tw12826797483639648898 : Unit := ()
def tw13446274810759545602 : Unit := ()
def tw8967545475609106210 : Unit := ()
def tw8447731492524575586 : Unit := ()
def tw14685808240962345954 : Unit := ()
def tw6180933374789946403 : Unit := ()
def tw10951334338396197987 : Unit := ()
def tw6272835125942297795 : Unit := ()
def tw13342839947726282947 : Unit := ()
def tw13952895480136285443 : Unit := ()
def tw3424399539843396867 : Unit := ()
def tw10189573240159427939 : Unit := ()
def tw17018355188693625219 : Unit := ()
def tw18253728455702411651 : Unit := ()
def tw1132612537300481571 : Unit := ()
def tw12309635700587214435 : Unit := ()
def tw4751314932989915843 : Unit := ()
def tw736168270752741059 : Unit := ()
def tw6670260224169454339 : Unit := ()
def tw10163537372878164739 : Unit := ()
def tw3210201765793646403 : Unit := ()
def tw16711388690609427267 : Unit := ()
def tw4099683630628241283 : Unit := ()
def tw13408994957515914147 : Unit := ()
def tw5640226220893456355 : Unit := ()
def tw7571979492410529828 : Unit := ()
def tw2717145399326738500 : Unit := ()
def tw11763237211791160388 : Unit := ()
def tw14494367038170355844 : Unit := ()
def tw14127931383727658244 : Unit := ()
def tw17523334705321396484 : Unit := ()
def tw1433310204300302628 : Unit := ()
def tw9262305846422675748 : Unit := ()
def tw16652430720963123588 : Unit := ()
def tw11131363208565702052 : Unit := ()
def tw2461131185381197220 : Unit := ()
def tw4573811091529689572 : Unit := ()
def tw6774180223428976292 : Unit := ()
def tw7883436974289646276 : Unit := ()
def tw16168865347256287012 : Unit := ()
def tw12284479416284287812 : Unit := ()
def tw11627941617009009476 : Unit := ()
def tw9876097282101271460 : Unit := ()
def tw1838041691922030500 : Unit := ()
def tw5452555999962194852 : Unit := ()
def tw15373800781856143332 : Unit := ()
def tw7901120785232306181 : Unit := ()
def tw16181463824082266245 : Unit := ()
def tw14265808533165860997 : Unit := ()
def tw16021503832452048165 : Unit := ()
def tw6101706016627670309 : Unit := ()
def tw5547813715212467493 : Unit := ()
def tw17988045178187985253 : Unit := ()
def tw14074583578593014149 : Unit := ()
def tw2660953117615616389 : Unit := ()
def tw16910332436303895973 : Unit := ()
def tw13375374182064465381 : Unit := ()
def tw9042390796849942021 : Unit := ()
def tw14016955631005613573 : Unit := ()
def tw3601825388177885765 : Unit := ()
def tw1997395876651305541 : Unit := ()
def tw8157836824902717125 : Unit := ()
def tw7787781107770810117 : Unit := ()
def tw5244126679221266181 : Unit := ()
def tw2565105900451186469 : Unit := ()
def tw6229720070472835909 : Unit := ()
def tw10270952494880181061 : Unit := ()
def tw11970622425586335589 : Unit := ()
def tw3795712256459317125 : Unit := ()
def tw131645350257224613 : Unit := ()
def tw9603489740353848293 : Unit := ()
def tw2479775145643632646 : Unit := ()
def tw5796989674951798790 : Unit := ()
def tw4898429726767301670 : Unit := ()
def tw8481112529269221414 : Unit := ()
def tw1245393835420410982 : Unit := ()
def tw10296826430614559878 : Unit := ()
def tw12903197910195005574 : Unit := ()
def tw17221174113501726918 : Unit := ()
def tw16718378705170947302 : Unit := ()
def tw13242291266721599814 : Unit := ()
def tw10625338085539577222 : Unit := ()
def tw5803801098814791110 : Unit := ()
def tw16845234106628465094 : Unit := ()
def tw299619133726265862 : Unit := ()
def tw2328197951492388454 : Unit := ()
def tw7717865396648693382 : Unit := ()
def tw126867275652738758 : Unit := ()
def tw13354448714114356966 : Unit := ()
def tw10884828675003942694 : Unit := ()
def tw13742684364670638918 : Unit := ()
def tw208313115748074342 : Unit := ()
def tw16475381631201606502 : Unit := ()
def tw5447575184398568358 : Unit := ()
def tw14919803505040489446 : Unit := ()
def tw1221185985792710759 : Unit := ()
def tw17254448899656869127 : Unit := ()
def tw12391541945861666087 : Unit := ()
def tw4493089441551043911 : Unit := ()
def tw14996095894067305959 : Unit := ()
def tw427615995858187751 : Unit := ()
def tw5166728872709697063 : Unit := ()
def tw13482253756447955495 : Unit := ()
def tw12214624344849734279 : Unit := ()
def tw11773075124798410439 : Unit := ()
def tw15781843292238729959 : Unit := ()
def tw13445852658216623943 : Unit := ()
def tw4385153416111173479 : Unit := ()
def tw1541909243460750215 : Unit := ()
def tw3031878319257426887 : Unit := ()
def tw9198929575925619687 : Unit := ()
def tw3320384446525209672 : Unit := ()
def tw7793811147465000040 : Unit := ()
def tw14189650526238064744 : Unit := ()
def tw7121908067470200968 : Unit := ()
def tw6147379658205401256 : Unit := ()
def tw13094483437898317992 : Unit := ()
def tw8713775843658068136 : Unit := ()
def tw70372046882875624 : Unit := ()
def tw2838634682378777864 : Unit := ()
def tw8411791317979194664 : Unit := ()
def tw9094554349944901928 : Unit := ()
def tw2324336984496719176 : Unit := ()
def tw15419973621726314888 : Unit := ()
def tw13195080125997684168 : Unit := ()
def tw14619914554097120712 : Unit := ()
def tw67070331900875240 : Unit := ()
def tw2513269075975565832 : Unit := ()
def tw12008518866566847016 : Unit := ()
def tw11532538264119360072 : Unit := ()
def tw13061098018614394472 : Unit := ()
def tw5492708002394041960 : Unit := ()
def tw17890261399079884520 : Unit := ()
def tw13874144871172964072 : Unit := ()
def tw6913683553295212328 : Unit := ()
def tw16614078874721162056 : Unit := ()
def tw7021618771205969736 : Unit := ()
def tw144010308344378184 : Unit := ()
def tw1380791450127025096 : Unit := ()
def tw16670915094361298888 : Unit := ()
def tw18282279364040826889 : Unit := ()
def tw8722499519501989929 : Unit := ()
def tw5264090249153571945 : Unit := ()
def tw2724311374781717833 : Unit := ()
def tw12161114033592869321 : Unit := ()
def tw2889199042454424041 : Unit := ()
def tw7973026399879284201 : Unit := ()
def tw3607111494822483465 : Unit := ()
def tw15466644925867020937 : Unit := ()
def tw15347709570501277321 : Unit := ()
def tw9843601784954857129 : Unit := ()
def tw3353789857011993353 : Unit := ()
def tw12378717697433029385 : Unit := ()
def tw8406004124197625673 : Unit := ()
def tw13246846498454217609 : Unit := ()
def tw8228493691891316617 : Unit := ()
def tw5804543436815215593 : Unit := ()
def tw3424079921027238922 : Unit := ()
def tw12311021770855725098 : Unit := ()
def tw1280683232645055562 : Unit := ()
def tw10479569465844632650 : Unit := ()
def tw15769533058370100362 : Unit := ()
def tw4905855045636759690 : Unit := ()
def tw15860128394202658986 : Unit := ()
def tw11222348843369665770 : Unit := ()
def tw14966110927183947050 : Unit := ()
def tw11939981609935907178 : Unit := ()
def tw6980244233031348586 : Unit := ()
def tw14796849698675750250 : Unit := ()
def tw395346485932537386 : Unit := ()
def tw4894828995067326090 : Unit := ()
def tw7878321287421088394 : Unit := ()
def tw12680228435832303242 : Unit := ()
def tw18428956853549441770 : Unit := ()
def tw7259023872132787946 : Unit := ()
def tw15053107560569990890 : Unit := ()
def tw3394005058402332458 : Unit := ()
def tw16121836729380981610 : Unit := ()
def tw14071143703923503978 : Unit := ()
def tw8769994038974032778 : Unit := ()
def tw10420752575872356330 : Unit := ()
def tw18085069553083012074 : Unit := ()
def tw3564744129583767530 : Unit := ()
def tw10076175331443770443 : Unit := ()
def tw3452104409468651595 : Unit := ()
def tw14677846941835593835 : Unit := ()
def tw4195346095159843051 : Unit := ()
def tw1773834822496131339 : Unit := ()
def tw4692036388899078443 : Unit := ()
def tw15146407102981525835 : Unit := ()
def tw5049077737857821035 : Unit := ()
def tw11266559589435857259 : Unit := ()
def tw16044736683019645355 : Unit := ()
def tw5788679044684982763 : Unit := ()
def tw9071065366701140491 : Unit := ()
def tw10845786793706496555 : Unit := ()
def tw8987563282399575595 : Unit := ()
def tw10796100577519999659 : Unit := ()
def tw1779143199147507403 : Unit := ()
def tw2534298940613935851 : Unit := ()
def tw18351790947988024107 : Unit := ()
def tw13906727819042447147 : Unit := ()
def tw10967473194273246059 : Unit := ()
def tw524795980211143595 : Unit := ()
def tw11991259230487226315 : Unit := ()
def tw8974621790270659563 : Unit := ()
def tw6887380418809832427 : Unit := ()
def tw13777991988849293291 : Unit := ()
def tw13217875443952226316 : Unit := ()
def tw2156039258476884012 : Unit := ()
def tw5304430624857913388 : Unit := ()
def tw13712796451882420300 : Unit := ()
def tw7198288499030511724 : Unit := ()
def tw178241662517108940 : Unit := ()
def tw15925957351353877740 : Unit := ()
def tw380697497488855276 : Unit := ()
def tw13866999975862486412 : Unit := ()
def tw16103626621054457260 : Unit := ()
def tw6015699389016531404 : Unit := ()
def tw5145479251679257068 : Unit := ()
def tw9094247363960652364 : Unit := ()
def tw4881442540665110188 : Unit := ()
def tw5671961717552339724 : Unit := ()
def tw10102416408503187276 : Unit := ()
def tw3153247243972661100 : Unit := ()
def tw11931056661263054700 : Unit := ()
def tw13276726209754521484 : Unit := ()
def tw9806776281960114060 : Unit := ()
def tw10314710517822448556 : Unit := ()
def tw6343579581451983852 : Unit := ()
def tw3348357038496461837 : Unit := ()
def tw2243806431394382861 : Unit := ()
def tw12742065412787060845 : Unit := ()
def tw1079897550889773229 : Unit := ()
def tw15978758082752061613 : Unit := ()
def tw3425117710764083405 : Unit := ()
def tw9443788404272747789 : Unit := ()
def tw17873399590680122637 : Unit := ()
def tw13190062908190272877 : Unit := ()
def tw17036290585485724109 : Unit := ()
def tw4656098493917367853 : Unit := ()
def tw14412534492572074605 : Unit := ()
def tw8724513586275742317 : Unit := ()
def tw11540409087884623501 : Unit := ()
def tw2629491203553291949 : Unit := ()
def tw9460107211488005901 : Unit := ()
def tw17467873137780166509 : Unit := ()
def tw888372432216440685 : Unit := ()
def tw5138899651613103021 : Unit := ()
def tw14401857689112875054 : Unit := ()
def tw16102930144917396590 : Unit := ()
def tw2707101785227472046 : Unit := ()
def tw15763388855249616078 : Unit := ()
def tw6904597162748313838 : Unit := ()
def tw1215676031240822094 : Unit := ()
def tw1564354945160208782 : Unit := ()
def tw26231296674317806 : Unit := ()
def tw9840183586879350286 : Unit := ()
def tw12247024869890077230 : Unit := ()
def tw12777736479797557806 : Unit := ()
def tw1555602229722989102 : Unit := ()
def tw11731929599557408334 : Unit := ()
def tw11165537195835588206 : Unit := ()
def tw16194706203285638926 : Unit := ()
def tw13918983304876196622 : Unit := ()
def tw13923695327298773806 : Unit := ()
def tw14410632073293706062 : Unit := ()
def tw12495678796360439630 : Unit := ()
def tw3485108166643087214 : Unit := ()
def tw13627370515133665230 : Unit := ()
def tw5459058040012482542 : Unit := ()
def tw7828241153720738798 : Unit := ()
def tw10511783766186055727 : Unit := ()
def tw10551405857532422223 : Unit := ()
def tw9531848997273814095 : Unit := ()
def tw15505564060791873679 : Unit := ()
def tw5233409774684610767 : Unit := ()
def tw16100248585227365615 : Unit := ()
def tw10448995352297410831 : Unit := ()
def tw2226798160738641263 : Unit := ()
def tw7193005266846971247 : Unit := ()
def tw14787795227729236431 : Unit := ()
def tw2716122478045378031 : Unit := ()
def tw5391065924447568399 : Unit := ()
def tw14438845316493575695 : Unit := ()
def tw7720014130597278223 : Unit := ()
def tw5721548891032209967 : Unit := ()
def tw15029722127520746063 : Unit := ()
def tw4969190718117856879 : Unit := ()
def tw5120062011041609359 : Unit := ()
def tw913511464672684719 : Unit := ()
def tw12842929173127491375 : Unit := ()
def tw396881060150040399 : Unit := ()
def tw15017550006196410255 : Unit := ()
def tw13202222407387456463 : Unit := ()
def tw4755189542810560495 : Unit := ()
def tw5545731247167522864 : Unit := ()
def tw17753274150963329232 : Unit := ()
def tw4058687109854125296 : Unit := ()
def tw6353108322498300176 : Unit := ()
def tw8412252336130001200 : Unit := ()
def tw18344882280328451504 : Unit := ()
def tw17137495658202570224 : Unit := ()
def tw14665254066437902832 : Unit := ()
def tw12729251919299616272 : Unit := ()
def tw10978168027347132976 : Unit := ()
def tw2521544596542528080 : Unit := ()
def tw17240438092295098960 : Unit := ()
def tw5898861949986972400 : Unit := ()
def tw15433208411755398928 : Unit := ()
def tw10215587655013998384 : Unit := ()
def tw3483464568804358960 : Unit := ()
def tw3936574077982587728 : Unit := ()
def tw5008533533164339024 : Unit := ()
def tw15440984767005788144 : Unit := ()
def tw4670802838421830673 : Unit := ()
def tw16966552474817508433 : Unit := ()
def tw5137332549831100625 : Unit := ()
def tw2613935674716113137 : Unit := ()
def tw17072373906269564209 : Unit := ()
def tw2061204224746160625 : Unit := ()
def tw16005907682486797809 : Unit := ()
def tw7728172891625082353 : Unit := ()
def tw8788905686063154705 : Unit := ()
def tw14767790180898136593 : Unit := ()
def tw3321692065619488337 : Unit := ()
def tw7045019200181414513 : Unit := ()
def tw9442215232778413745 : Unit := ()
def tw15484369442495179473 : Unit := ()
def tw1006962549081967345 : Unit := ()
def tw3024110728910607153 : Unit := ()
def tw15036348033440438065 : Unit := ()
def tw5143756956730449777 : Unit := ()
def tw8077526831892882289 : Unit := ()
def tw14310284219400908657 : Unit := ()
def tw6481049835455550385 : Unit := ()
def tw18408394102722696145 : Unit := ()
def tw17532732202128498641 : Unit := ()
def tw2608670790816370673 : Unit := ()
def tw499765856044363761 : Unit := ()
def tw1770597342031703090 : Unit := ()
def tw5139904112585873586 : Unit := ()
def tw6904642672904075474 : Unit := ()
def tw5319850573774718194 : Unit := ()
def tw13054817015560097010 : Unit := ()
def tw554955156657822994 : Unit := ()
def tw9598437673170824466 : Unit := ()
def tw2153307698562503090 : Unit := ()
def tw15184480766966122962 : Unit := ()
def tw10733594851504059858 : Unit := ()
def tw12536888490996329266 : Unit := ()
def tw15181673232692056018 : Unit := ()
def tw6299756943752178642 : Unit := ()
def tw9236393233658606611 : Unit := ()
def tw8753864970359499827 : Unit := ()
def tw5460447506832550963 : Unit := ()
def tw12286332891216862291 : Unit := ()
def tw1821675163815686259 : Unit := ()
def tw7630027191615713555 : Unit := ()
def tw13438012310013718963 : Unit := ()
def tw8852993985007541747 : Unit := ()
def tw15407469545627000339 : Unit := ()
def tw11629157633555881523 : Unit := ()
def tw8324928403911031379 : Unit := ()
def tw6355797359429792499 : Unit := ()
def tw6283726561887138643 : Unit := ()
def tw3414004594566293363 : Unit := ()
def tw14861254479140191091 : Unit := ()
def tw3005180444533716947 : Unit := ()
def tw7121714815996963892 : Unit := ()
def tw16722571747373170836 : Unit := ()
def tw8869201728036641972 : Unit := ()
def tw821097000125397204 : Unit := ()
def tw5489860609029476596 : Unit := ()
def tw11566116590497573172 : Unit := ()
def tw16114549543505058132 : Unit := ()
def tw448163613882845556 : Unit := ()
def tw2609418304106667380 : Unit := ()
def tw8675092656546749876 : Unit := ()
def tw15557406982415005236 : Unit := ()
def tw15901563948140579412 : Unit := ()
def tw16953940818861380180 : Unit := ()
def tw55499212119731828 : Unit := ()
def tw16069008985933687508 : Unit := ()
def tw8666229982821407476 : Unit := ()
def tw203854421071526644 : Unit := ()
def tw8124531686539856660 : Unit := ()
def tw14454372413511787316 : Unit := ()
def tw14392995631541810004 : Unit := ()
def tw13103115681115805588 : Unit := ()
def tw6056474217847504852 : Unit := ()
def tw438427432741384180 : Unit := ()
def tw7069105479703385109 : Unit := ()
def tw15122247383369009173 : Unit := ()
def tw14940234552592969781 : Unit := ()
def tw4600523478146101333 : Unit := ()
def tw17948578231464235125 : Unit := ()
def tw13086248968262688885 : Unit := ()
def tw15044338037619122325 : Unit := ()
def tw1822893449261890773 : Unit := ()
def tw11489201151869772021 : Unit := ()
def tw12716360050133047573 : Unit := ()
def tw12235989295731739957 : Unit := ()
def tw639997588491084085 : Unit := ()
def tw17126455558521235797 : Unit := ()
def tw16991970244654911861 : Unit := ()
def tw633061597155359189 : Unit := ()
def tw3173713212650823253 : Unit := ()
def tw7587211030016404053 : Unit := ()
def tw14652636590112609909 : Unit := ()
def tw9151744621919534741 : Unit := ()
def tw17224797235120211669 : Unit := ()
def tw5509675207394591477 : Unit := ()
def tw15484573047674642165 : Unit := ()
def tw5968694974759493557 : Unit := ()
def tw14631716604032870357 : Unit := ()
def tw16121288080611835926 : Unit := ()
def tw9232807240705577046 : Unit := ()
def tw801033856233167990 : Unit := ()
def tw2738946281082090678 : Unit := ()
def tw10453770009770702038 : Unit := ()
def tw10320600244241286358 : Unit := ()
def tw17289738543634644246 : Unit := ()
def tw16988682590527496534 : Unit := ()
def tw14955764166654900630 : Unit := ()
def tw9370144406215692726 : Unit := ()
def tw14297490192765011414 : Unit := ()
def tw3648579621761700310 : Unit := ()
def tw2791183694395210326 : Unit := ()
def tw6433057501778226806 : Unit := ()
def tw17619562932207660662 : Unit := ()
def tw999123227869514422 : Unit := ()
def tw16669117011597531862 : Unit := ()
def tw10279696378330984214 : Unit := ()
def tw15966292009383313206 : Unit := ()
def tw3970171465150782262 : Unit := ()
def tw13545425565301444534 : Unit := ()
def tw4706237291283242934 : Unit := ()
def tw2909447159660966838 : Unit := ()
def tw7779819798383496150 : Unit := ()
def tw14433761157211939830 : Unit := ()
def tw6074190876796773399 : Unit := ()
def tw7854205593189743703 : Unit := ()
def tw9353827283628468439 : Unit := ()
def tw7738403904428033335 : Unit := ()
def tw16310048002158136727 : Unit := ()
def tw10661947150632608375 : Unit := ()
def tw9424120891834992311 : Unit := ()
def tw8338252350348809911 : Unit := ()
def tw4133679443976316631 : Unit := ()
def tw11707147844633744119 : Unit := ()
def tw10944895257172470583 : Unit := ()
def tw6232940160302618487 : Unit := ()
def tw15140265186362371991 : Unit := ()
def tw17216769630179606423 : Unit := ()
def tw14745575558369969079 : Unit := ()
def tw12657778291452783607 : Unit := ()
def tw16631931750782611480 : Unit := ()
def tw18418267831805143096 : Unit := ()
def tw10029592177817489560 : Unit := ()
def tw18409946396608683288 : Unit := ()
def tw15718172284394735928 : Unit := ()
def tw6641846148299450712 : Unit := ()
def tw6344491886552531320 : Unit := ()
def tw17101813211224525176 : Unit := ()
def tw1209112335359845784 : Unit := ()
def tw8047483871005258136 : Unit := ()
def tw6320301321445034392 : Unit := ()
def tw17536547846073669016 : Unit := ()
def tw12592251739161104888 : Unit := ()
def tw9068003913398689272 : Unit := ()
def tw16506390871272246776 : Unit := ()
def tw16999061341484284408 : Unit := ()
def tw1051351860624430616 : Unit := ()
def tw8075645690713211480 : Unit := ()
def tw11963533188067075672 : Unit := ()
def tw15738754431877992056 : Unit := ()
def tw12578077163242819256 : Unit := ()
def tw7981617948656864952 : Unit := ()
def tw9055996721594143416 : Unit := ()
def tw5333074579695223512 : Unit := ()
def tw12542891775290285816 : Unit := ()
def tw12119032378432451320 : Unit := ()
def tw3003229729023742968 : Unit := ()
def tw12812452683240105017 : Unit := ()
def tw9738922548266952825 : Unit := ()
def tw1522204075306818713 : Unit := ()
def tw10546835366188623033 : Unit := ()
def tw616293544585891033 : Unit := ()
def tw4259527318758569209 : Unit := ()
def tw14887147639192914201 : Unit := ()
def tw8050710185588908313 : Unit := ()
def tw6468366004970682713 : Unit := ()
def tw10615797414038943129 : Unit := ()
def tw7337749990837599641 : Unit := ()
def tw8346308670078937657 : Unit := ()
def tw4514046443947144793 : Unit := ()
def tw11918308248679179865 : Unit := ()
def tw7377724452884084377 : Unit := ()
def tw13796782303566799737 : Unit := ()
def tw2036378834922243033 : Unit := ()
def tw13008601552098798553 : Unit := ()
def tw7718538362506136537 : Unit := ()
def tw5315459419868856313 : Unit := ()
def tw11803166251194374266 : Unit := ()
def tw1479585713269245114 : Unit := ()
def tw11075219306482758842 : Unit := ()
def tw9362198858346385626 : Unit := ()
def tw17792109004463976698 : Unit := ()
def tw14677653522349080826 : Unit := ()
def tw3013443347359066 : Unit := ()
def tw9694795652250907002 : Unit := ()
def tw9849114073105057210 : Unit := ()
def tw13308229620569690554 : Unit := ()
def tw13546064229195992570 : Unit := ()
def tw9937782996981754362 : Unit := ()
def tw10020816529687831066 : Unit := ()
def tw5892836405651813946 : Unit := ()
def tw16025858328162480730 : Unit := ()
def tw9371023596321217210 : Unit := ()
def tw4122567206476742522 : Unit := ()
def tw17200669696885283770 : Unit := ()
def tw1573723366705356730 : Unit := ()
def tw4911930684398345178 : Unit := ()
def tw10473966391904381914 : Unit := ()
def tw4750703246103572442 : Unit := ()
def tw7532585847665667066 : Unit := ()
def tw12784074493300029434 : Unit := ()
def tw1992620143592685562 : Unit := ()
def tw17381867017996624955 : Unit := ()
def tw8281115743138840763 : Unit := ()
def tw4394016701401822427 : Unit := ()
def tw1350674101579737339 : Unit := ()
def tw6107327350129846555 : Unit := ()
def tw1210725846464932155 : Unit := ()
def tw1605495998426762555 : Unit := ()
def tw714044778299131227 : Unit := ()
def tw16077298056112791899 : Unit := ()
def tw5919887525337452923 : Unit := ()
def tw6161186328648593819 : Unit := ()
def tw11198684459307527579 : Unit := ()
def tw17040596865221146075 : Unit := ()
def tw6810641826226723387 : Unit := ()
def tw8046988697849074267 : Unit := ()
def tw15565383693475385947 : Unit := ()
def tw15518591162842005115 : Unit := ()
def tw14612851987702016763 : Unit := ()
def tw7772443993016424219 : Unit := ()
def tw3962983091255535387 : Unit := ()
def tw62844541743486811 : Unit := ()
def tw8790480201253649243 : Unit := ()
def tw5256374353380083579 : Unit := ()
def tw8405221602529832891 : Unit := ()
def tw12892848732490037276 : Unit := ()
def tw2610825747365954620 : Unit := ()
def tw5074485454486045756 : Unit := ()
def tw17328916725170807868 : Unit := ()
def tw16047102038579568700 : Unit := ()
def tw404888165059375196 : Unit := ()
def tw16584716937293079708 : Unit := ()
def tw4221496881115091132 : Unit := ()
def tw13334928468110337244 : Unit := ()
def tw16297779607856693500 : Unit := ()
def tw11448720426537756988 : Unit := ()
def tw18282649493777242428 : Unit := ()
def tw4228744310887648668 : Unit := ()
def tw15289318948291172764 : Unit := ()
def tw10596489684808853948 : Unit := ()
def tw8815680426118523388 : Unit := ()
def tw5875870513586932252 : Unit := ()
def tw8898934911400316444 : Unit := ()
def tw13106757520166202940 : Unit := ()
def tw8078945397785310780 : Unit := ()
def tw6040582439481725596 : Unit := ()
def tw17554253649049110236 : Unit := ()
def tw12918367241219872508 : Unit := ()
def tw12534098172026036988 : Unit := ()
def tw6121932946897186620 : Unit := ()
def tw13597342566276693884 : Unit := ()
def tw1542547392325320765 : Unit := ()
def tw13993929785652341821 : Unit := ()
def tw1172401552844726365 : Unit := ()
def tw4183395112444643421 : Unit := ()
def tw12962144291012471005 : Unit := ()
def tw3409104645205294301 : Unit := ()
def tw168574803123961053 : Unit := ()
def tw6392143063197194493 : Unit := ()
def tw14933961006366993757 : Unit := ()
def tw7554570117303842141 : Unit := ()
def tw4420056129006723421 : Unit := ()
def tw4572757333079114205 : Unit := ()
def tw11545804214588439037 : Unit := ()
def tw5114531568674216509 : Unit := ()
def tw1347364855772269149 : Unit := ()
def tw9276439315120205469 : Unit := ()
def tw17365961332327339709 : Unit := ()
def tw4258670119331165885 : Unit := ()
def tw12875086866443994845 : Unit := ()
def tw10163455535919429373 : Unit := ()
def tw3708107913278769949 : Unit := ()
def tw9648170768237322013 : Unit := ()
def tw15731538946255159069 : Unit := ()
def tw18146828134465678205 : Unit := ()
def tw12715192835455300509 : Unit := ()
def tw14619888610410759101 : Unit := ()
def tw10281065077651274685 : Unit := ()
def tw11272461895176834013 : Unit := ()
def tw9299756780450592765 : Unit := ()
def tw533730221043464189 : Unit := ()
def tw14379463734716088317 : Unit := ()
def tw11157889696547230717 : Unit := ()
def tw17775410006974975006 : Unit := ()
def tw15617015924169302078 : Unit := ()
def tw3200519719887849566 : Unit := ()
def tw9066279941424322718 : Unit := ()
def tw1517716044411811038 : Unit := ()
def tw18124031807039628510 : Unit := ()
def tw4125890688941132158 : Unit := ()
def tw9560229031003395454 : Unit := ()
def tw18008061707169469854 : Unit := ()
def tw12309601026633032158 : Unit := ()
def tw7578233437135767198 : Unit := ()
def tw6181766804939985566 : Unit := ()
def tw2462460792403190526 : Unit := ()
def tw4962748215384775582 : Unit := ()
def tw13851711450742945726 : Unit := ()
def tw15652860834976190559 : Unit := ()
def tw17591035604522495263 : Unit := ()
def tw7190326809150447967 : Unit := ()
def tw4235232133625949567 : Unit := ()
def tw12927883349599181183 : Unit := ()
def tw16362345753452217759 : Unit := ()
def tw5822678059966713311 : Unit := ()
def tw18149960235060586047 : Unit := ()
def tw2701869293350342367 : Unit := ()
def tw12752817877902217951 : Unit := ()
def tw13067909450856718047 : Unit := ()
def tw12438588259409893119 : Unit := ()
def tw17350959094815650655 : Unit := ()
def tw2533779140467392383 : Unit := ()
def tw2076662429635278783 : Unit := ()
def tw18168037377336057855 : Unit := ()
def tw11295874218567726079 : Unit := ()
end PySem.W.Fast
set_option Elab.async false
set_option linter.all false
set_option maxRecDepth 100000
/-! THE HAND LAYER, for ints, bools, texts, own classes, LISTS and tuples (index, slices, in, append, pop ..), calls, loops. Paste it whole ahead of your own text; what your proof does not reach may be deleted. -/
namespace L2
open PySem PySem.Spec PyProof.Rows

/-- a key: an int or a str -/
abbrev Key := Sum Int Str
def keyIs : Key → Value → Bool
  | .inl k, v => Value.isInt k v
  | .inr x, v => Value.isStrOf x v
def keyH (w : World) : Key → Int
  | .inl k => hashInt k
  | .inr x => hashStr w x
theorem keyIs_shape : ∀ {k : Key} {v : Value}, keyIs k v = true → (∃ i t, k = Sum.inl i ∧ v = Value.int i t) ∨ (∃ x t, k = Sum.inr x ∧ v = Value.str x t)
  | .inl i, v, h => by
    obtain ⟨t, e⟩ := Value.isInt_shape (k := i) (v := v) h
    exact .inl ⟨i, t, rfl, e⟩
  | .inr x, v, h => by
    obtain ⟨t, e⟩ := Value.isStrOf_shape (x := x) (v := v) h
    exact .inr ⟨x, t, rfl, e⟩
theorem keyIs_int (i : Int) (t : Tok) : keyIs (.inl i) (.int i t) = true := by simp [keyIs, Value.isInt]
theorem keyIs_str (x : Str) (t : Tok) : keyIs (.inr x) (.str x t) = true := by simp [keyIs, Value.isStrOf]
theorem key_ll (a b : Int) : decide ((Sum.inl a : Key) = Sum.inl b) = (a == b) := by
  by_cases e : a = b
  · subst e; simp
  · have h : ¬ (Sum.inl a : Key) = Sum.inl b := fun q => e (Sum.inl.inj q)
    rw [decide_eq_false h]
    exact (beq_eq_false_iff_ne.mpr e).symm
theorem key_rr (a b : Str) : decide ((Sum.inr a : Key) = Sum.inr b) = decide (a = b) := by
  by_cases e : a = b
  · subst e; simp
  · have h : ¬ (Sum.inr a : Key) = Sum.inr b := fun q => e (Sum.inr.inj q)
    rw [decide_eq_false h, decide_eq_false e]
theorem key_lr (a : Int) (b : Str) : decide ((Sum.inl a : Key) = Sum.inr b) = false := decide_eq_false (fun q => nomatch q)
theorem key_rl (a : Str) (b : Int) : decide ((Sum.inr a : Key) = Sum.inl b) = false := decide_eq_false (fun q => nomatch q)

def mixKind (prog : Program) (w : World) : PySem.KeyKind prog w Key where
  is := keyIs
  hash := keyH w
  inj := fun v a b ha hb => by
    rcases keyIs_shape ha with ⟨i, t, rfl, rfl⟩ | ⟨x, t, rfl, rfl⟩
    · rcases keyIs_shape hb with ⟨j, u, rfl, e⟩ | ⟨y, u, rfl, e⟩
      · injection e with e1 _; rw [e1]
      · exact nomatch e
    · rcases keyIs_shape hb with ⟨j, u, rfl, e⟩ | ⟨y, u, rfl, e⟩
      · exact nomatch e
      · injection e with e1 _; rw [e1]
  byValue := fun k v h => by
    rcases keyIs_shape h with ⟨i, t, rfl, rfl⟩ | ⟨x, t, rfl, rfl⟩ <;> rfl
  pyHash := fun hv h => by
    rcases keyIs_shape hv with ⟨i, t, rfl, rfl⟩ | ⟨x, t, rfl, rfl⟩
    · exact wpAny_pyHash_int h
    · exact wpAny_pyHash_str h
  eqBool := fun hu hv h => by
    rcases keyIs_shape hu with ⟨i, t, rfl, rfl⟩ | ⟨x, t, rfl, rfl⟩
    · rcases keyIs_shape hv with ⟨j, u, rfl, rfl⟩ | ⟨y, u, rfl, rfl⟩
      · rw [key_ll] at h; exact wpAny_eqBool_int h
      · rw [key_lr] at h; exact SeqAt.EqAt.int_str i t y u _ _ _ _ h
    · rcases keyIs_shape hv with ⟨j, u, rfl, rfl⟩ | ⟨y, u, rfl, rfl⟩
      · rw [key_rl] at h; exact SeqAt.EqAt.str_int x t j u _ _ _ _ h
      · rw [key_rr] at h; exact wpAny_eqBool_str h
  «strs» := fun k x t v h => by
    rcases keyIs_shape h with ⟨i, u, rfl, e⟩ | ⟨y, u, rfl, e⟩
    · exact nomatch e
    · injection e with e1 _
      subst e1
      cases v <;> rfl

theorem mixKind_int (prog : Program) (w : World) (i : Int) (t : Tok) : (mixKind prog w).is (.inl i) (.int i t) = true := keyIs_int i t
theorem mixKind_str (prog : Program) (w : World) (x : Str) (t : Tok) : (mixKind prog w).is (.inr x) (.str x t) = true := keyIs_str x t
end L2

namespace L2
open PySem PySem.Spec PyProof.Rows

/-- a value, without the heap -/
inductive V where
  | non | bl (b : Bool) | int (i : Int) | str (x : Str) | byt (b : Array UInt8) | flt (b : UInt64) | ref (a : Addr) | ty (n : String)
  deriving DecidableEq

def RelV : V → Value → Prop
  | .non, u => u = Value.none
  | .bl b, u => u = Value.bool b
  | .int i, u => ∃ t, u = Value.int i t
  | .str x, u => ∃ t, u = Value.str x t
  | .byt b, u => ∃ t, u = Value.bytes b t
  | .flt b, u => ∃ t, u = Value.float b t
  | .ref a, u => u = Value.ref a
  | .ty n, u => u = Value.type n

abbrev Vals : List V → List Value → Prop := Paired RelV
theorem Vals.length {xs : List V} {us : List Value} (r : Vals xs us) : xs.length = us.length := Paired.length r
theorem Vals.get : ∀ {xs : List V} {us : List Value} {i : Nat} {x : V}, Vals xs us → xs[i]? = some x → ∃ u, us[i]? = some u ∧ RelV x u
  | _, _, _, _, .nil, e => by simp at e
  | _, _, 0, _, .cons r _, e => by simp at e; subst e; exact ⟨_, rfl, r⟩
  | _, _, i + 1, x, .cons _ t, e => by
    obtain ⟨u, h1, h2⟩ := Vals.get (i := i) (x := x) t (by simpa using e)
    exact ⟨u, by simpa using h1, h2⟩
theorem Vals.append : ∀ {xs ys : List V} {us ws : List Value}, Vals xs us → Vals ys ws → Vals (xs ++ ys) (us ++ ws)
  | _, _, _, _, .nil, s => s
  | _, _, _, _, .cons r t, s => .cons r (Vals.append t s)
theorem Vals.take : ∀ {xs : List V} {us : List Value} (n : Nat), Vals xs us → Vals (xs.take n) (us.take n)
  | _, _, 0, _ => .nil
  | _, _, _ + 1, .nil => .nil
  | _, _, n + 1, .cons r t => .cons r (Vals.take n t)
theorem Vals.drop : ∀ {xs : List V} {us : List Value} (n : Nat), Vals xs us → Vals (xs.drop n) (us.drop n)
  | _, _, 0, r => r
  | _, _, _ + 1, .nil => .nil
  | _, _, n + 1, .cons _ t => Vals.drop n t

def RelO : Option V → Option Value → Prop
  | some v, some u => RelV v u
  | none, none => True
  | _, _ => False
def KV {κ : Type} : List (κ × V) → List (κ × Value) → Prop := Paired fun (p : κ × V) (q : κ × Value) => p.1 = q.1 ∧ RelV p.2 q.2

/-- a key of a dict (00_mix): an int or a text -/
def kV : Key → V
  | .inl i => .int i
  | .inr x => .str x

/-- what stands at a tracked address -/
inductive HO where
  /-- a list -/
  | lst (xs : List V)
  /-- a tuple (never changes) -/
  | tup (xs : List V)
  /-- a dict whose keys are ints and texts; one whose keys are tuples of ints and texts (the empty one is both) -/
  | dK (kvs : List (Key × V)) | dT (kvs : List (List Key × V))
  /-- a set of ints: its members, its size -/
  | set (S : Int → Bool) (n : Nat)
  /-- an instance of the class at C, its dict at dx, its attributes -/
  | ins (C dx : Addr) (fs : List (Str × V))
  /-- the dict of the instance at x -/
  | own (x : Addr)
  /-- the dict of an exception -/
  | xd (fs : List (Str × V))
  /-- a bound method, f of x -/
  | met (f x : Addr)
  /-- a range object lo, lo + 1, .. below hi -/
  | rng (lo hi : Int)
  /-- a thing that is known to the object (the script; a dict while a loop walks it): read, never written while it is so -/
  | frz (o : Obj) (u : HO)
  /-- a code object's table -/
  | tbl (ps : Array Value)
  /-- any other thing, by what is true of its one object (a def of one's own: SetO a S n := HO.ext fun h => ..) -/
  | ext (φ : Heap → Prop)

abbrev Hp := Addr → Option HO
def upd (H : Hp) (a : Addr) (o : HO) : Hp := fun b => if b = a then some o else H b
theorem upd_same {H : Hp} {a : Addr} {o : HO} : upd H a o a = some o := by unfold upd; rw [if_pos rfl]
theorem upd_ne {H : Hp} {a b : Addr} {o : HO} (h : b ≠ a) : upd H a o b = H b := by unfold upd; rw [if_neg h]
theorem ne_of_none {H : Hp} {a b : Addr} {o : HO} (h : H a = some o) (h' : H b = none) : a ≠ b := by
  intro e; subst e; rw [h] at h'; cases h'

section
variable (P : Program) (w : World)
def ObjOk (H : Hp) (h : Heap) (a : Addr) : HO → Prop
  | .lst xs => xs.length ≤ sizeLine ∧ ∃ (its : List Value) (n : Nat), Vals xs its ∧ h.get? a = some { cls := .type "list", data := .seq its.toArray n }
  | .tup xs => xs.length ≤ sizeLine ∧ ∃ its : List Value, Vals xs its ∧ IsTup h a its.toArray
  | .dK kvs => kvs.length ≤ sizeLine ∧ (a == sysModules) = false ∧ ∃ vs, KV kvs vs ∧ h.DictOf (mixKind P w) a vs
  | .dT kvs => kvs.length ≤ sizeLine ∧ (a == sysModules) = false ∧ ∃ xs : List (List Key × Addr × Value),
      Paired (fun (p : List Key × V) (q : List Key × Addr × Value) => p.1 = q.1 ∧ H q.2.1 = some (.tup (p.1.map kV)) ∧ RelV p.2 q.2.2) kvs xs ∧
      ∃ o es ep, h.get? a = some o ∧ o.ExactDict ∧ o.data = .dict es ep ∧ es.toList = xs.map (entryOfKey (tupleKind (mixKind P w))) ∧ (xs.map (·.1)).Nodup
  | .set S n => h.SetOf (intKind P w) a S n
  | .ins C dx fs => H dx = some (.own a) ∧ fs.length ≤ 1000 ∧ dx ≠ a ∧ h.get? a = some (PySem.W.instObj C dx) ∧
      ∃ mA, h.Ns1 dx mA ∧ (∀ f, RelO (fs.lookup f) (mA f)) ∧ PySem.Within mA (fs.map (·.1))
  | .own _ => ∃ o, h.get? a = some o
  | .xd fs => ∃ mA, h.Ns1 a mA ∧ ∀ f, RelO (fs.lookup f) (mA f)
  | .rng lo hi => ∃ t u v, h.get? a = some { cls := .type "range", data := .fields #[.int lo t, .int hi u, .int 1 v] }
  | .frz o u => h.get? a = some o ∧ ObjOk H h a u
  | .tbl ps => h.get? a = some { cls := .none, data := .fields ps }
  | .met f x => h.get? a = some (PySem.W.methodObj (.ref f) (.ref x))
  | .ext φ => φ h ∧ (∃ o, h.get? a = some o) ∧ ∀ h1 h2 : Heap, φ h1 → (∀ o, h1.get? a = some o → h2.get? a = some o) → φ h2
/-- the abstract heap is held -/
def HOk (H : Hp) (h : Heap) : Prop := ∀ a o, H a = some o → ObjOk P w H h a o
end

section
variable {P : Program} {w : World} {H H' : Hp} {h h' : Heap} {a : Addr} {o : HO}
theorem ObjOk.lt (x : ObjOk P w H h a o) : a < h.objs.size := by
  cases o with
  | lst xs => obtain ⟨_, _, _, _, e⟩ := x; exact Heap.lt_size e
  | tup xs => obtain ⟨_, _, _, p⟩ := x; exact p.lt
  | dK kvs => obtain ⟨_, _, _, _, o, _, _, e, _⟩ := x; exact Heap.lt_size e
  | dT kvs => obtain ⟨_, _, _, _, o, _, _, e, _⟩ := x; exact Heap.lt_size e
  | set S n => obtain ⟨o, _, _, _, e, _⟩ := x; exact Heap.lt_size e
  | ins C dx fs => obtain ⟨_, _, _, e, _⟩ := x; exact Heap.lt_size e
  | own y => obtain ⟨_, e⟩ := x; exact Heap.lt_size e
  | xd fs => obtain ⟨_, ⟨_, _, _, e, _⟩, _⟩ := x; exact Heap.lt_size e
  | rng lo hi => obtain ⟨_, _, _, e⟩ := x; exact Heap.lt_size e
  | frz ob u => obtain ⟨e, _⟩ := x; exact Heap.lt_size e
  | tbl ps => exact Heap.lt_size (show h.get? a = some _ from x)
  | met f y => exact Heap.lt_size (show h.get? a = some _ from x)
  | ext φ => obtain ⟨_, ⟨_, e⟩, _⟩ := x; exact Heap.lt_size e
theorem Paired.mapP {α β : Type} {F G : α → β → Prop} : ∀ {l₁ : List α} {l₂ : List β}, Paired F l₁ l₂ → (∀ a b, F a b → G a b) → Paired G l₁ l₂
  | _, _, .nil, _ => .nil
  | _, _, .cons r t, f => .cons (f _ _ r) (Paired.mapP t f)
/-- what an object's description leans on: its own object, its own dict, the tuples -/
theorem ObjOk.stay (x : ObjOk P w H h a o) (k : ∀ b u, (b = a ∨ H b = some (.own a)) → h.get? b = some u → h'.get? b = some u)
    (ho : ∀ b, H b = some (.own a) → H' b = some (.own a)) (ht : ∀ b xs, H b = some (.tup xs) → H' b = some (.tup xs)) : ObjOk P w H' h' a o := by
  induction o with
  | lst xs => obtain ⟨z, its, n, r, e⟩ := x; exact ⟨z, its, n, r, k _ _ (.inl rfl) e⟩
  | tup xs => obtain ⟨z, its, r, ob, e, c⟩ := x; exact ⟨z, its, r, ob, k _ _ (.inl rfl) e, c⟩
  | dK kvs => obtain ⟨z, y, vs, r, ob, es, ep, e, c⟩ := x; exact ⟨z, y, vs, r, ob, es, ep, k _ _ (.inl rfl) e, c⟩
  | dT kvs =>
    obtain ⟨z, y, xs, r, ob, es, ep, e, c⟩ := x
    exact ⟨z, y, xs, Paired.mapP r fun p q z => ⟨z.1, ht _ _ z.2.1, z.2.2⟩, ob, es, ep, k _ _ (.inl rfl) e, c⟩
  | set S n => obtain ⟨ob, es, ep, t, e, c⟩ := x; exact ⟨ob, es, ep, t, k _ _ (.inl rfl) e, c⟩
  | ins C dx fs =>
    obtain ⟨d, z, ne, e, mA, ⟨od, es, ep, e2, c⟩, r⟩ := x
    exact ⟨ho _ d, z, ne, k _ _ (.inl rfl) e, mA, ⟨od, es, ep, k _ _ (.inr d) e2, c⟩, r⟩
  | own y => obtain ⟨ob, e⟩ := x; exact ⟨ob, k _ _ (.inl rfl) e⟩
  | xd fs => obtain ⟨mA, ⟨od, es, ep, e, c⟩, r⟩ := x; exact ⟨mA, ⟨od, es, ep, k _ _ (.inl rfl) e, c⟩, r⟩
  | rng lo hi => obtain ⟨t, u, v, e⟩ := x; exact ⟨t, u, v, k _ _ (.inl rfl) e⟩
  | frz ob u ih => obtain ⟨e, q⟩ := x; exact ⟨k _ _ (.inl rfl) e, ih q⟩
  | tbl ps =>
    have e : h.get? a = some { cls := .none, data := .fields ps } := x
    show h'.get? a = some { cls := .none, data := .fields ps }
    exact k a _ (.inl rfl) e
  | met f y =>
    have e : h.get? a = some (PySem.W.methodObj (.ref f) (.ref y)) := x
    show h'.get? a = some (PySem.W.methodObj (.ref f) (.ref y))
    exact k a _ (.inl rfl) e
  | ext φ => obtain ⟨p, ⟨o, e⟩, st⟩ := x; exact ⟨st _ _ p fun o q => k _ _ (.inl rfl) q, ⟨o, k _ _ (.inl rfl) e⟩, st⟩
theorem HOk.lt (x : HOk P w H h) (e : H a = some o) : a < h.objs.size := (x a o e).lt
theorem HOk.fresh (x : HOk P w H h) (e : h.objs.size ≤ a) : H a = none := by
  cases q : H a with
  | none => rfl
  | some u => exact absurd (Nat.lt_of_lt_of_le (x.lt q) e) (Nat.lt_irrefl _)
/-- every object of the heap is kept -/
theorem HOk.kept (x : HOk P w H h) (k : ∀ b u, h.get? b = some u → h'.get? b = some u) : HOk P w H h' := fun a o e =>
  (x a o e).stay (fun b u _ q => k b u q) (fun _ q => q) fun _ _ q => q
/-- a new object is laid and tracked -/
theorem HOk.laid (x : HOk P w H h) (k : ∀ b u, h.get? b = some u → h'.get? b = some u) (hp : h.objs.size ≤ a) (new : ObjOk P w (upd H a o) h' a o) : HOk P w (upd H a o) h' := fun b u e => by
  have hn := x.fresh hp
  by_cases hb : b = a
  · subst hb; rw [upd_same] at e; cases e; exact new
  · rw [upd_ne hb] at e
    exact (x b u e).stay (fun c v _ q => k c v q) (fun c q => by rw [upd_ne (ne_of_none q hn)]; exact q) fun c xs q => by rw [upd_ne (ne_of_none q hn)]; exact q
end

/-- what may be read as u: it is u, or a known u -/
def Rd (H : Hp) (a : Addr) (u : HO) : Prop := H a = some u ∨ ∃ o, H a = some (.frz o u)
theorem Rd.ok {P : Program} {w : World} {H : Hp} {h : Heap} {a : Addr} {u : HO} (r : Rd H a u) (x : HOk P w H h) : ObjOk P w H h a u := by
  rcases r with r | ⟨o, r⟩
  · exact x a u r
  · obtain ⟨_, q⟩ := x a _ r
    exact q
/-- what may be written -/
def Mut : Option HO → Prop
  | some (.lst _) => True
  | some (.dK _) => True
  | some (.dT _) => True
  | some (.set _ _) => True
  | some (.ins _ _ _) => True
  | some (.ext _) => True
  | _ => False
section
variable {P : Program} {w : World} {H : Hp} {h h' : Heap} {x e : Addr} {o' : HO}
/-- the object at e is changed: x itself, or the dict of the instance x -/
theorem HOk.write (ok : HOk P w H h) (mu : Mut (H x)) (he : e = x ∨ H e = some (.own x)) (k : ∀ b u, b ≠ e → h.get? b = some u → h'.get? b = some u) (heo : ∃ u, h'.get? e = some u)
    (new : ObjOk P w (upd H x o') h' x o') : HOk P w (upd H x o') h' := fun b u q => by
  have nown : ∀ c y, H c = some (.own y) → c ≠ x := fun c y r z => by subst z; rw [r] at mu; exact mu
  have ntup : ∀ c xs, H c = some (.tup xs) → c ≠ x := fun c xs r z => by subst z; rw [r] at mu; exact mu
  by_cases hb : b = x
  · subst hb; rw [upd_same] at q; cases q; exact new
  · rw [upd_ne hb] at q
    by_cases hbe : b = e
    · have q' : H b = some (.own x) := by
        rcases he with z | z
        · exact absurd (hbe.trans z) hb
        · rw [hbe]; exact z
      rw [q] at q'; cases q'
      obtain ⟨v, hv⟩ := heo
      exact ⟨v, by rw [hbe]; exact hv⟩
    · refine (ok b u q).stay (fun c v hc r => k c v ?_ r) (fun c r => by rw [upd_ne (nown c b r)]; exact r) fun c xs r => by rw [upd_ne (ntup c xs r)]; exact r
      rcases hc with rfl | hc
      · exact hbe
      · rintro rfl
        rcases he with z | z
        · exact nown c b hc z
        · rw [hc] at z; cases z; exact hb rfl
end

/-! ### kept unless tracked; of the frames at fs (the callers') the slots may change (an exception that passes writes there); of the records at ex (iterators) nothing is said -/
structure Un (fs ex : List Addr) (H H' : Hp) (h h' : Heap) : Prop where
  keep : ∀ b o, h.get? b = some o → H b = none → b ∉ fs → b ∉ ex → h'.get? b = some o
  slot : ∀ b o, h.get? b = some o → H b = none → b ∈ fs → b ∉ ex → ∃ sl, h'.get? b = some { o with slots := sl }
  free : ∀ b o, h.get? b = some o → H b = none → b ∉ ex → H' b = none
  there : ∀ b o, h.get? b = some o → b ∉ ex → ∃ o', h'.get? b = some o'
  tups : ∀ b xs, H b = some (.tup xs) → H' b = some (.tup xs)
  frzs : ∀ b o u, H b = some (.frz o u) → H' b = some (.frz o u)
  tbls : ∀ b ps, H b = some (.tbl ps) → ∃ more, H' b = some (.tbl (ps ++ more))
section
variable {fs fs' ex ex' : List Addr} {H H1 H2 : Hp} {h h1 h2 h' : Heap} {a x e : Addr} {o : HO}
theorem Un.any (u : Un fs ex H H1 h h1) {b : Addr} {ob : Obj} (q : h.get? b = some ob) (n : H b = none) (hx : b ∉ ex) : ∃ sl, h1.get? b = some { ob with slots := sl } := by
  by_cases hb : b ∈ fs
  · exact u.slot b ob q n hb hx
  · exact ⟨ob.slots, u.keep b ob q n hb hx⟩
theorem Un.kept (k : ∀ b u, h.get? b = some u → h'.get? b = some u) : Un fs ex H H h h' :=
  ⟨fun b ob q _ _ _ => k b ob q, fun b ob q _ _ _ => ⟨ob.slots, k b ob q⟩, fun _ _ _ n _ => n, fun b ob q _ => ⟨ob, k b ob q⟩, fun _ _ q => q, fun _ _ _ q => q, fun _ ps q => ⟨#[], by rw [q]; simp⟩⟩
theorem Un.refl : Un fs ex H H h h := Un.kept fun _ _ q => q
theorem Un.laid (k : ∀ b u, h.get? b = some u → h'.get? b = some u) (hp : h.objs.size ≤ a) (hn : H a = none) : Un fs ex H (upd H a o) h h' where
  keep := fun b u q _ _ _ => k b u q
  slot := fun b u q _ _ _ => ⟨u.slots, k b u q⟩
  free := fun b u q n _ => by rw [upd_ne (Nat.ne_of_lt (Nat.lt_of_lt_of_le (Heap.lt_size q) hp))]; exact n
  there := fun b u q _ => ⟨u, k b u q⟩
  tups := fun b xs q => by rw [upd_ne (ne_of_none q hn)]; exact q
  frzs := fun b u xs q => by rw [upd_ne (ne_of_none q hn)]; exact q
  tbls := fun b ps q => ⟨#[], by rw [upd_ne (ne_of_none q hn), q]; simp⟩
theorem Un.write (mu : Mut (H x)) (he : e = x ∨ H e = some (.own x)) (k : ∀ b u, b ≠ e → h.get? b = some u → h'.get? b = some u) (heo : ∃ u, h'.get? e = some u) : Un fs ex H (upd H x o) h h' := by
  have hx : ∀ b, H b = none → b ≠ x := fun b n z => by subst z; rw [n] at mu; exact mu
  have hb : ∀ b, H b = none → b ≠ e := fun b n z => by
    subst z
    rcases he with r | r
    · exact hx b n r
    · rw [n] at r; cases r
  have hm : ∀ b u, H b = some u → ¬ Mut (some u) → b ≠ x := fun b u q nm z => by subst z; rw [q] at mu; exact nm mu
  refine ⟨fun b u q n _ _ => k b u (hb b n) q, fun b u q n _ _ => ⟨u.slots, k b u (hb b n) q⟩, fun b u q n _ => by rw [upd_ne (hx b n)]; exact n, fun b u q _ => ?_,
    fun b xs q => by rw [upd_ne (hm b _ q fun z => z)]; exact q, fun b u xs q => by rw [upd_ne (hm b _ q fun z => z)]; exact q, fun b ps q => ⟨#[], by rw [upd_ne (hm b _ q fun z => z), q]; simp⟩⟩
  by_cases hbe : b = e
  · subst hbe; exact heo
  · exact ⟨u, k b u hbe q⟩
end

/-! ### the heap without what is tracked -/
def trk (h : Heap) (H : Hp) : List Addr := (List.range h.objs.size).filter fun a => (H a).isSome
def hidT (h : Heap) (H : Hp) : Heap := PySem.W.hideAll h (trk h H)
theorem hidT_size (h : Heap) (H : Hp) : (hidT h H).objs.size = h.objs.size := PySem.W.hideAll_size _ _
theorem hidT_get {h : Heap} {H : Hp} {b : Addr} {o : Obj} (e : h.get? b = some o) (n : H b = none) : (hidT h H).get? b = some o :=
  PySem.W.hideAll_get _ e fun hm => by
    have q : (H b).isSome = true := (List.mem_filter.mp hm).2
    rw [n] at q; simp at q
theorem of_hidT {h : Heap} {H : Hp} {b : Addr} {o : Obj} (e : (hidT h H).get? b = some o) : h.get? b = some o ∧ H b = none := by
  have e' : h.get? b = some o := PySem.W.of_hideAll (trk h H) e
  refine ⟨e', ?_⟩
  cases q : H b with
  | none => rfl
  | some x =>
    have hm : b ∈ trk h H := List.mem_filter.mpr ⟨List.mem_range.mpr (Heap.lt_size e'), by simp [q]⟩
    have z : (hidT h H).get? b = none := PySem.W.hideAll_none (trk h H) hm
    rw [z] at e; cases e

/-! ### OpenK's ledger, filled with every new object but one -/
end L2

namespace L2
open PySem PySem.Spec PyProof.Rows

/-- the module's facts, over the base: the heap at the law's entry without what is tracked there -/
structure Mod (K : PySem.W.Frag) (mg : Str → Option Value) (base : Heap) : Prop where
  kin : K.In base
  glob : base.Ns mainGlobals mg
  blt : ∃ mb, base.Ns builtinsNs mb ∧ ∀ x : Str, x ≠ "__name__" → mb x = bootBuiltins x
  nolimit : base.NoLimit

/-- the context: a def's body (or a comprehension's block) running. base: fixed through the whole law; s₀, H₀: the entry; outer: the frames whose slots others may change (a def's callers); stack: all frames that run;
   ex: iterators that were made ahead of the entry and are walked here (a comprehension's); fn: the names whose cells were made at the entry (a def: all; a comprehension's block: its own); calm: not within an except suite; pn: pins that every state bears; xe: what is wanted of an exception that leaves the code -/
structure Cx where
  prog : Program
  w : World
  K : PySem.W.Frag
  mg : Str → Option Value
  base : Heap
  A : Around
  N : List Str
  s₀ : Shared
  H₀ : Hp
  env : Env
  outer : List Env
  stack : List Env
  ex : List Addr
  fn : Str → Bool
  calm : Bool
  pn : List (Addr × Obj)
  xe : Value → Shared → Prop
/-- the callers' frames -/
def frs (l : List Env) : List Addr := l.filterMap (·.frame)
abbrev Cx.fs (X : Cx) : List Addr := frs X.outer

def Vis (sc : Scope) (x : Str) : Prop := sc.names.lookup x = some .local ∨ sc.names.lookup x = some .cell ∨ sc.names.lookup x = some .free
def Loc (sc : Scope) (x : Str) : Prop := sc.names.lookup x = some .local ∨ sc.names.lookup x = some .cell
def Look (env : Env) (h : Heap) (m : Str → Option Value) (x : Str) (u : Value) : Prop :=
  (env.kindOf x = some .local ∧ m x = some u) ∨ ((env.kindOf x = some .cell ∨ env.kindOf x = some .free) ∧ ∃ c, env.cells.lookup x = some c ∧ h.IsCell c (some u))

structure Cx.Ok (X : Cx) : Prop where
  mod : Mod X.K X.mg X.base
  kind : X.env.scope.kind = .function
  glob : X.env.globals = mainGlobals
  blt : X.env.builtins = builtinsNs
  above : X.s₀.heap.objs.size ≤ X.env.locals
  inj : ∀ x y c, X.env.cells.lookup x = some c → X.env.cells.lookup y = some c → x = y
  has : ∀ x, (X.env.kindOf x = some .cell ∨ X.env.kindOf x = some .free) → ∃ c, X.env.cells.lookup x = some c
  cab : ∀ x c, X.fn x = true → X.env.cells.lookup x = some c → X.s₀.heap.objs.size ≤ c
  hd : X.calm = true → X.A.handled = none
  frames : X.A.frames = some X.stack
  stk : X.stack = X.outer ∨ (X.stack = X.env :: X.outer ∧ X.env.frame = some X.env.locals)
  exf : ∀ b ∈ X.ex, b ≠ X.env.locals ∧ ∀ x c, X.env.cells.lookup x = some c → c ≠ b
  bs : ∀ b o, X.base.get? b = some o → X.s₀.heap.get? b = some o ∧ X.H₀ b = none
  bsz : X.base.objs.size ≤ X.s₀.heap.objs.size
  noex : ∀ b o, X.base.get? b = some o → b ∉ X.ex
  exfs : ∀ b ∈ X.ex, b ∉ X.fs
  funs : X.s₀.heap.FunFrames X.base X.outer
  frf : ∀ b ∈ X.fs, X.H₀ b = none

structure Inv (X : Cx) (pins : List (Addr × Obj)) (σ : List (Option V)) (H : Hp) (s : Shared) : Prop where
  ok : X.Ok
  os : s.os = X.s₀.os
  bare : AllBare s.gens
  base : Un X.fs X.ex X.H₀ H X.s₀.heap s.heap
  loc : ∃ m, s.heap.Ns X.env.locals m ∧ ∀ (i : Nat) (x : Str) (v : V), X.N[i]? = some x → σ[i]? = some (some v) → Vis X.env.scope x → ∃ u, RelV v u ∧ Look X.env s.heap m x u
  cell : ∀ x c, X.env.cells.lookup x = some c → ∃ v, s.heap.IsCell c v
  free : H X.env.locals = none
  freeC : ∀ x c, X.env.cells.lookup x = some c → H c = none
  pin : ∀ p ∈ X.pn ++ pins, s.heap.get? p.1 = some p.2 ∧ H p.1 = none ∧ p.1 ≠ X.env.locals ∧ p.1 ∉ X.fs ∧ ∀ v, p.2.data ≠ .cell v
  hok : HOk X.prog X.w H s.heap
  len : σ.length = X.N.length

section
variable {X : Cx} {pins : List (Addr × Obj)} {σ : List (Option V)} {H H' : Hp} {s : Shared} {h' : Heap}

theorem Cx.Ok.nofr (ok : X.Ok) {b : Addr} {o : Obj} (e : X.base.get? b = some o) : b ∉ X.fs := fun hb => by
  have := (ok.funs.mem hb).1
  rw [e] at this; cases this
theorem Inv.bs (I : Inv X pins σ H s) : ∀ b o, X.base.get? b = some o → s.heap.get? b = some o ∧ H b = none := fun b o e =>
  ⟨I.base.keep b o (I.ok.bs b o e).1 (I.ok.bs b o e).2 (I.ok.nofr e) (I.ok.noex b o e), I.base.free b o (I.ok.bs b o e).1 (I.ok.bs b o e).2 (I.ok.noex b o e)⟩
theorem Inv.bk (I : Inv X pins σ H s) : ∀ b o, X.base.get? b = some o → s.heap.get? b = some o := fun b o e => (I.bs b o e).1
theorem Inv.mod (I : Inv X pins σ H s) : Mod X.K X.mg X.base := I.ok.mod
theorem Inv.kIn (I : Inv X pins σ H s) : X.K.In s.heap := I.ok.mod.kin.keeps I.bk
theorem Inv.lt (I : Inv X pins σ H s) : X.env.locals < s.heap.objs.size := let ⟨_, hn, _⟩ := I.loc; hn.lt
theorem Inv.sz (I : Inv X pins σ H s) : X.s₀.heap.objs.size ≤ s.heap.objs.size := Nat.le_trans I.ok.above (Nat.le_of_lt I.lt)
theorem Inv.nofs (I : Inv X pins σ H s) {a : Addr} (h : s.heap.objs.size ≤ a) : a ∉ X.fs := fun hb => by
  obtain ⟨_, o, ho, _⟩ := I.ok.funs.mem hb
  exact absurd (Nat.lt_of_lt_of_le (Heap.lt_size ho) (Nat.le_trans I.sz h)) (Nat.lt_irrefl _)
theorem Inv.cne (I : Inv X pins σ H s) : ∀ x c, X.env.cells.lookup x = some c → c ≠ X.env.locals := fun x c e z => by
  obtain ⟨v, o, ho, hd⟩ := I.cell x c e
  obtain ⟨m, ⟨o', es, ep, ho', hd', _⟩, _⟩ := I.loc
  rw [z, ho'] at ho; cases ho; rw [hd'] at hd; cases hd
theorem Inv.funs (I : Inv X pins σ H s) : s.heap.FunFrames X.base X.outer := by
  have all : ∀ (l : List Env), (∀ b ∈ frs l, b ∈ X.fs) → X.s₀.heap.FunFrames X.base l → s.heap.FunFrames X.base l := by
    intro l
    induction l with
    | nil => intro _ _; trivial
    | cons env r ih =>
      intro hs hl
      obtain ⟨hk, ⟨L, o, hf, hn, ho, hd⟩, hr⟩ := hl
      have hL : L ∈ X.fs := hs L (by unfold frs; rw [List.filterMap_cons, hf]; exact List.mem_cons_self)
      obtain ⟨sl, e⟩ := I.base.slot L o ho (I.ok.frf L hL) hL fun z => I.ok.exfs L z hL
      exact ⟨hk, ⟨L, _, hf, hn, e, hd⟩, ih (fun b hb => hs b (by unfold frs; rw [List.filterMap_cons, hf]; exact List.mem_cons_of_mem _ hb)) hr⟩
  exact all X.outer (fun _ hb => hb) I.ok.funs

/-- the frames that run, for a call -/
theorem Inv.stack (I : Inv X pins σ H s) : s.heap.FunFrames X.base X.stack := by
  rcases I.ok.stk with e | ⟨e, hf⟩
  · rw [e]; exact I.funs
  · rw [e]
    obtain ⟨m, hn, _⟩ := I.loc
    refine .cons (by rw [I.ok.kind]; decide) hf hn ?_ I.funs
    exact Heap.get?_none_of_le (Nat.le_trans I.ok.bsz I.ok.above)
theorem Inv.stkSub (I : Inv X pins σ H s) : ∀ b ∈ frs X.stack, b ∈ X.env.locals :: X.fs := fun b hb => by
  rcases I.ok.stk with e | ⟨e, hf⟩
  · rw [e] at hb; exact List.mem_cons_of_mem _ hb
  · rw [e] at hb
    unfold frs at hb
    rw [List.filterMap_cons, hf] at hb
    exact hb
theorem Inv.stkFree (I : Inv X pins σ H s) : ∀ b ∈ frs X.stack, H b = none := fun b hb => by
  rcases List.mem_cons.mp (I.stkSub b hb) with e | hb
  · rw [e]; exact I.free
  · obtain ⟨_, o, ho, _⟩ := I.ok.funs.mem hb
    exact I.base.free b o ho (I.ok.frf b hb) fun z => I.ok.exfs b z hb

/-- THE STEP: the untracked objects but the frame and the records at ch are kept (the callers' frames up to slots), the frame's map is kept, the new abstract heap is held -/
theorem Inv.step {g' : Array GenState} {t' : Nat} {d' : Drawn} {ch : List Addr} (I : Inv X pins σ H s)
    (hch : ∀ b ∈ ch, (b ∈ X.ex ∨ X.s₀.heap.objs.size ≤ b) ∧ b ≠ X.env.locals ∧ (∀ x c, X.env.cells.lookup x = some c → c ≠ b) ∧ ∀ p ∈ X.pn ++ pins, p.1 ≠ b)
    (keep : ∀ b o, b ≠ X.env.locals → b ∉ X.fs → b ∉ ch → s.heap.get? b = some o → H b = none → h'.get? b = some o)
    (slot : ∀ b o, b ≠ X.env.locals → b ∈ X.fs → b ∉ ch → s.heap.get? b = some o → H b = none → ∃ sl, h'.get? b = some { o with slots := sl }) (free : ∀ b o, b ∉ ch → s.heap.get? b = some o → H b = none → H' b = none)
    (there : ∀ b o, b ∉ ch → s.heap.get? b = some o → ∃ o', h'.get? b = some o')
    (tups : ∀ b xs, H b = some (.tup xs) → H' b = some (.tup xs)) (frzs : ∀ b o u, H b = some (.frz o u) → H' b = some (.frz o u)) (tbls : ∀ b ps, H b = some (.tbl ps) → ∃ more, H' b = some (.tbl (ps ++ more)))
    (ns : ∀ m, s.heap.Ns X.env.locals m → h'.Ns X.env.locals m) (hok : HOk X.prog X.w H' h') (hg : AllBare g') :
    Inv X pins σ H' { s with heap := h', gens := g', drawn := d', toks := t' } := by
  have neL : ∀ b o, X.s₀.heap.get? b = some o → b ≠ X.env.locals := fun b o e => Nat.ne_of_lt (Nat.lt_of_lt_of_le (Heap.lt_size e) I.ok.above)
  have neC : ∀ b o, X.s₀.heap.get? b = some o → b ∉ X.ex → b ∉ ch := fun b o e hx hb => by
    rcases (hch b hb).1 with z | z
    · exact hx z
    · exact absurd (Nat.lt_of_lt_of_le (Heap.lt_size e) z) (Nat.lt_irrefl _)
  have cellK : ∀ x c, X.env.cells.lookup x = some c → ∀ v, s.heap.IsCell c v → h'.IsCell c v := fun x c e v ⟨o, ho, hd⟩ => by
    have nch : c ∉ ch := fun z => (hch c z).2.2.1 x c e rfl
    by_cases hc : c ∈ X.fs
    · obtain ⟨sl, q⟩ := slot c o (I.cne x c e) hc nch ho (I.freeC x c e)
      exact ⟨_, q, hd⟩
    · exact ⟨o, keep c o (I.cne x c e) hc nch ho (I.freeC x c e), hd⟩
  refine ⟨I.ok, I.os, hg, ⟨fun b o e n hb hx => ?_, fun b o e n hb hx => ?_, fun b o e n hx => ?_, fun b o e hx => ?_, fun b xs e => tups b xs (I.base.tups b xs e), fun b o xs e => frzs b o xs (I.base.frzs b o xs e), fun b ps e => ?_⟩, ?_, fun x c e => ?_, ?_, fun x c e => ?_, fun p hp => ?_, hok, I.len⟩
  · exact keep b o (neL b o e) hb (neC b o e hx) (I.base.keep b o e n hb hx) (I.base.free b o e n hx)
  · obtain ⟨sl, e1⟩ := I.base.slot b o e n hb hx
    obtain ⟨sl', e2⟩ := slot b _ (neL b o e) hb (neC b o e hx) e1 (I.base.free b o e n hx)
    exact ⟨sl', e2⟩
  · obtain ⟨o', e1⟩ := I.base.there b o e hx
    exact free b o' (neC b o e hx) e1 (I.base.free b o e n hx)
  · obtain ⟨o', e1⟩ := I.base.there b o e hx
    exact there b o' (neC b o e hx) e1
  · obtain ⟨m1, e1⟩ := I.base.tbls b ps e
    obtain ⟨m2, e2⟩ := tbls b _ e1
    exact ⟨m1 ++ m2, by rw [e2, Array.append_assoc]⟩
  · obtain ⟨m, hn, hl⟩ := I.loc
    refine ⟨m, ns m hn, fun i x v e1 e2 e3 => ?_⟩
    obtain ⟨u, r, l⟩ := hl i x v e1 e2 e3
    refine ⟨u, r, ?_⟩
    rcases l with l | ⟨k, c, e, z⟩
    · exact .inl l
    · exact .inr ⟨k, c, e, cellK x c e _ z⟩
  · obtain ⟨v, z⟩ := I.cell x c e
    exact ⟨v, cellK x c e v z⟩
  · obtain ⟨m, ⟨o, _, _, ho, _⟩, _⟩ := I.loc
    exact free _ o (fun z => (hch _ z).2.1 rfl) ho I.free
  · obtain ⟨v, o, ho, hd⟩ := I.cell x c e
    exact free c o (fun z => (hch c z).2.2.1 x c e rfl) ho (I.freeC x c e)
  · obtain ⟨e, n, ne, nf, d⟩ := I.pin p hp
    have nch : p.1 ∉ ch := fun z => (hch p.1 z).2.2.2 p hp rfl
    exact ⟨keep p.1 p.2 ne nf nch e n, free p.1 p.2 nch e n, ne, nf, d⟩
/-- .. where the frame's own object is kept too -/
theorem Inv.un {t' : Nat} (I : Inv X pins σ H s) (u : Un X.fs [] H H' s.heap h') (hok : HOk X.prog X.w H' h') : Inv X pins σ H' { s with heap := h', toks := t' } := by
  obtain ⟨m, ⟨o, es, ep, ho, r⟩, _⟩ := id I.loc
  obtain ⟨sl, hL⟩ := u.any ho I.free (by simp)
  exact I.step (g' := s.gens) (d' := s.drawn) (ch := []) (fun _ z => nomatch z) (fun b o _ hb _ e n => u.keep b o e n hb (by simp)) (fun b o _ hb _ e n => u.slot b o e n hb (by simp)) (fun b o _ e n => u.free b o e n (by simp)) (fun b o _ e => u.there b o e (by simp)) u.tups u.frzs u.tbls (fun m' hm => by
    obtain ⟨o', es', ep', ho', r'⟩ := hm
    rw [ho] at ho'; cases ho'
    exact ⟨_, es', ep', hL, r'⟩) hok I.bare
/-- behind a call (or a comprehension's block): the slots of this frame may have changed too, the records at ch may have turned -/
theorem Inv.call {g' : Array GenState} {t' : Nat} {d' : Drawn} {ch : List Addr} (I : Inv X pins σ H s) (u : Un (frs X.stack) ch H H' s.heap h') (hok : HOk X.prog X.w H' h') (hg : AllBare g')
    (hch : ∀ b ∈ ch, (b ∈ X.ex ∨ X.s₀.heap.objs.size ≤ b) ∧ b ≠ X.env.locals ∧ (∀ x c, X.env.cells.lookup x = some c → c ≠ b) ∧ ∀ p ∈ X.pn ++ pins, p.1 ≠ b) :
    Inv X pins σ H' { s with heap := h', gens := g', drawn := d', toks := t' } := by
  obtain ⟨m, ⟨o, es, ep, ho, r⟩, _⟩ := id I.loc
  obtain ⟨sl, hL⟩ := u.any ho I.free fun z => (hch _ z).2.1 rfl
  exact I.step (ch := ch) hch (fun b o hL hb hc e n => u.keep b o e n (fun z => (List.mem_cons.mp (I.stkSub b z)).elim hL hb) hc) (fun b o _ _ hc e n => u.any e n hc) (fun b o hc e n => u.free b o e n hc) (fun b o hc e => u.there b o e hc) u.tups u.frzs u.tbls (fun m' hm => by
    obtain ⟨o', es', ep', ho', r'⟩ := hm
    rw [ho] at ho'; cases ho'
    exact ⟨_, es', ep', hL, r'⟩) hok hg
/-- an untracked record of ours (an iterator) has turned -/
theorem Inv.turned {t' : Nat} {it : Addr} (I : Inv X pins σ H s) (k : ∀ b o, b ≠ it → s.heap.get? b = some o → h'.get? b = some o) (hn : H it = none) (hL : it ≠ X.env.locals)
    (h1 : it ∈ X.ex ∨ X.s₀.heap.objs.size ≤ it) (h2 : ∀ x c, X.env.cells.lookup x = some c → c ≠ it) (h3 : ∀ p ∈ X.pn ++ pins, p.1 ≠ it) : Inv X pins σ H { s with heap := h', toks := t' } := by
  have nit : ∀ b u, H b = some u → b ≠ it := fun b u e z => by rw [z, hn] at e; cases e
  refine I.step (g' := s.gens) (d' := s.drawn) (ch := [it]) (fun b hb => ?_) (fun b o _ _ hc e _ => k b o (fun z => hc (by simp [z])) e) (fun b o _ _ hc e _ => ⟨o.slots, k b o (fun z => hc (by simp [z])) e⟩) (fun _ _ _ _ n => n)
    (fun b o hc e => ⟨o, k b o (fun z => hc (by simp [z])) e⟩) (fun _ _ e => e) (fun _ _ _ e => e) (fun b ps e => ⟨#[], by rw [e]; simp⟩) (fun m hm => ?_) (fun b u e => ?_) I.bare
  · have e : b = it := by simpa using hb
    subst e
    exact ⟨h1, hL, h2, h3⟩
  · obtain ⟨o, es, ep, ho, r⟩ := hm
    exact ⟨o, es, ep, k _ o (Ne.symm hL) ho, r⟩
  · refine (I.hok b u e).stay (fun c v hc q => k c v ?_ q) (fun _ q => q) fun _ _ q => q
    rcases hc with z | z
    · rw [z]; exact nit b u e
    · exact nit c _ z
theorem Inv.tok (I : Inv X pins σ H s) (t : Nat) : Inv X pins σ H { s with toks := t } := I.un (h' := s.heap) (t' := t) Un.refl I.hok
/-- all objects kept -/
theorem Inv.kept {t' : Nat} (I : Inv X pins σ H s) (k : ∀ b u, s.heap.get? b = some u → h'.get? b = some u) : Inv X pins σ H { s with heap := h', toks := t' } := I.un (Un.kept k) (I.hok.kept k)
/-- a new object laid and tracked -/
theorem Inv.laid {a : Addr} {o : HO} {t' : Nat} (I : Inv X pins σ H s) (k : ∀ b u, s.heap.get? b = some u → h'.get? b = some u) (hp : s.heap.objs.size ≤ a) (new : ObjOk X.prog X.w (upd H a o) h' a o) :
    Inv X pins σ (upd H a o) { s with heap := h', toks := t' } := I.un (Un.laid k hp (I.hok.fresh hp)) (I.hok.laid k hp new)
/-- an object written -/
theorem Inv.write {x e : Addr} {o : HO} {t' : Nat} (I : Inv X pins σ H s) (mu : Mut (H x)) (he : e = x ∨ H e = some (.own x)) (k : ∀ b u, b ≠ e → s.heap.get? b = some u → h'.get? b = some u) (heo : ∃ u, h'.get? e = some u)
    (new : ObjOk X.prog X.w (upd H x o) h' x o) : Inv X pins σ (upd H x o) { s with heap := h', toks := t' } := I.un (Un.write mu he k heo) (I.hok.write mu he k heo new)
theorem Inv.pins_of {pins' : List (Addr × Obj)} (I : Inv X pins σ H s) (h : ∀ p ∈ pins', s.heap.get? p.1 = some p.2 ∧ H p.1 = none ∧ p.1 ≠ X.env.locals ∧ p.1 ∉ X.fs ∧ ∀ v, p.2.data ≠ .cell v) : Inv X pins' σ H s :=
  ⟨I.ok, I.os, I.bare, I.base, I.loc, I.cell, I.free, I.freeC, fun p hp => (List.mem_append.mp hp).elim (fun z => I.pin p (List.mem_append_left _ z)) (h p), I.hok, I.len⟩

theorem nodup_ix {N : List Str} (hN : N.Nodup) {i j : Nat} {x : Str} (a : N[i]? = some x) (b : N[j]? = some x) : i = j := by
  obtain ⟨h1, e1⟩ := List.getElem?_eq_some_iff.mp a
  obtain ⟨h2, e2⟩ := List.getElem?_eq_some_iff.mp b
  exact (List.getElem_inj hN).mp (e1.trans e2.symm)

/-- a name is stored; what changed -/
theorem store_ok2 {M : Model} {A : Around} {E : Value → Shared → Prop} {i : Nat} {x : Str} {v : V} {u : Value} {Q : Unit → Shared → Prop} (I : Inv X pins σ H s) (hN : X.N.Nodup) (hi : X.N[i]? = some x) (hx : Loc X.env.scope x) (r : RelV v u)
    (h : ∀ s', Inv X pins (σ.set i (some v)) H s' → (∃ a, Heap.SameBut a s.heap s'.heap ∧ (a = X.env.locals ∨ X.env.cells.lookup x = some a)) → Q () s') (hf : X.fn x = true ∨ X.env.scope.names.lookup x = some .local := by first | exact .inl rfl | exact .inr rfl | assumption) : wpAny M A (storeName X.env x u) Q E s := by
  obtain ⟨m, hn, hl⟩ := id I.loc
  have hcls : (X.env.scope.kind == .class || (X.env.scope.kind == .module && X.env.locals != X.env.globals)) = false := by rw [I.ok.kind]; rfl
  have hiσ : i < σ.length := by rw [I.len]; exact (List.getElem?_eq_some_iff.mp hi).1
  have cne := I.cne
  have tracked : ∀ {a : Addr} {h' : Heap}, (∃ o, s.heap.get? a = some o ∧ H a = none) → Heap.SameBut a s.heap h' → HOk X.prog X.w H h' := fun {a h'} ha hs b ob e => by
    obtain ⟨_, _, hfree⟩ := ha
    refine (I.hok b ob e).stay (fun c w' hc q => (hs.2 c ?_).trans q) (fun _ q => q) fun _ _ q => q
    rintro rfl
    rcases hc with rfl | hc
    · rw [hfree] at e; cases e
    · rw [hfree] at hc; cases hc
  rcases hx with hk | hk
  · refine wpAny_storeName_local hk hn (fun h' hn' hs => ?_) hcls
    obtain ⟨oL, _, _, hoL, _⟩ := id hn
    refine h _ ⟨I.ok, I.os, I.bare, ⟨fun b o e n hb hx => ?_, fun b o e n hb hx => ?_, I.base.free, fun b o e hx => ?_, I.base.tups, I.base.frzs, I.base.tbls⟩, ⟨_, hn', fun j y v' e1 e2 e3 => ?_⟩, fun y c e => ?_, I.free, I.freeC, fun p hp => ?_, tracked ⟨oL, hoL, I.free⟩ hs, by simpa using I.len⟩ ⟨_, hs, .inl rfl⟩
    · exact (hs.2 b (Nat.ne_of_lt (Nat.lt_of_lt_of_le (Heap.lt_size e) I.ok.above))).trans (I.base.keep b o e n hb hx)
    · obtain ⟨sl, e1⟩ := I.base.slot b o e n hb hx
      exact ⟨sl, (hs.2 b (Nat.ne_of_lt (Nat.lt_of_lt_of_le (Heap.lt_size e) I.ok.above))).trans e1⟩
    · obtain ⟨o', e1⟩ := I.base.there b o e hx
      exact ⟨o', (hs.2 b (Nat.ne_of_lt (Nat.lt_of_lt_of_le (Heap.lt_size e) I.ok.above))).trans e1⟩
    · by_cases hj : j = i
      · subst hj
        rw [hi] at e1; cases e1
        rw [List.getElem?_set_self hiσ] at e2
        cases e2
        exact ⟨u, r, .inl ⟨hk, by simp⟩⟩
      · rw [List.getElem?_set_ne (Ne.symm hj)] at e2
        obtain ⟨u', r', q⟩ := hl j y v' e1 e2 e3
        refine ⟨u', r', ?_⟩
        rcases q with ⟨k, e⟩ | ⟨k, c, e, z⟩
        · refine .inl ⟨k, ?_⟩
          have : y ≠ x := fun e => hj (nodup_ix hN e1 (e ▸ hi))
          simp [this, e]
        · exact .inr ⟨k, c, e, z.sameBut hs (cne y c e)⟩
    · obtain ⟨w', z⟩ := I.cell y c e
      exact ⟨w', z.sameBut hs (cne y c e)⟩
    · obtain ⟨e, n, ne, nf, d⟩ := I.pin p hp
      exact ⟨(hs.2 p.1 ne).trans e, n, ne, nf, d⟩
  · have hfn : X.fn x = true := by
      rcases hf with z | z
      · exact z
      · rw [z] at hk; cases hk
    obtain ⟨c, hc⟩ := I.ok.has x (.inl hk)
    obtain ⟨w', z⟩ := I.cell x c hc
    refine wpAny_storeName_cell I.ok.kind hk hc z (fun h' hc' hs => ?_)
    obtain ⟨oc, hoc, hocd⟩ := id z
    refine h { s with heap := h' } ⟨I.ok, I.os, I.bare, ⟨fun b o e n hb hx => ?_, fun b o e n hb hx => ?_, I.base.free, fun b o e hx => ?_, I.base.tups, I.base.frzs, I.base.tbls⟩, ⟨m, hn.sameBut hs (Ne.symm (cne x c hc)), fun j y v' e1 e2 e3 => ?_⟩, fun y c' e => ?_, I.free, I.freeC, fun p hp => ?_, tracked ⟨oc, hoc, I.freeC x c hc⟩ hs, by simpa using I.len⟩ ⟨c, hs, .inr hc⟩
    · exact (hs.2 b (Nat.ne_of_lt (Nat.lt_of_lt_of_le (Heap.lt_size e) (I.ok.cab x c hfn hc)))).trans (I.base.keep b o e n hb hx)
    · obtain ⟨sl, e1⟩ := I.base.slot b o e n hb hx
      exact ⟨sl, (hs.2 b (Nat.ne_of_lt (Nat.lt_of_lt_of_le (Heap.lt_size e) (I.ok.cab x c hfn hc)))).trans e1⟩
    · obtain ⟨o', e1⟩ := I.base.there b o e hx
      exact ⟨o', (hs.2 b (Nat.ne_of_lt (Nat.lt_of_lt_of_le (Heap.lt_size e) (I.ok.cab x c hfn hc)))).trans e1⟩
    · by_cases hj : j = i
      · subst hj
        rw [hi] at e1; cases e1
        rw [List.getElem?_set_self hiσ] at e2
        cases e2
        exact ⟨u, r, .inr ⟨.inl hk, c, hc, hc'⟩⟩
      · rw [List.getElem?_set_ne (Ne.symm hj)] at e2
        obtain ⟨u', r', q⟩ := hl j y v' e1 e2 e3
        refine ⟨u', r', ?_⟩
        rcases q with q | ⟨k, c', e, z'⟩
        · exact .inl q
        · refine .inr ⟨k, c', e, z'.sameBut hs ?_⟩
          rintro rfl
          exact hj (nodup_ix hN e1 (I.ok.inj _ _ _ e hc ▸ hi))
    · by_cases hcc : c' = c
      · subst hcc; exact ⟨_, hc'⟩
      · obtain ⟨w2, z2⟩ := I.cell y c' e
        exact ⟨w2, z2.sameBut hs hcc⟩
    · obtain ⟨e, n, ne, nf, d⟩ := I.pin p hp
      refine ⟨(hs.2 p.1 ?_).trans e, n, ne, nf, d⟩
      intro q
      rw [q, hoc] at e
      have q' : oc = p.2 := Option.some.inj e
      exact d w' (by rw [← q']; exact hocd)
theorem store_ok {M : Model} {A : Around} {E : Value → Shared → Prop} {i : Nat} {x : Str} {v : V} {u : Value} {Q : Unit → Shared → Prop} (I : Inv X pins σ H s) (hN : X.N.Nodup) (hi : X.N[i]? = some x) (hx : Loc X.env.scope x) (r : RelV v u)
    (h : ∀ s', Inv X pins (σ.set i (some v)) H s' → Q () s') (hf : X.fn x = true ∨ X.env.scope.names.lookup x = some .local := by first | exact .inl rfl | exact .inr rfl | assumption) : wpAny M A (storeName X.env x u) Q E s :=
  store_ok2 I hN hi hx r (fun s' I' _ => h s' I') hf
/-- behind a call or a block, the state as it is -/
theorem Inv.call' {s' : Shared} {ch : List Addr} (I : Inv X pins σ H s) (ho : s'.os = s.os) (u : Un (frs X.stack) ch H H' s.heap s'.heap) (hok : HOk X.prog X.w H' s'.heap) (hg : AllBare s'.gens)
    (hch : ∀ b ∈ ch, (b ∈ X.ex ∨ X.s₀.heap.objs.size ≤ b) ∧ b ≠ X.env.locals ∧ (∀ x c, X.env.cells.lookup x = some c → c ≠ b) ∧ ∀ p ∈ X.pn ++ pins, p.1 ≠ b) : Inv X pins σ H' s' := by
  obtain ⟨h', g', d', t', o'⟩ := s'
  have e : o' = s.os := ho
  subst e
  exact I.call (g' := g') (t' := t') (d' := d') u hok hg hch
end

/-! ### the judgements -/
/-- an exception: its class, its own dict's address (where it has one), the abstract heap behind it -/
abbrev XK := Value → Option Addr → Hp → Prop
abbrev St := List (Option V)
abbrev VK := V → Hp → Prop
/-- an expression's reading; a test's; an argument list's -/
abbrev TE := St → Hp → VK → Prop
abbrev TT := St → Hp → (Bool → Hp → Prop) → Prop
abbrev TA := St → Hp → (List V → Hp → Prop) → Prop
/-- what is wanted behind a statement -/
structure Ends where
  nx : St → Hp → Prop
  rt : VK
  bk : St → Hp → Prop := fun _ _ => False
  ct : St → Hp → Prop := fun _ _ => False
abbrev TS := Ends → St → Hp → Prop

def EP (X : Cx) (pins : List (Addr × Obj)) (σ : St) (Q : VK) (u : Value) (s' : Shared) : Prop := ∃ v H', Inv X pins σ H' s' ∧ RelV v u ∧ Q v H'
def TP (X : Cx) (pins : List (Addr × Obj)) (σ : St) (Q : Bool → Hp → Prop) (b : Bool) (s' : Shared) : Prop := ∃ H', Inv X pins σ H' s' ∧ Q b H'
def AP (X : Cx) (pins : List (Addr × Obj)) (σ : St) (Q : List V → Hp → Prop) (us : List Value) (s' : Shared) : Prop := ∃ vs H', Inv X pins σ H' s' ∧ Vals vs us ∧ Q vs H'
def SP (X : Cx) (pins : List (Addr × Obj)) (D : Ends) (f : Flow) (s' : Shared) : Prop :=
  match f with
  | .next => ∃ σ' H', Inv X pins σ' H' s' ∧ D.nx σ' H'
  | .brk => ∃ σ' H', Inv X pins σ' H' s' ∧ D.bk σ' H'
  | .cont => ∃ σ' H', Inv X pins σ' H' s' ∧ D.ct σ' H'
  | .ret u => ∃ v σ' H', Inv X pins σ' H' s' ∧ RelV v u ∧ D.rt v H'

def PE (X : Cx) (e : Expr) (t : TE) : Prop :=
  ∀ (pins : List (Addr × Obj)) (s : Shared) (σ : St) (H : Hp) (Q : VK), Inv X pins σ H s → t σ H Q → wpAny (model X.prog X.w) X.A (eval e X.env) (EP X pins σ Q) X.xe s
def PT (X : Cx) (e : Expr) (t : TT) : Prop :=
  ∀ (pins : List (Addr × Obj)) (s : Shared) (σ : St) (H : Hp) (Q : Bool → Hp → Prop), Inv X pins σ H s → t σ H Q → wpAny (model X.prog X.w) X.A (isTrue e X.env (eval e X.env)) (TP X pins σ Q) X.xe s
/-- a test whatever its 'whole' is (and, or) -/
def PW (X : Cx) (e : Expr) (t : TT) : Prop :=
  ∀ (whole : Sem Value) (pins : List (Addr × Obj)) (s : Shared) (σ : St) (H : Hp) (Q : Bool → Hp → Prop), Inv X pins σ H s → t σ H Q → wpAny (model X.prog X.w) X.A (isTrue e X.env whole) (TP X pins σ Q) X.xe s
theorem PW.pt {X : Cx} {e : Expr} {t : TT} (h : PW X e t) : PT X e t := h _
/-- an argument list (no star), from the left -/
def PA (X : Cx) (es : List Expr) (t : TA) : Prop :=
  ∀ (pos : Pos) (pins : List (Addr × Obj)) (s : Shared) (σ : St) (H : Hp) (Q : List V → Hp → Prop), Inv X pins σ H s → t σ H Q → wpAny (model X.prog X.w) X.A (spliced (backTo pos (starEach es X.env))) (AP X pins σ Q) X.xe s
def PS (X : Cx) (st : Stmt) (t : TS) : Prop :=
  ∀ (pins : List (Addr × Obj)) (s : Shared) (σ : St) (H : Hp) (D : Ends), Inv X pins σ H s → t D σ H → wpAny (model X.prog X.w) X.A (exec st X.env) (SP X pins D) X.xe s
def PSs (X : Cx) (st : List Stmt) (t : TS) : Prop :=
  ∀ (pins : List (Addr × Obj)) (s : Shared) (σ : St) (H : Hp) (D : Ends), Inv X pins σ H s → t D σ H → wpAny (model X.prog X.w) X.A (execs st X.env) (SP X pins D) X.xe s
/-- weaken the end -/
theorem thn {α : Type} {t : Sem α} {Q Q' : α → Shared → Prop} {M : Model} {A : Around} {E : Value → Shared → Prop} {s : Shared} (h : wpAny M A t Q E s) (hQ : ∀ a s, Q a s → Q' a s) : wpAny M A t Q' E s := wpAny_mono h hQ fun _ _ x => x
end L2

namespace L2
open PySem PySem.Spec PyProof.Rows
section
variable {X : Cx}


/-! ### names and constants -/
def tVar (i : Nat) : TE := fun σ H Q => ∃ v, σ[i]? = some (some v) ∧ Q v H
def tC (v : V) : TE := fun _ H Q => Q v H
theorem pe_var {i : Nat} {x : Str} {pos : Pos} (hN : X.N[i]? = some x) (hv : Vis X.env.scope x) (hd : (x == ("__debug__" : Str)) = false := by decide) (hcd : (x == ("__classdict__" : Str)) = false := by decide) : PE X (.Name x pos) (tVar i) := by
  intro pins s σ H Q I h
  obtain ⟨v, e, h⟩ := h
  obtain ⟨m, hn, hl⟩ := I.loc
  obtain ⟨u, r, l⟩ := hl i x v hN e hv
  have fin : EP X pins σ Q u s := ⟨v, H, I, r, h⟩
  rcases l with ⟨hk, hm⟩ | ⟨hk, c, hc, hcell⟩
  · exact wpAny_Name (wpAny_loadName_local I.ok.kind hk hn hm fin) hd
  · rcases hk with hk | hk
    · exact wpAny_Name (wpAny_loadName_cell I.ok.kind hk hc hcell fin) hd
    · exact wpAny_Name (wpAny_loadName_free I.ok.kind hk hc hcell fin hcd) hd
theorem pe_int {i j pos} : PE X (.Constant (.int i) j pos) (tC (.int i)) := fun _ _ _ H _ I h => wpAny_Constant_int ⟨.int i, H, I.tok _, ⟨_, rfl⟩, h⟩
theorem pe_bl {b j pos} : PE X (.Constant (.bool b) j pos) (tC (.bl b)) := fun _ _ _ H _ I h => Constant_bool ⟨.bl b, H, I, rfl, h⟩
theorem pe_non {j pos} : PE X (.Constant .none j pos) (tC .non) := fun _ _ _ H _ I h => Constant_none ⟨.non, H, I, rfl, h⟩
theorem pe_str {x j pos} : PE X (.Constant (.str x) j pos) (tC (.str x)) := fun _ _ _ H _ I h => Calls.Constant_str ⟨.str x, H, I.tok _, ⟨_, rfl⟩, h⟩

/-- a global name of the def -/
def Gl (X : Cx) (x : Str) : Prop := X.env.kindOf x = some .globalImplicit
theorem ld_glob {E : Value → Shared → Prop} {pins : List (Addr × Obj)} {s : Shared} {σ : St} {H : Hp} {x : Str} {u : Value} {pos : Pos} {Q : Value → Shared → Prop} (I : Inv X pins σ H s) (hg : Gl X x) (hm : X.mg x = some u) (h : Q u s)
    (hd : (x == ("__debug__" : Str)) = false := by decide) : wpAny (model X.prog X.w) X.A (eval (.Name x pos) X.env) Q E s :=
  Calls.Name_function_global I.ok.kind hg (Calls.loadGlobal_global (by rw [I.ok.glob]; exact I.mod.glob.keeps I.bk) hm h) hd
theorem ld_blt {E : Value → Shared → Prop} {pins : List (Addr × Obj)} {s : Shared} {σ : St} {H : Hp} {x : Str} {u : Value} {pos : Pos} {Q : Value → Shared → Prop} (I : Inv X pins σ H s) (hg : Gl X x) (hm : X.mg x = none) (hv : bootBuiltins x = some u) (h : Q u s)
    (hn : x ≠ "__name__" := by decide) (hd : (x == ("__debug__" : Str)) = false := by decide) : wpAny (model X.prog X.w) X.A (eval (.Name x pos) X.env) Q E s := by
  obtain ⟨mb, h1, h2⟩ := I.mod.blt
  exact Calls.Name_function_global I.ok.kind hg (Calls.loadGlobal_builtin (by rw [I.ok.glob]; exact I.mod.glob.keeps I.bk) hm (by rw [I.ok.blt]; exact h1.keeps I.bk) ((h2 x hn).trans hv) h) hd
/-- a module's constant, a class, a function, as a value -/
theorem pe_glob {x : Str} {v : V} {u : Value} {pos : Pos} (hg : Gl X x) (hm : X.mg x = some u) (r : RelV v u) (hd : (x == ("__debug__" : Str)) = false := by decide) : PE X (.Name x pos) (tC v) :=
  fun _ _ _ H _ I h => ld_glob I hg hm ⟨v, H, I, r, h⟩ hd
theorem pe_bltn {x : Str} {v : V} {u : Value} {pos : Pos} (hg : Gl X x) (hm : X.mg x = none) (hv : bootBuiltins x = some u) (r : RelV v u) (hn : x ≠ "__name__" := by decide) (hd : (x == ("__debug__" : Str)) = false := by decide) : PE X (.Name x pos) (tC v) :=
  fun _ _ _ H _ I h => ld_blt I hg hm hv ⟨v, H, I, r, h⟩ hn hd

/-! ### arithmetic -/
variable {a b : Expr} {ta tb : TE} {pos : Pos}

/-! ### comparisons -/
def PC (X : Cx) (op : CmpOp) (a b : Expr) (t : TE) : Prop :=
  ∀ (pins : List (Addr × Obj)) (s : Shared) (σ : St) (H : Hp) (Q : VK), Inv X pins σ H s → t σ H Q →
    wpAny (model X.prog X.w) X.A (eval a X.env) (fun v s₁ => wpAny (model X.prog X.w) X.A (eval b X.env) (fun u s₂ => wpAny (model X.prog X.w) X.A (compareOp op v u) (EP X pins σ Q) X.xe s₂) X.xe s₁) X.xe s
/-- a comparison as a value, as a test -/
def tB (t : TE) : TT := fun σ H Q => t σ H fun x H1 => ∃ c, x = .bl c ∧ Q c H1
/-- an expression whose value is a bool, as a test -/
theorem pt_val {e : Expr} {t : TE} (h : PE X e t) (he : ∀ whole, isTrue e X.env whole = (do let v ← whole; standAt e.pos; holding [v] (truthy v)) := by intro _; rfl) : PT X e (tB t) := by
  intro pins s σ H Q I hw
  refine isTrue_plain (thn (h pins s σ H _ I hw) fun v s1 ⟨x, H1, I1, r1, q1⟩ => ?_) (he _)
  obtain ⟨d, rfl, q⟩ := q1
  cases r1
  exact wpAny_truthy_bool ⟨H1, I1, q⟩

/-! ### and, or, not -/
variable {tA tB' : TT} {rest : List Expr}
def tAnd (t u : TT) : TT := fun σ H Q => t σ H fun c H1 => if c = true then u σ H1 Q else Q false H1
def tOr (t u : TT) : TT := fun σ H Q => t σ H fun c H1 => if c = true then Q true H1 else u σ H1 Q
def tNot (t : TT) : TT := fun σ H Q => t σ H fun c H1 => Q (!c) H1
theorem pw_and1 (ha : PT X a tA) : PW X (.BoolOp .And [a] pos) tA := by
  intro wh pins s σ H Q I h
  refine isTrue_and (thn (ha pins s σ H Q I h) fun c s1 e => ?_)
  cases c with
  | true => exact isTrue_and_nil e
  | false => exact e
theorem pw_or1 (ha : PT X a tA) : PW X (.BoolOp .Or [a] pos) tA := by
  intro wh pins s σ H Q I h
  refine isTrue_or (thn (ha pins s σ H Q I h) fun c s1 e => ?_)
  cases c with
  | false => exact isTrue_or_nil e
  | true => exact e
theorem pw_and (ha : PT X a tA) (hb : PW X (.BoolOp .And (b :: rest) pos) tB') : PW X (.BoolOp .And (a :: b :: rest) pos) (tAnd tA tB') := by
  intro wh pins s σ H Q I h
  refine isTrue_and (thn (ha pins s σ H _ I h) fun c s1 ⟨H1, I1, q1⟩ => ?_)
  cases c with
  | true => exact hb wh pins s1 σ H1 Q I1 q1
  | false => exact ⟨H1, I1, q1⟩
theorem pw_or (ha : PT X a tA) (hb : PW X (.BoolOp .Or (b :: rest) pos) tB') : PW X (.BoolOp .Or (a :: b :: rest) pos) (tOr tA tB') := by
  intro wh pins s σ H Q I h
  refine isTrue_or (thn (ha pins s σ H _ I h) fun c s1 ⟨H1, I1, q1⟩ => ?_)
  cases c with
  | true => exact ⟨H1, I1, q1⟩
  | false => exact hb wh pins s1 σ H1 Q I1 q1
theorem pt_not (ha : PT X a tA) : PT X (.UnaryOp .Not a pos) (tNot tA) := by
  intro pins s σ H Q I h
  exact isTrue_not (ha pins s σ H (fun c H1 => Q (!c) H1) I h)
/-- .. as values (bools) -/
def tAndV (ta tb : TE) : TE := fun σ H Q => ta σ H fun x H1 => ∃ c, x = .bl c ∧ if c = true then tb σ H1 Q else Q (.bl false) H1
def tNotV (ta : TE) : TE := fun σ H Q => ta σ H fun x H1 => ∃ c, x = .bl c ∧ Q (.bl (!c)) H1
theorem pe_one {op} {t : TE} (h : PE X a t) : PE X (.BoolOp op [a] pos) t := fun pins s σ H Q I hw => BoolOp_one (h pins s σ H Q I hw)
theorem pe_and (ha : PE X a ta) (hb : PE X (.BoolOp .And (b :: rest) pos) tb) : PE X (.BoolOp .And (a :: b :: rest) pos) (tAndV ta tb) := by
  intro pins s σ H Q I h
  refine BoolOp_and (thn (ha pins s σ H _ I h) fun v s1 ⟨x, H1, I1, r1, q1⟩ => ?_)
  obtain ⟨c, rfl, q1⟩ := q1
  cases r1
  refine wpAny_truthy_bool ?_
  cases c with
  | true => exact hb pins s1 σ H1 Q I1 q1
  | false => exact ⟨.bl false, H1, I1, rfl, q1⟩
theorem pe_not (ha : PE X a ta) : PE X (.UnaryOp .Not a pos) (tNotV ta) := by
  intro pins s σ H Q I h
  refine UnaryOp_ (thn (ha pins s σ H _ I h) fun v s1 ⟨x, H1, I1, r1, q1⟩ => ?_)
  obtain ⟨c, rfl, q1⟩ := q1
  cases r1
  exact not_of (wpAny_truthy_bool ⟨.bl (!c), H1, I1, rfl, q1⟩)
/-- a if t else b -/
def tIf (t : TT) (ta tb : TE) : TE := fun σ H Q => t σ H fun c H1 => if c = true then ta σ H1 Q else tb σ H1 Q
theorem pe_ifExp {c : Expr} (hc : PT X c tA) (ha : PE X a ta) (hb : PE X b tb) : PE X (.IfExp c a b pos) (tIf tA ta tb) := by
  intro pins s σ H Q I h
  refine wpAny_IfExp (thn (hc pins s σ H _ I h) fun d s1 ⟨H1, I1, q1⟩ => ?_)
  cases d with
  | true => exact ha pins s1 σ H1 Q I1 q1
  | false => exact hb pins s1 σ H1 Q I1 q1
end
end L2

namespace L2
open PySem PySem.Spec PyProof.Rows

/-! ### a list, a tuple that is read: tracked, frozen, or an object of the module -/
def SqL (K : PySem.W.Frag) (H : Hp) (a : Addr) (xs : List V) : Prop :=
  Rd H a (.lst xs) ∨
    ∃ (o : Obj) (its : Array Value) (n : Nat), K.lookup a = some o ∧ o.cls = .type "list" ∧ o.dict = none ∧ o.data = .seq its n ∧ its.size ≤ sizeLine ∧ Vals xs its.toList
def SqT (K : PySem.W.Frag) (H : Hp) (a : Addr) (xs : List V) : Prop :=
  Rd H a (.tup xs) ∨
    ∃ (o : Obj) (its : Array Value) (n : Nat), K.lookup a = some o ∧ o.cls = .type "tuple" ∧ o.data = .seq its n ∧ its.size ≤ sizeLine ∧ Vals xs its.toList
def absV : Value → Option V
  | .none => some .non
  | .bool b => some (.bl b)
  | .int i _ => some (.int i)
  | .str x _ => some (.str x)
  | .bytes b _ => some (.byt b)
  | .float b _ => some (.flt b)
  | .ref a => some (.ref a)
  | .type n => some (.ty n)
  | _ => none
theorem RelV.abs {x : V} {u : Value} (r : RelV x u) : absV u = some x := by
  cases x with
  | non => cases r; rfl
  | bl _ => cases r; rfl
  | int _ => obtain ⟨t, rfl⟩ := r; rfl
  | str _ => obtain ⟨t, rfl⟩ := r; rfl
  | byt _ => obtain ⟨t, rfl⟩ := r; rfl
  | flt _ => obtain ⟨t, rfl⟩ := r; rfl
  | ref _ => cases r; rfl
  | ty _ => cases r; rfl
theorem RelV.inj {x y : V} {u : Value} (r : RelV x u) (q : RelV y u) : x = y := Option.some.inj (r.abs.symm.trans q.abs)
theorem Vals.inj : ∀ {xs ys : List V} {us : List Value}, Vals xs us → Vals ys us → xs = ys
  | _, _, _, .nil, .nil => rfl
  | _, _, _, .cons r t, .cons r' t' => by rw [r.inj r', Vals.inj t t']
section
variable {X : Cx} {pins : List (Addr × Obj)} {σ : St} {H : Hp} {s : Shared} {a : Addr} {xs ys : List V}
theorem SqL.of {K : PySem.W.Frag} (h : H a = some (.lst xs)) : SqL K H a xs := .inl (.inl h)
theorem SqT.of {K : PySem.W.Frag} (h : H a = some (.tup xs)) : SqT K H a xs := .inl (.inl h)
theorem Inv.list (I : Inv X pins σ H s) (h : SqL X.K H a xs) : ∃ its : List Value, Vals xs its ∧ PlainL s.heap a its.toArray ∧ xs.length ≤ sizeLine := by
  rcases h with h | ⟨o, its, n, hk, hc, hd, hs, hz, r⟩
  · obtain ⟨z, its, n, r, e⟩ := h.ok I.hok
    exact ⟨its, r, ⟨_, n, e, rfl, rfl, rfl⟩, z⟩
  · refine ⟨its.toList, r, ⟨o, n, I.kIn a o hk, hc, hd, by simpa using hs⟩, ?_⟩
    have e := r.length
    simp only [Array.length_toList] at e
    omega
theorem Inv.tuple (I : Inv X pins σ H s) (h : SqT X.K H a xs) : ∃ its : List Value, Vals xs its ∧ IsTup s.heap a its.toArray ∧ xs.length ≤ sizeLine := by
  rcases h with h | ⟨o, its, n, hk, hc, hs, hz, r⟩
  · obtain ⟨z, its, r, p⟩ := h.ok I.hok
    exact ⟨its, r, p, z⟩
  · refine ⟨its.toList, r, ⟨o, I.kIn a o hk, hc, n, by simpa using hs⟩, ?_⟩
    have e := r.length
    simp only [Array.length_toList] at e
    omega
theorem Inv.list_inj (I : Inv X pins σ H s) (h : SqL X.K H a xs) (h' : SqL X.K H a ys) : xs = ys := by
  obtain ⟨its, r, ⟨o, n, e, _, _, d⟩, _⟩ := I.list h
  obtain ⟨its', r', ⟨o', n', e', _, _, d'⟩, _⟩ := I.list h'
  rw [e] at e'; cases e'
  rw [d] at d'
  injection d' with d1 _
  have : its = its' := by simpa using congrArg Array.toList d1
  subst this
  exact r.inj r'
theorem Inv.tuple_inj (I : Inv X pins σ H s) (h : SqT X.K H a xs) (h' : SqT X.K H a ys) : xs = ys := by
  obtain ⟨its, r, ⟨o, e, _, n, d⟩, _⟩ := I.tuple h
  obtain ⟨its', r', ⟨o', e', _, n', d'⟩, _⟩ := I.tuple h'
  rw [e] at e'; cases e'
  rw [d] at d'
  injection d' with d1 _
  have : its = its' := by simpa using congrArg Array.toList d1
  subst this
  exact r.inj r'
end

/-! ### another wish about exceptions -/
abbrev Cx.wish (X : Cx) (E : Value → Shared → Prop) : Cx := { X with xe := E }
/-- no exception leaves -/
abbrev Cx.nox (X : Cx) : Cx := X.wish fun _ _ => False
theorem Cx.Ok.wish {X : Cx} (ok : X.Ok) (E : Value → Shared → Prop) : (X.wish E).Ok :=
  ⟨ok.mod, ok.kind, ok.glob, ok.blt, ok.above, ok.inj, ok.has, ok.cab, ok.hd, ok.frames, ok.stk, ok.exf, ok.bs, ok.bsz, ok.noex, ok.exfs, ok.funs, ok.frf⟩
theorem Cx.Ok.unwish {X : Cx} {E : Value → Shared → Prop} (ok : (X.wish E).Ok) : X.Ok :=
  ⟨ok.mod, ok.kind, ok.glob, ok.blt, ok.above, ok.inj, ok.has, ok.cab, ok.hd, ok.frames, ok.stk, ok.exf, ok.bs, ok.bsz, ok.noex, ok.exfs, ok.funs, ok.frf⟩
section
variable {X : Cx} {pins : List (Addr × Obj)} {σ : St} {H : Hp} {s : Shared} {E : Value → Shared → Prop}
theorem Inv.wish (I : Inv X pins σ H s) (E : Value → Shared → Prop) : Inv (X.wish E) pins σ H s := ⟨I.ok.wish E, I.os, I.bare, I.base, I.loc, I.cell, I.free, I.freeC, I.pin, I.hok, I.len⟩
theorem Inv.unwish (I : Inv (X.wish E) pins σ H s) : Inv X pins σ H s := ⟨I.ok.unwish, I.os, I.bare, I.base, I.loc, I.cell, I.free, I.freeC, I.pin, I.hok, I.len⟩
theorem SP.unwish {D : Ends} {f : Flow} {s' : Shared} (h : SP (X.wish E) pins D f s') : SP X pins D f s' := by
  cases f with
  | next => obtain ⟨σ', H', I, q⟩ := h; exact ⟨σ', H', I.unwish, q⟩
  | brk => obtain ⟨σ', H', I, q⟩ := h; exact ⟨σ', H', I.unwish, q⟩
  | cont => obtain ⟨σ', H', I, q⟩ := h; exact ⟨σ', H', I.unwish, q⟩
  | ret u => obtain ⟨v, σ', H', I, r, q⟩ := h; exact ⟨v, σ', H', I.unwish, r, q⟩
theorem PSs.nox {st : List Stmt} {t : TS} (h : PSs X.nox st t) : PSs X st t := fun pins s σ H D I hw =>
  wpAny_mono (h pins s σ H D (I.wish _) hw) (fun _ _ q => q.unwish) fun _ _ z => False.elim z
end

/-! ### blocks and small statements -/
section
variable {X : Cx} {st : Stmt} {rest : List Stmt} {t u : TS} {e : Expr} {te : TE} {pos : Pos}
def tNext : TS := fun D σ H => D.nx σ H
def tSeq (t u : TS) : TS := fun D σ H => t { D with nx := u D } σ H
theorem pss_nil : PSs X [] tNext := fun _ _ σ H _ I h => wpAny_execs_nil ⟨σ, H, I, h⟩
theorem pss_cons (h1 : PS X st t) (h2 : PSs X rest u) : PSs X (st :: rest) (tSeq t u) := by
  intro pins s σ H D I h
  refine wpAny_execs_cons (thn (h1 pins s σ H { D with nx := u D } I h) fun f s1 q => ?_)
  cases f with
  | next =>
    obtain ⟨σ', H', I', q⟩ := q
    exact h2 pins s1 σ' H' D I' q
  | ret v => exact q
  | brk => exact q
  | cont => exact q
theorem pss_one (h1 : PS X st t) : PSs X [st] t := by
  intro pins s σ H D I h
  refine wpAny_execs_cons (thn (h1 pins s σ H D I h) fun f s1 q => ?_)
  cases f with
  | next => exact wpAny_execs_nil q
  | ret v => exact q
  | brk => exact q
  | cont => exact q
/-- in a def's body nothing is shown -/
theorem Inv.quiet {pins : List (Addr × Obj)} {σ : St} {H : Hp} {s : Shared} (I : Inv X pins σ H s) : interactive X.env = false := by simp [interactive, I.ok.kind]
/-- an expression whose value is dropped -/
def tDrop (te : TE) : TS := fun D σ H => te σ H fun _ H1 => D.nx σ H1
theorem ps_expr (he : PE X e te) (hs : swapsWith e none pos.line X.env = pure false := by rfl) : PS X (.Expr e pos) (tDrop te) := by
  intro pins s σ H D I h
  exact wpAny_Expr_any (thn (he pins s σ H _ I h) fun v s1 ⟨x, H1, I1, r1, q1⟩ => ⟨σ, H1, I1, q1⟩) I.quiet hs
def tRet (te : TE) : TS := fun D σ H => te σ H D.rt
theorem ps_ret (he : PE X e te) : PS X (.Return (some e) pos) (tRet te) := by
  intro pins s σ H D I h
  exact wpAny_Return_some (thn (he pins s σ H _ I h) fun v s1 ⟨x, H1, I1, r1, q1⟩ => ⟨x, σ, H1, I1, r1, q1⟩)
def tIfS (c : TT) (t u : TS) : TS := fun D σ H => c σ H fun b H1 => if b = true then t D σ H1 else u D σ H1
theorem ps_if {c : Expr} {a b : List Stmt} {tc : TT} (hc : PT X c tc) (ha : PSs X a t) (hb : PSs X b u) : PS X (.If c a b pos) (tIfS tc t u) := by
  intro pins s σ H D I h
  refine wpAny_If (thn (hc pins s σ H _ I h) fun d s1 ⟨H1, I1, q1⟩ => ?_)
  cases d with
  | true => exact ha pins s1 σ H1 D I1 q1
  | false => exact hb pins s1 σ H1 D I1 q1
/-- code that the proof never comes to -/
def tNever : TS := fun _ _ _ => False
theorem ps_never : PS X st tNever := fun _ _ _ _ _ _ h => h.elim
end

/-! ### targets -/
abbrev TG := V → St → Hp → (St → Hp → Prop) → Prop
abbrev TGs := List V → St → Hp → (St → Hp → Prop) → Prop
def PG (X : Cx) (target : Expr) (t : TG) : Prop :=
  ∀ (pins : List (Addr × Obj)) (s : Shared) (σ : St) (H : Hp) (v : V) (u : Value) (Q : St → Hp → Prop), Inv X pins σ H s → RelV v u → t v σ H Q →
    wpAny (model X.prog X.w) X.A (assign target X.env u) (fun _ s' => ∃ σ' H', Inv X pins σ' H' s' ∧ Q σ' H') X.xe s
/-- several targets, one after another -/
def PGs (X : Cx) (ts : List Expr) (t : TGs) : Prop :=
  ∀ (pins : List (Addr × Obj)) (s : Shared) (σ : St) (H : Hp) (vs : List V) (us : List Value) (Q : St → Hp → Prop), Inv X pins σ H s → Vals vs us → t vs σ H Q →
    wpAny (model X.prog X.w) X.A (assignInOrder ((assignEach ts X.env).map (·.2)) us) (fun _ s' => ∃ σ' H', Inv X pins σ' H' s' ∧ Q σ' H') X.xe s
/-- o[i] = v, by values -/
abbrev TSet := V → V → V → Hp → (Hp → Prop) → Prop
def PSet (X : Cx) (t : TSet) : Prop :=
  ∀ (pins : List (Addr × Obj)) (s : Shared) (σ : St) (H : Hp) (o i v : V) (ov iv u : Value) (Q : Hp → Prop), Inv X pins σ H s → RelV o ov → RelV i iv → RelV v u → t o i v H Q →
    wpAny (model X.prog X.w) X.A (setItem ov iv u) (fun _ s' => ∃ H', Inv X pins σ H' s' ∧ Q H') X.xe s
/-- a op= b, by values -/
abbrev TIp := V → V → Hp → VK → Prop
def PIp (X : Cx) (op : Operator) (t : TIp) : Prop :=
  ∀ (pins : List (Addr × Obj)) (s : Shared) (σ : St) (H : Hp) (x y : V) (v u : Value) (Q : VK), Inv X pins σ H s → RelV x v → RelV y u → t x y H Q →
    wpAny (model X.prog X.w) X.A (inplaceOp op v u) (EP X pins σ Q) X.xe s
section
variable {X : Cx} {pos : Pos}
def gName (i : Nat) : TG := fun v σ H Q => Q (σ.set i (some v)) H
theorem pg_name {i : Nat} {x : Str} (hN : X.N.Nodup) (hi : X.N[i]? = some x) (hx : Loc X.env.scope x) (hf : X.fn x = true ∨ X.env.scope.names.lookup x = some .local := by first | exact .inl rfl | exact .inr rfl | assumption) : PG X (.Name x pos) (gName i) := by
  intro pins s σ H v u Q I r h
  exact wpAny_assign_Name (store_ok I hN hi hx r (fun s' I' => ⟨_, H, I', h⟩) hf)
def gNil : TGs := fun vs σ H Q => vs = [] ∧ Q σ H
def gCons (t : TG) (u : TGs) : TGs := fun vs σ H Q => ∃ v r, vs = v :: r ∧ t v σ H fun σ' H' => u r σ' H' Q
theorem pgs_nil : PGs X [] gNil := by
  intro pins s σ H vs us Q I r h
  obtain ⟨e, h⟩ := h
  subst e
  cases r
  exact assignInOrder_nil ⟨σ, H, I, h⟩
theorem pgs_cons {e : Expr} {es : List Expr} {t : TG} {u : TGs} (h1 : PG X e t) (h2 : PGs X es u)
    (hs : (assignEach (e :: es) X.env).map (·.2) = assign e X.env :: (assignEach es X.env).map (·.2) := by rfl) : PGs X (e :: es) (gCons t u) := by
  intro pins s σ H vs us Q I r h
  obtain ⟨v, vr, e1, h⟩ := h
  subst e1
  cases r with
  | cons r rr =>
    rw [hs]
    refine assignInOrder_cons (thn (h1 pins s σ H _ _ _ I r h) fun _ s1 ⟨σ1, H1, I1, q1⟩ => ?_)
    exact h2 pins s1 σ1 H1 _ _ Q I1 rr q1
/-- (a, b, ..) = a tuple of that length -/
def gTup (K : PySem.W.Frag) (n : Nat) (t : TGs) : TG := fun v σ H Q => ∃ a xs, v = .ref a ∧ SqT K H a xs ∧ xs.length = n ∧ t xs σ H Q
theorem pg_tup {es : List Expr} {k : Nat} {t : TGs} {n : Nat} (hc : X.calm = true) (h : PGs X es t)
    (hn : (assignEach es X.env).length = n := by rfl) (hst : (assignEach es X.env).findIdx? (·.1) = none := by rfl) : PG X (.Tuple es k pos) (gTup X.K n t) := by
  intro pins s σ H v u Q I r hw
  obtain ⟨a, xs, e1, hq, hl, hw⟩ := hw
  subst e1
  cases r
  obtain ⟨its, rv, ht, hz⟩ := I.tuple hq
  refine assign_Tuple_tuple (I.ok.hd hc) ht (by simp [hn, ← hl, rv.length]) hst fun h' hx => ?_
  have I1 : Inv X pins σ H { s with heap := h' } := I.kept (t' := s.toks) fun b o e => hx b o (Nat.ne_of_lt (Heap.lt_size e)) e
  exact h pins _ σ H xs _ Q I1 (by simpa using rv) hw
/-- target = value -/
def tAsg (te : TE) (g : TG) : TS := fun D σ H => te σ H fun x H1 => g x σ H1 D.nx
theorem ps_asg {tg e : Expr} {te : TE} {g : TG} (he : PE X e te) (hg : PG X tg g) (hs : swapsWithSole [tg] e pos.line X.env = pure false := by rfl) (hw : swappedStores [tg] e X.env = pure none := by rfl)
    (h1 : (assignEach [tg] X.env).map (·.2) = [assign tg X.env] := by rfl) : PS X (.Assign [tg] e pos) (tAsg te g) := by
  intro pins s σ H D I h
  refine wpAny_Assign_stores (thn (he pins s σ H _ I h) fun v s1 ⟨x, H1, I1, r1, q1⟩ => ?_) hs hw
  rw [h1]
  exact thn (hg pins s1 σ H1 x v _ I1 r1 q1) fun _ s2 q => q
/-- name = value -/
theorem ps_set {i : Nat} {x : Str} {e : Expr} {te : TE} {pos' : Pos} (hN : X.N.Nodup) (hi : X.N[i]? = some x) (hx : Loc X.env.scope x) (he : PE X e te) (hs : swapsWith e (some (.Name x pos')) pos.line X.env = pure false := by rfl) (hf : X.fn x = true ∨ X.env.scope.names.lookup x = some .local := by first | exact .inl rfl | exact .inr rfl | assumption) :
    PS X (.Assign [.Name x pos'] e pos) (tAsg te (gName i)) := by
  intro pins s σ H D I h
  refine wpAny_Assign_Name (thn (he pins s σ H _ I h) fun v s1 ⟨y, H1, I1, r1, q1⟩ => ?_) hs
  exact store_ok I1 hN hi hx r1 (fun s2 I2 => ⟨_, H1, I2, q1⟩) hf
/-- name op= e -/
def tAug (i : Nat) (te : TE) (ti : TIp) : TS := fun D σ H => ∃ x, σ[i]? = some (some x) ∧ te σ H fun y H1 => ti x y H1 fun z H2 => D.nx (σ.set i (some z)) H2
theorem ps_aug {i : Nat} {x : Str} {e : Expr} {te : TE} {op : Operator} {ti : TIp} {pos' : Pos} (hN : X.N.Nodup) (hi : X.N[i]? = some x) (hx : Loc X.env.scope x) (he : PE X e te) (ho : PIp X op ti) (hf : X.fn x = true ∨ X.env.scope.names.lookup x = some .local := by first | exact .inl rfl | exact .inr rfl | assumption) :
    PS X (.AugAssign (.Name x pos') op e pos) (tAug i te ti) := by
  intro pins s σ H D I h
  obtain ⟨v, e1, h⟩ := h
  obtain ⟨m, hn, hl⟩ := I.loc
  have vis : Vis X.env.scope x := by rcases hx with k | k; exact .inl k; exact .inr (.inl k)
  obtain ⟨u, r, l⟩ := hl i x v hi e1 vis
  refine wpAny_AugAssign_Name ?_
  have go : wpAny (model X.prog X.w) X.A (eval e X.env) (fun w s₂ => wpAny (model X.prog X.w) X.A (inplaceOp op u w) (fun r s₃ => wpAny (model X.prog X.w) X.A (storeName X.env x r) (fun _ => SP X pins D .next) X.xe s₃) X.xe s₂) X.xe s := by
    refine thn (he pins s σ H _ I h) fun w s1 ⟨y, H1, I1, r1, q1⟩ => ?_
    refine thn (ho pins s1 σ H1 v y u w _ I1 r r1 q1) fun z s2 ⟨zv, H2, I2, r2, q2⟩ => ?_
    exact store_ok I2 hN hi hx r2 (fun s3 I3 => ⟨_, H2, I3, q2⟩) hf
  rcases l with ⟨hk, hm⟩ | ⟨hk, c, hc, hcell⟩
  · exact wpAny_loadName_local I.ok.kind hk hn hm go
  · rcases hk with hk | hk
    · exact wpAny_loadName_cell I.ok.kind hk hc hcell go
    · rcases hx with k | k
      · have : X.env.scope.names.lookup x = some .free := hk
        rw [k] at this; cases this
      · have : X.env.scope.names.lookup x = some .free := hk
        rw [k] at this; cases this
/-- o[i], by values -/
def PGet (X : Cx) (t : V → V → Hp → VK → Prop) : Prop :=
  ∀ (pins : List (Addr × Obj)) (s : Shared) (σ : St) (H : Hp) (o i : V) (ov iv : Value) (Q : VK), Inv X pins σ H s → RelV o ov → RelV i iv → t o i H Q →
    wpAny (model X.prog X.w) X.A (getItem ov iv) (EP X pins σ Q) X.xe s
/-- ints -/
def ipI (f : Int → Int → Int) : TIp := fun x y H Q => ∃ i j, x = .int i ∧ y = .int j ∧ Q (.int (f i j)) H
theorem ip_add : PIp X .Add (ipI fun i j => i + j) := by
  intro pins s σ H x y v u Q I r1 r2 h
  obtain ⟨i, j, e1, e2, q⟩ := h
  subst e1; subst e2
  obtain ⟨t, rfl⟩ := r1
  obtain ⟨t', rfl⟩ := r2
  exact iadd_int ⟨.int _, H, I.tok _, ⟨_, rfl⟩, q⟩
end

/-! ### while -/
section
variable {X : Cx} {pos : Pos}
/-- the invariant W with its measure -/
def tWhile (c : TT) (tb : TS) : TS := fun D σ H => ∃ W : Nat → St → Hp → Prop, (∃ m, W m σ H) ∧ ∀ m σ H, W m σ H →
  c σ H fun b H1 => if b = true then ∃ N : St → Hp → Prop, (∀ σ' H', N σ' H' → ∃ m', m' < m ∧ W m' σ' H') ∧ tb { D with nx := N, ct := N, bk := D.nx } σ H1 else D.nx σ H1
theorem ps_while {c : Expr} {body : List Stmt} {tc : TT} {tb : TS} (hp : PassesOwn (model X.prog X.w) X.A X.env X.xe) (hc : PT X c tc) (hb : PSs X body tb) : PS X (.While c body [] pos) (tWhile tc tb) := by
  intro pins s σ H D I h
  obtain ⟨W, ⟨m0, w0⟩, turn⟩ := h
  refine wpAny_While (codeAny_whileLoop (fun n s' => ∃ σ' H', Inv X pins σ' H' s' ∧ W n σ' H') ?_ m0 ⟨σ, H, I, w0⟩)
  rintro n s1 ⟨σ1, H1, I1, w1⟩
  refine wpAny_passesOwn hp (thn (hc pins s1 σ1 H1 _ I1 (turn n σ1 H1 w1)) fun b s2 ⟨H2, I2, q2⟩ => ?_)
  cases b with
  | true =>
    obtain ⟨N, hN, q2⟩ := q2
    rw [if_pos rfl]
    refine wpAny_passesOwn hp (thn (hb pins s2 σ1 H2 _ I2 q2) fun f s3 q3 => ?_)
    cases f with
    | next =>
      obtain ⟨σ3, H3, I3, n3⟩ := q3
      obtain ⟨m', hm, w3⟩ := hN σ3 H3 n3
      exact ⟨m', hm, σ3, H3, I3, w3⟩
    | cont =>
      obtain ⟨σ3, H3, I3, n3⟩ := q3
      obtain ⟨m', hm, w3⟩ := hN σ3 H3 n3
      exact ⟨m', hm, σ3, H3, I3, w3⟩
    | brk => exact q3
    | ret v => exact q3
  | false =>
    rw [if_neg Bool.false_ne_true]
    exact wpAny_execs_nil ⟨σ1, H2, I2, q2⟩
end

/-! ### what a loop or a comprehension walks -/
/-- at turn i: it yields x (the heap may grow), or it stops -/
structure It where
  go : Nat → Hp → Prop
  yld : Nat → Hp → V → Hp → Prop
  stop : Nat → Hp → Prop
/-- the iterator's own objects may turn: they are not the frame's, not pinned, younger than the entry (or a comprehension's own) -/
def FpOk (X : Cx) (pins : List (Addr × Obj)) (H : Hp) (b : Addr) : Prop :=
  H b = none ∧ b ≠ X.env.locals ∧ b ∉ X.fs ∧ (b ∈ X.ex ∨ X.s₀.heap.objs.size ≤ b) ∧ (∀ x c, X.env.cells.lookup x = some c → c ≠ b) ∧ ∀ p ∈ X.pn ++ pins, p.1 ≠ b
theorem Inv.fpOk {X : Cx} {pins : List (Addr × Obj)} {σ : St} {H H' : Hp} {s : Shared} {b : Addr} (I : Inv X pins σ H s) (hb : s.heap.objs.size ≤ b) (hn : H' b = none) : FpOk X pins H' b := by
  refine ⟨hn, Nat.ne_of_gt (Nat.lt_of_lt_of_le I.lt hb), I.nofs hb, .inr (Nat.le_trans I.sz hb), fun x c e z => ?_, fun p hp z => ?_⟩
  · obtain ⟨v, q⟩ := I.cell x c e
    exact absurd (Nat.lt_of_lt_of_le q.lt (by rw [z]; exact hb)) (Nat.lt_irrefl _)
  · exact absurd (Nat.lt_of_lt_of_le (Heap.lt_size (I.pin p hp).1) (by rw [z]; exact hb)) (Nat.lt_irrefl _)
structure Turn (P : Program) (w : World) (K : PySem.W.Frag) (tg : Expr) (J : It) (fp : List Addr) (it : Addr) (tn : Nat → Heap → Prop) : Prop where
  mem : it ∈ fp
  obj : ∀ i h, tn i h → ∀ b ∈ fp, ∃ o, h.get? b = some o ∧ ∀ v, o.data ≠ .cell v
  keep : ∀ i h h', tn i h → (∀ b ∈ fp, ∀ o, h.get? b = some o → h'.get? b = some o) → tn i h'
  item : ∀ (X : Cx), X.prog = P → X.w = w → X.K = K → X.calm = true → ∀ (i : Nat) (pins : List (Addr × Obj)) (s : Shared) (σ : St) (H : Hp) (E : Value → Shared → Prop), Inv X pins σ H s → (∀ b ∈ fp, FpOk X pins H b) → tn i s.heap → J.go i H →
    wpAny (model P w) X.A (pyNext (.ref it)) (fun r s1 => ∃ u, r = some u ∧
      wpAny (model P w) X.A (letOwnedTupleGo tg (.ref it) u) (fun _ s2 => ∃ x H', Inv X pins σ H' s2 ∧ RelV x u ∧ J.yld i H x H' ∧ tn (i + 1) s2.heap ∧ ∀ b ∈ fp, H' b = none) E s1) E s
  done : ∀ (X : Cx), X.prog = P → X.w = w → X.K = K → X.calm = true → ∀ (i : Nat) (pins : List (Addr × Obj)) (s : Shared) (σ : St) (H : Hp) (E : Value → Shared → Prop), Inv X pins σ H s → (∀ b ∈ fp, FpOk X pins H b) → tn i s.heap → J.stop i H →
    wpAny (model P w) X.A (pyNext (.ref it)) (fun r s1 => r = none ∧ Inv X pins σ H s1) E s
  self : ∀ (A : Around) (i : Nat) (s : Shared) (Q : Value → Shared → Prop) (E : Value → Shared → Prop), tn i s.heap → Q (.ref it) s → wpAny (model P w) A (pyIter (.ref it)) Q E s
abbrev TI := St → Hp → (It → Hp → Prop) → Prop
/-- an iterator has come -/
def PIE (X : Cx) (pins : List (Addr × Obj)) (σ : St) (tg : Expr) (R : It → Hp → Prop) (itv : Value) (s2 : Shared) : Prop :=
  ∃ (it : Addr) (fp : List Addr) (tn : Nat → Heap → Prop) (J : It) (H' : Hp), itv = .ref it ∧ Inv X pins σ H' s2 ∧ Turn X.prog X.w X.K tg J fp it tn ∧ tn 0 s2.heap ∧ (∀ b ∈ fp, FpOk X pins H' b) ∧ R J H'
def PI (X : Cx) (tg iter : Expr) (wi : TI) : Prop :=
  ∀ (pins : List (Addr × Obj)) (s : Shared) (σ : St) (H : Hp) (R : It → Hp → Prop), Inv X pins σ H s → wi σ H R →
    wpAny (model X.prog X.w) X.A (eval iter X.env) (fun v s1 => wpAny (model X.prog X.w) X.A (pyIter v) (PIE X pins σ tg R) X.xe s1) X.xe s

/-- the step ahead of the store is nothing for an iterator that keeps no tuple -/
theorem go_of {M : Model} {A : Around} {E : Value → Shared → Prop} {s : Shared} {tg : Expr} {it : Addr} {u : Value} {o : Obj} {n : String} {vs : Array Value} {Q : Unit → Shared → Prop} (ho : s.heap.get? it = some o) (hc : o.cls = .type n) (hd : o.data = .fields vs)
    (hn : ["enumerate", "zip", "dict_itemiterator", "dict_reverseitemiterator", "odict_iterator", "itertools.zip_longest", "itertools.pairwise"].contains n = false) (hQ : Q () s) : wpAny M A (letOwnedTupleGo tg (.ref it) u) Q E s := by
  unfold letOwnedTupleGo
  cases tg <;> first
    | exact wpAny_pure hQ
    | (cases u <;> first
        | exact wpAny_pure hQ
        | (refine wpAny_bind (wpAny_load ho ?_)
           rw [hc, hd]
           show wpAny M A (if (["enumerate", "zip", "dict_itemiterator", "dict_reverseitemiterator", "odict_iterator", "itertools.zip_longest", "itertools.pairwise"].contains n && vs[0]? == some (rawInt _)) = true then _ else _) Q E s
           rw [if_neg (by intro h; rw [hn, Bool.false_and] at h; cases h)]
           exact wpAny_pure hQ))

/-- the list at a, as it stands at each turn (a loop may append to it) -/
def Itl (K : PySem.W.Frag) (a : Addr) : It :=
  ⟨fun i H => ∃ xs x, SqL K H a xs ∧ xs[i]? = some x, fun i H x H' => H' = H ∧ ∀ xs, SqL K H a xs → xs[i]? = some x, fun i H => ∃ xs, SqL K H a xs ∧ xs.length ≤ i⟩
/-- lo, lo + 1, .. (n of them) -/
def Itr (lo : Int) (n : Nat) : It := ⟨fun i _ => i < n, fun i H x H' => H' = H ∧ x = .int (lo + i), fun i _ => n ≤ i⟩
theorem turn_list {P : Program} {w : World} {K : PySem.W.Frag} {tg : Expr} (a it : Addr) : Turn P w K tg (Itl K a) [it] it (fun i h => h.IsListIter it a i) where
  mem := by simp
  obj := fun i h st b hb => by
    have e : b = it := by simpa using hb
    subst e
    obtain ⟨o, e, c, d⟩ := st
    exact ⟨o, e, fun v z => by rw [d] at z; cases z⟩
  keep := fun i h h' st k => st.at fun o e => k it (by simp) o e
  item := by
    intro X hP hw hK hc i pins s σ H E I hf st hg
    subst hP hw hK
    obtain ⟨xs, x, hq, hx⟩ := hg
    obtain ⟨its, rv, p, hz⟩ := I.list hq
    obtain ⟨u, hu, ru⟩ := rv.get hx
    obtain ⟨f0, f1, f2, f3, f4, f5⟩ := hf it (by simp)
    refine wpAny_pyNext_list_item st p.isList (x := u) (by simpa using hu) fun h' st' sb => ?_
    have I1 : Inv X pins σ H { s with heap := h' } := I.turned (t' := s.toks) (fun b o hb e => (sb.2 b hb).trans e) f0 f1 f3 f4 f5
    obtain ⟨o, e, c, d⟩ := id st'
    exact ⟨u, rfl, go_of (s := { s with heap := h' }) e c d (by decide) ⟨x, H, I1, ru, ⟨rfl, fun ys hy => by rw [I.list_inj hy hq]; exact hx⟩, st', fun b hb => (hf b hb).1⟩⟩
  done := by
    intro X hP hw hK hc i pins s σ H E I hf st hg
    subst hP hw hK
    obtain ⟨xs, hq, hx⟩ := hg
    obtain ⟨its, rv, p, hz⟩ := I.list hq
    obtain ⟨f0, f1, f2, f3, f4, f5⟩ := hf it (by simp)
    have hl := rv.length
    exact wpAny_pyNext_list_end (I.ok.hd hc) st p.isList (by simp; omega) fun h' eb => ⟨rfl, I.turned (t' := s.toks) (fun b o hb e => eb b o hb e) f0 f1 f3 f4 f5⟩
  self := fun _ _ _ _ _ st h => wpAny_pyIter_listiter st h
theorem turn_range {P : Program} {w : World} {K : PySem.W.Frag} {tg : Expr} (it : Addr) (lo : Int) (n : Nat) : Turn P w K tg (Itr lo n) [it] it (fun i h => IsRangeIter h it (lo + (i : Nat) * 1) ((n : Int) - (i : Nat)) 1) where
  mem := by simp
  obj := fun i h st b hb => by
    have e : b = it := by simpa using hb
    subst e
    exact ⟨_, st, fun v z => by
      have z' : Data.fields _ = Data.cell v := z
      cases z'⟩
  keep := fun i h h' st k => k it (by simp) _ st
  item := by
    intro X hP hw hK hc i pins s σ H E I hf st hg
    subst hP hw hK
    obtain ⟨f0, f1, f2, f3, f4, f5⟩ := hf it (by simp)
    have W := Walks.range (prog := X.prog) (w := X.w) (I.ok.hd hc) it lo 1 n
    refine W.item i s _ _ hg st fun v h' tk hv st' kk => ?_
    obtain ⟨t, rfl⟩ := hv
    have I1 : Inv X pins σ H { s with heap := h', toks := tk } := I.turned (fun b o hb e => kk b o (by simpa using hb) e) f0 f1 f3 f4 f5
    refine ⟨_, rfl, go_of (s := { s with heap := h', toks := tk }) (n := "range_iterator") st' rfl rfl (by decide) ⟨.int (lo + i), H, I1, ⟨t, ?_⟩, ⟨rfl, rfl⟩, st', fun b hb => (hf b hb).1⟩⟩
    rw [Int.mul_one]
  done := by
    intro X hP hw hK hc i pins s σ H E I hf st hg
    subst hP hw hK
    obtain ⟨f0, f1, f2, f3, f4, f5⟩ := hf it (by simp)
    exact wpAny_pyNext_range_end (I.ok.hd hc) st (by have : n ≤ i := hg; omega) fun h' eb => ⟨rfl, I.turned (t' := s.toks) (fun b o hb e => eb b o hb e) f0 f1 f3 f4 f5⟩
  self := fun _ _ _ _ _ st h => wpAny_pyIter_rangeiter st h
end L2

namespace L2
open PySem PySem.Spec PyProof.Rows
section
variable {X : Cx} {tg : Expr}
def iList (K : PySem.W.Frag) (tl : TE) : TI := fun σ H R => tl σ H fun x H1 => ∃ a, x = .ref a ∧ (∃ xs, SqL K H1 a xs) ∧ R (Itl K a) H1
theorem pi_list {l : Expr} {tl : TE} (hl : PE X l tl) : PI X tg l (iList X.K tl) := by
  intro pins s σ H R I h
  refine thn (hl pins s σ H _ I h) fun v s1 ⟨x, H1, I1, r1, q1⟩ => ?_
  obtain ⟨a, e, ⟨xs, hq⟩, q⟩ := q1
  subst e
  cases r1
  obtain ⟨its, rv, p, hz⟩ := I1.list hq
  refine wpAny_pyIter_list p.isList ?_
  refine ⟨s1.heap.objs.size, [s1.heap.objs.size], _, _, H1, rfl, I1.kept (t' := s1.toks) fun b o e => Heap.get?_push_of_some _ e, turn_list a _, ⟨_, Heap.get?_push_size _ rfl, rfl, rfl⟩, fun b hb => ?_, q⟩
  have e : b = s1.heap.objs.size := by simpa using hb
  subst e
  exact I1.fpOk (Nat.le_refl _) (I1.hok.fresh (Nat.le_refl _))
/-- a range object just made, walked -/
theorem range_it {pins : List (Addr × Obj)} {σ : St} {H : Hp} {s : Shared} {R : It → Hp → Prop} {E : Value → Shared → Prop} {lo hi : Int} {t u v : Tok} {tk : Nat} (I : Inv X pins σ H s) (h1 : -(2 ^ 62) ≤ lo) (h2 : lo < 2 ^ 62) (h3 : -(2 ^ 62) ≤ hi) (h4 : hi < 2 ^ 62)
    (q : R (Itr lo (hi - lo).toNat) H) : wpAny (model X.prog X.w) X.A (pyIter (.ref s.heap.objs.size)) (PIE X pins σ tg R) E { s with heap := s.heap.push { cls := .type "range", data := .fields #[.int lo t, .int hi u, .int 1 v] }, toks := tk } := by
  refine wpAny_pyIter_range (IsRange.new ..) (small_one h1 h2 h3 h4) ?_
  have I1 : Inv X pins σ H { s with heap := s.heap.push { cls := .type "range", data := .fields #[.int lo t, .int hi u, .int 1 v] }, toks := tk } := I.kept fun b o e => Heap.get?_push_of_some _ e
  refine ⟨(s.heap.push { cls := .type "range", data := .fields #[.int lo t, .int hi u, .int 1 v] }).objs.size, [(s.heap.push { cls := .type "range", data := .fields #[.int lo t, .int hi u, .int 1 v] }).objs.size], _, _, H, rfl,
    I1.kept (t' := tk) fun b o e => Heap.get?_push_of_some _ e, turn_range _ lo (hi - lo).toNat, ?_, fun b hb => ?_, q⟩
  · have e1 : lo + ((0 : Nat) : Int) * 1 = lo := by simp
    have e2 : (((hi - lo).toNat : Nat) : Int) - ((0 : Nat) : Int) = Builtin.Range.rangeSize lo hi 1 := by rw [rangeSize_one]; split <;> omega
    show IsRangeIter _ _ (lo + ((0 : Nat) : Int) * 1) ((((hi - lo).toNat : Nat) : Int) - ((0 : Nat) : Int)) 1
    rw [e1, e2]
    exact Heap.get?_push_size _ rfl
  · have e : b = (s.heap.push { cls := .type "range", data := .fields #[.int lo t, .int hi u, .int 1 v] }).objs.size := by simpa using hb
    subst e
    exact I1.fpOk (Nat.le_refl _) (I1.hok.fresh (Nat.le_refl _))
def iRng1 (ta : TA) : TI := fun σ H R => ta σ H fun vs H1 => ∃ j : Int, vs = [.int j] ∧ -(2 ^ 62) ≤ j ∧ j < 2 ^ 62 ∧ R (Itr 0 j.toNat) H1
theorem pi_range1 {a : Expr} {ta : TA} {p pos : Pos} (hg : Gl X "range") (hm : X.mg "range" = none) (ha : PA X [a] ta) (hs : starEach [a] X.env = [(false, eval a X.env)] := by rfl) : PI X tg (.Call (.Name "range" p) [a] [] pos) (iRng1 ta) := by
  intro pins s σ H R I h
  refine Call_ (ld_blt I hg hm boot_range (PyProof.Rows.callWith_type1 (thn (ha pos pins s σ H _ I h) fun us s1 ⟨vs, H1, I1, r1, q1⟩ => ?_) hs rfl))
  obtain ⟨j, e, q1, q2, q⟩ := q1
  subst e
  cases r1 with
  | cons r rr =>
    cases rr
    obtain ⟨t, rfl⟩ := r
    exact call_range_1 (range_it I1 (by omega) (by omega) q1 q2 (by simpa using q))

/-! ### for -/
/-- W: the invariant by the turn and a measure; N: what the body is to reach -/
def tFor (wi : TI) (g : TG) (tb : TS) : TS := fun D σ H => wi σ H fun J H1 => ∃ W : Nat → Nat → St → Hp → Prop, (∃ m, W 0 m σ H1) ∧ ∀ i m σ H, W i m σ H →
  (J.stop i H ∧ D.nx σ H) ∨ (J.go i H ∧ ∃ N : St → Hp → Prop, (∀ σ' H', N σ' H' → ∃ m', m' < m ∧ W (i + 1) m' σ' H') ∧ ∀ x H', J.yld i H x H' → g x σ H' fun σ2 H2 => tb { D with nx := N, ct := N, bk := D.nx } σ2 H2)
/-- the records at fp as they stand -/
def pinsAt (fp : List Addr) (h : Heap) : List (Addr × Obj) := fp.filterMap fun b => (h.get? b).map fun o => (b, o)
theorem mem_pinsAt {fp : List Addr} {h : Heap} {b : Addr} {o : Obj} (hb : b ∈ fp) (e : h.get? b = some o) : (b, o) ∈ pinsAt fp h := List.mem_filterMap.mpr ⟨b, hb, by rw [e]; rfl⟩
theorem of_pinsAt {fp : List Addr} {h : Heap} {p : Addr × Obj} (hp : p ∈ pinsAt fp h) : p.1 ∈ fp ∧ h.get? p.1 = some p.2 := by
  obtain ⟨b, hb, e⟩ := List.mem_filterMap.mp hp
  cases q : h.get? b with
  | none => rw [q] at e; cases e
  | some o =>
    rw [q] at e
    have e' : (b, o) = p := Option.some.inj e
    subst e'
    exact ⟨hb, q⟩
theorem Inv.pinned {pins : List (Addr × Obj)} {σ : St} {H : Hp} {s : Shared} {fp : List Addr} (I : Inv X pins σ H s) (hf : ∀ b ∈ fp, FpOk X pins H b) (ho : ∀ b ∈ fp, ∃ o, s.heap.get? b = some o ∧ ∀ v, o.data ≠ .cell v) : Inv X (pins ++ pinsAt fp s.heap) σ H s :=
  I.pins_of fun p hp => (List.mem_append.mp hp).elim (fun z => I.pin p (List.mem_append_right _ z)) fun z => by
    obtain ⟨hb, e⟩ := of_pinsAt z
    obtain ⟨f0, f1, f2, _⟩ := hf p.1 hb
    obtain ⟨o, e', d⟩ := ho p.1 hb
    rw [e] at e'; cases e'
    exact ⟨e, f0, f1, f2, d⟩
theorem Inv.unpinned {pins pl : List (Addr × Obj)} {σ : St} {H : Hp} {s : Shared} (I : Inv X (pins ++ pl) σ H s) : Inv X pins σ H s := I.pins_of fun p hp => I.pin p (List.mem_append_right _ (List.mem_append_left _ hp))
theorem ps_for {iter : Expr} {body : List Stmt} {wi : TI} {g : TG} {tb : TS} {pos : Pos} (hp : PassesOwn (model X.prog X.w) X.A X.env X.xe) (hc : X.calm = true) (hi : PI X tg iter wi) (hg : PG X tg g) (hb : PSs X body tb)
    (hs : ∀ x, foldedSetIterable iter X.env x = pure x := by intro _; rfl) : PS X (.For tg iter body [] pos) (tFor wi g tb) := by
  intro pins s σ H D I h
  refine wpAny_For (thn (hi pins s σ H _ I h) fun v s1 h1 => thn h1 fun itv s2 h2 => ?_) hs
  obtain ⟨it, fp, tn, J, H2, e, I2, T, st2, f2, W, ⟨m0, w0⟩, turn⟩ := h2
  subst e
  -- what stays true of the iterator's objects through the loop
  have stat : ∀ {H' : Hp}, (∀ b ∈ fp, H' b = none) → ∀ b ∈ fp, FpOk X pins H' b := fun hn b hb => ⟨hn b hb, (f2 b hb).2⟩
  refine codeAny_forLoop_any (fun n s' => ∃ i σ' H', Inv X pins σ' H' s' ∧ tn i s'.heap ∧ (∀ b ∈ fp, H' b = none) ∧ W i n σ' H') ?_ m0 ⟨0, σ, H2, I2, st2, fun b hb => (f2 b hb).1, w0⟩
  rintro n s3 ⟨i, σ3, H3, I3, st3, fr3, w3⟩
  rcases turn i n σ3 H3 w3 with ⟨stop, qn⟩ | ⟨go, N, hN, step⟩
  · refine wpAny_passesOwn hp (thn (T.done X rfl rfl rfl hc i pins s3 σ3 H3 X.xe I3 (stat fr3) st3 stop) fun r s4 ⟨hr, I4⟩ => ?_)
    subst hr
    exact wpAny_execs_nil ⟨σ3, H3, I4, qn⟩
  · refine wpAny_passesOwn hp (thn (T.item X rfl rfl rfl hc i pins s3 σ3 H3 X.xe I3 (stat fr3) st3 go) fun r s4 ⟨u, hr, h4⟩ => ?_)
    subst hr
    refine wpAny_passesOwn hp (thn h4 fun _ s5 ⟨x, H5, I5, r5, y5, st5, fr5⟩ => ?_)
    have I5' := I5.pinned (stat fr5) (T.obj _ _ st5)
    refine wpAny_passesOwn hp (thn (hg _ s5 σ3 H5 x u _ I5' r5 (step x H5 y5)) fun _ s6 ⟨σ6, H6, I6, q6⟩ => ?_)
    refine wpAny_passesOwn hp (thn (hb _ s6 σ6 H6 _ I6 q6) fun f s7 q7 => ?_)
    have again : ∀ {σ7 : St} {H7 : Hp}, Inv X (pins ++ pinsAt fp s5.heap) σ7 H7 s7 → N σ7 H7 → ∃ m, m < n ∧ ∃ i σ' H', Inv X pins σ' H' s7 ∧ tn i s7.heap ∧ (∀ b ∈ fp, H' b = none) ∧ W i m σ' H' := fun {σ7 H7} I7 n7 => by
      obtain ⟨m', hm, w7⟩ := hN σ7 H7 n7
      refine ⟨m', hm, i + 1, σ7, H7, I7.unpinned, T.keep _ _ _ st5 fun b hb o e => (I7.pin (b, o) (List.mem_append_right _ (List.mem_append_right _ (mem_pinsAt hb e)))).1, fun b hb => ?_, w7⟩
      obtain ⟨o, e, d⟩ := T.obj _ _ st5 b hb
      exact (I7.pin (b, o) (List.mem_append_right _ (List.mem_append_right _ (mem_pinsAt hb e)))).2.1
    cases f with
    | next => obtain ⟨σ7, H7, I7, n7⟩ := q7; exact again I7 n7
    | cont => obtain ⟨σ7, H7, I7, n7⟩ := q7; exact again I7 n7
    | brk => obtain ⟨σ7, H7, I7, q7⟩ := q7; exact ⟨σ7, H7, I7.unpinned, q7⟩
    | ret v => obtain ⟨x7, σ7, H7, I7, r7, q7⟩ := q7; exact ⟨x7, σ7, H7, I7.unpinned, r7, q7⟩
end

/-! ### the forms one uses -/
theorem for_range {lo : Int} {n : Nat} {g : TG} {tb : TS} {D : Ends} {σ : St} {H : Hp} (Pv : Nat → St → Hp → Prop) (h0 : Pv 0 σ H)
    (hs : ∀ i σ H, i < n → Pv i σ H → g (.int (lo + i)) σ H fun σ2 H2 => tb { D with nx := Pv (i + 1), ct := Pv (i + 1), bk := D.nx } σ2 H2) (hd : ∀ σ H, Pv n σ H → D.nx σ H) :
    ∃ W : Nat → Nat → St → Hp → Prop, (∃ m, W 0 m σ H) ∧ ∀ i m σ H, W i m σ H →
      ((Itr lo n).stop i H ∧ D.nx σ H) ∨ ((Itr lo n).go i H ∧ ∃ N : St → Hp → Prop, (∀ σ' H', N σ' H' → ∃ m', m' < m ∧ W (i + 1) m' σ' H') ∧ ∀ x H', (Itr lo n).yld i H x H' → g x σ H' fun σ2 H2 => tb { D with nx := N, ct := N, bk := D.nx } σ2 H2) := by
  refine ⟨fun i m σ H => m = n - i ∧ i ≤ n ∧ Pv i σ H, ⟨n, by simp, Nat.zero_le _, h0⟩, ?_⟩
  rintro i m σ H ⟨rfl, hi, p⟩
  by_cases hlt : i < n
  · refine .inr ⟨hlt, Pv (i + 1), fun σ' H' p' => ⟨n - (i + 1), by omega, rfl, hlt, p'⟩, fun x H' y => ?_⟩
    obtain ⟨e, y⟩ := y
    subst e y
    exact hs i σ _ hlt p
  · have e : i = n := by omega
    subst e
    exact .inl ⟨Nat.le_refl _, hd σ H p⟩
/-- while, by a word and a measure of the state -/
theorem while_by {c : TT} {tb : TS} {D : Ends} {σ : St} {H : Hp} (Pv : St → Hp → Prop) (μ : St → Hp → Nat) (h0 : Pv σ H)
    (hs : ∀ σ H, Pv σ H → c σ H fun b H1 => if b = true then tb { D with nx := fun σ' H' => Pv σ' H' ∧ μ σ' H' < μ σ H, ct := fun σ' H' => Pv σ' H' ∧ μ σ' H' < μ σ H, bk := D.nx } σ H1 else D.nx σ H1)
    (mono : ∀ σ H Q Q', (∀ b H1, Q b H1 → Q' b H1) → c σ H Q → c σ H Q') : tWhile c tb D σ H := by
  refine ⟨fun m σ H => m = μ σ H ∧ Pv σ H, ⟨_, rfl, h0⟩, ?_⟩
  rintro m σ H ⟨rfl, p⟩
  refine mono σ H _ _ (fun b H1 q => ?_) (hs σ H p)
  cases b with
  | true => exact ⟨_, fun σ' H' ⟨p', l⟩ => ⟨_, l, rfl, p'⟩, q⟩
  | false => exact q
end L2

namespace L2
open PySem PySem.Spec PyProof.Rows

abbrev R2 := V → V → Hp → VK → Prop
/-- a two-place operation on values: f is binaryOp op, inplaceOp op or compareOp op -/
def OpR (X : Cx) (f : Value → Value → Sem Value) (r : R2) : Prop :=
  ∀ (pins : List (Addr × Obj)) (s : Shared) (σ : St) (H : Hp) (x y : V) (v u : Value) (Q : VK), Inv X pins σ H s → RelV x v → RelV y u → r x y H Q →
    wpAny (model X.prog X.w) X.A (f v u) (EP X pins σ Q) X.xe s
/-- a one-place operation -/
def UnR (X : Cx) (f : Value → Sem Value) (r : V → Hp → VK → Prop) : Prop :=
  ∀ (pins : List (Addr × Obj)) (s : Shared) (σ : St) (H : Hp) (x : V) (v : Value) (Q : VK), Inv X pins σ H s → RelV x v → r x H Q →
    wpAny (model X.prog X.w) X.A (f v) (EP X pins σ Q) X.xe s
/-- a call of a value that is known (a builtin, a type) with values -/
def CallR (X : Cx) (f : Value) (r : List V → Hp → VK → Prop) : Prop :=
  ∀ (pins : List (Addr × Obj)) (s : Shared) (σ : St) (H : Hp) (xs : List V) (us : List Value) (Q : VK), Inv X pins σ H s → Vals xs us → r xs H Q →
    wpAny (model X.prog X.w) X.A (call f us) (EP X pins σ Q) X.xe s
/-- a value's truth -/
def TruR (X : Cx) (r : V → Hp → (Bool → Hp → Prop) → Prop) : Prop :=
  ∀ (pins : List (Addr × Obj)) (s : Shared) (σ : St) (H : Hp) (x : V) (v : Value) (Q : Bool → Hp → Prop), Inv X pins σ H s → RelV x v → r x H Q →
    wpAny (model X.prog X.w) X.A (truthy v) (TP X pins σ Q) X.xe s

def tOp (r : R2) (ta tb : TE) : TE := fun σ H Q => ta σ H fun x H1 => tb σ H1 fun y H2 => r x y H2 Q
def tUn (r : V → Hp → VK → Prop) (ta : TE) : TE := fun σ H Q => ta σ H fun x H1 => r x H1 Q
/-- ints in, under C, and a value out -/
def rI (C : Int → Int → Prop) (g : Int → Int → V) : R2 := fun x y H Q => ∃ i j, x = .int i ∧ y = .int j ∧ C i j ∧ Q (g i j) H
def rI0 (g : Int → Int → V) : R2 := fun x y H Q => ∃ i j, x = .int i ∧ y = .int j ∧ Q (g i j) H
def rU (g : Int → V) : V → Hp → VK → Prop := fun x H Q => ∃ i, x = .int i ∧ Q (g i) H

section
variable {X : Cx} {a b c : Expr} {ta tb tc : TE} {pos : Pos}

theorem binT (ha : PE X a ta) (hb : PE X b tb) {pins : List (Addr × Obj)} {s : Shared} {σ : St} {H : Hp} {R : V → V → Hp → Prop} (I : Inv X pins σ H s)
    (h : ta σ H fun x H1 => tb σ H1 fun y H2 => R x y H2) {Q : Value → Shared → Prop} {f : Value → Value → Sem Value}
    (hf : ∀ v u s2 x y H2, Inv X pins σ H2 s2 → RelV x v → RelV y u → R x y H2 → wpAny (model X.prog X.w) X.A (f v u) Q X.xe s2) :
    wpAny (model X.prog X.w) X.A (eval a X.env) (fun v s₁ => wpAny (model X.prog X.w) X.A (eval b X.env) (fun u s₂ => wpAny (model X.prog X.w) X.A (f v u) Q X.xe s₂) X.xe s₁) X.xe s := by
  refine thn (ha pins s σ H _ I h) fun v s1 ⟨x, H1, I1, r1, q1⟩ => ?_
  refine thn (hb pins s1 σ H1 _ I1 q1) fun u s2 ⟨y, H2, I2, r2, q2⟩ => ?_
  exact hf v u s2 x y H2 I2 r1 r2 q2

theorem pe_op {op : Operator} {r : R2} (ho : OpR X (binaryOp op) r) (ha : PE X a ta) (hb : PE X b tb) : PE X (.BinOp a op b pos) (tOp r ta tb) := by
  intro pins s σ H Q I h
  exact wpAny_BinOp (binT ha hb I h fun v u s2 x y H2 I2 rx ry q => ho pins s2 σ H2 x y v u Q I2 rx ry q)
theorem pe_un {op : UnaryOp} {r : V → Hp → VK → Prop} (ho : UnR X (unaryOp op) r) (ha : PE X a ta) : PE X (.UnaryOp op a pos) (tUn r ta) := by
  intro pins s σ H Q I h
  exact UnaryOp_ (thn (ha pins s σ H _ I h) fun v s1 ⟨x, H1, I1, r1, q1⟩ => ho pins s1 σ H1 x v Q I1 r1 q1)

/-! ### ints -/
theorem opI {f : Value → Value → Sem Value} {C : Int → Int → Prop} {g : Int → Int → Int}
    (rule : ∀ (i j : Int) (t u : Tok) (s : Shared) (Q : Value → Shared → Prop) (E : Value → Shared → Prop), C i j → Q (.int (g i j) s.toks) { s with toks := s.toks + 1 } → wpAny (model X.prog X.w) X.A (f (.int i t) (.int j u)) Q E s) :
    OpR X f (rI C fun i j => .int (g i j)) := by
  intro pins s σ H x y v u Q I rx ry h
  obtain ⟨i, j, rfl, rfl, hc, q⟩ := h
  obtain ⟨t, rfl⟩ := rx
  obtain ⟨t', rfl⟩ := ry
  exact rule i j t t' s _ _ hc ⟨.int (g i j), H, I.tok _, ⟨_, rfl⟩, q⟩
theorem opI0 {f : Value → Value → Sem Value} {g : Int → Int → Int}
    (rule : ∀ (i j : Int) (t u : Tok) (s : Shared) (Q : Value → Shared → Prop) (E : Value → Shared → Prop), Q (.int (g i j) s.toks) { s with toks := s.toks + 1 } → wpAny (model X.prog X.w) X.A (f (.int i t) (.int j u)) Q E s) :
    OpR X f (rI0 fun i j => .int (g i j)) := by
  intro pins s σ H x y v u Q I rx ry h
  obtain ⟨i, j, rfl, rfl, q⟩ := h
  obtain ⟨t, rfl⟩ := rx
  obtain ⟨t', rfl⟩ := ry
  exact rule i j t t' s _ _ ⟨.int (g i j), H, I.tok _, ⟨_, rfl⟩, q⟩
theorem opB0 {f : Value → Value → Sem Value} {g : Int → Int → Bool}
    (rule : ∀ (i j : Int) (t u : Tok) (s : Shared) (Q : Value → Shared → Prop) (E : Value → Shared → Prop), Q (.bool (g i j)) s → wpAny (model X.prog X.w) X.A (f (.int i t) (.int j u)) Q E s) :
    OpR X f (rI0 fun i j => .bl (g i j)) := by
  intro pins s σ H x y v u Q I rx ry h
  obtain ⟨i, j, rfl, rfl, q⟩ := h
  obtain ⟨t, rfl⟩ := rx
  obtain ⟨t', rfl⟩ := ry
  exact rule i j t t' s _ _ ⟨.bl (g i j), H, I, rfl, q⟩

def CDiv (i j : Int) : Prop := 0 < j ∧ j < 1073741824
def CMul (i j : Int) : Prop := (-(2 ^ 64) < i ∧ i < 2 ^ 64) ∨ (-(2 ^ 64) < j ∧ j < 2 ^ 64)
theorem CMul.ok {i j : Int} (h : CMul i j) : IntMulOk i j := by
  rcases h with ⟨h1, h2⟩ | ⟨h1, h2⟩
  · exact .of_left (intBits_le_64 h1 h2)
  · exact .of_right (intBits_le_64 h1 h2)

theorem op_add : OpR X (binaryOp .Add) (rI0 fun i j => .int (i + j)) := opI0 fun _ _ _ _ _ _ _ q => add_int q
theorem op_sub : OpR X (binaryOp .Sub) (rI0 fun i j => .int (i - j)) := opI0 fun _ _ _ _ _ _ _ q => sub_int q
theorem op_mul : OpR X (binaryOp .Mult) (rI CMul fun i j => .int (i * j)) := opI fun _ _ _ _ _ _ _ hc q => mul_int q hc.ok
/-- // by a positive divisor -/
theorem op_fdiv : OpR X (binaryOp .FloorDiv) (rI CDiv fun i j => .int (i / j)) := opI fun i j _ _ _ _ _ hc q => by
  have h1 : (0 : Int) < j := hc.1
  have h2 : j < 1073741824 := hc.2
  exact floordiv_int (by omega) (by rw [Int.fdiv_eq_ediv_of_nonneg i (by omega)]; exact q) (.inl (PyProof.noPylong_small (by omega)))
/-- % by a positive divisor of any size -/
theorem op_mod : OpR X (binaryOp .Mod) (rI (fun _ j => 0 < j) fun i j => .int (i % j)) := opI fun i j _ _ _ _ _ hc q => by
  have h1 : (0 : Int) < j := hc
  exact mod_int' (by omega) (by rw [Int.fmod_eq_emod_of_nonneg i (by omega)]; exact q)


theorem unI {f : Value → Sem Value} {g : Int → Int}
    (rule : ∀ (i : Int) (t : Tok) (s : Shared) (Q : Value → Shared → Prop) (E : Value → Shared → Prop), Q (.int (g i) s.toks) { s with toks := s.toks + 1 } → wpAny (model X.prog X.w) X.A (f (.int i t)) Q E s) :
    UnR X f (rU fun i => .int (g i)) := by
  intro pins s σ H x v Q I rx h
  obtain ⟨i, rfl, q⟩ := h
  obtain ⟨t, rfl⟩ := rx
  exact rule i t s _ _ ⟨.int (g i), H, I.tok _, ⟨_, rfl⟩, q⟩
theorem un_neg : UnR X (unaryOp .USub) (rU fun i => .int (-i)) := unI fun _ _ _ _ _ q => neg_int q

/-! ### bools among ints: n += (a < b) -/
end

/-! ### comparisons -/
/-- the scalars that == tells apart as data does -/
def scal : V → V → Bool
  | .non, .non => true | .non, .int _ => true | .int _, .non => true | .non, .bl _ => true | .bl _, .non => true | .non, .str _ => true | .str _, .non => true
  | .int _, .int _ => true | .bl _, .bl _ => true | .str _, .str _ => true | .byt _, .byt _ => true
  | .int _, .str _ => true | .str _, .int _ => true | .bl _, .str _ => true | .str _, .bl _ => true
  | _, _ => false
def rEq : R2 := fun x y H Q => scal x y = true ∧ Q (.bl (decide (x = y))) H
def rNe : R2 := fun x y H Q => scal x y = true ∧ Q (.bl (!decide (x = y))) H

theorem dec_int {i j : Int} : decide (V.int i = V.int j) = (i == j) := by
  rw [Bool.eq_iff_iff]
  simp
theorem dec_bl {i j : Bool} : decide (V.bl i = V.bl j) = (i == j) := by
  rw [Bool.eq_iff_iff]
  simp
theorem dec_str {i j : Str} : decide (V.str i = V.str j) = (i == j) := by
  rw [Bool.eq_iff_iff]
  simp
theorem dec_byt {i j : Array UInt8} : decide (V.byt i = V.byt j) = (i.toList == j.toList) := by
  rw [Bool.eq_iff_iff]
  cases i
  cases j
  simp

section
variable {X : Cx} {a b c : Expr} {ta tb tc : TE} {pos : Pos}
theorem fin_bl {pins : List (Addr × Obj)} {σ : St} {H : Hp} {s : Shared} {Q : VK} {k k' : Bool} (I : Inv X pins σ H s) (q : Q (.bl k) H) (e : k = k') : EP X pins σ Q (.bool k') s := by
  subst e
  exact ⟨.bl k, H, I, rfl, q⟩
theorem op_eq : OpR X (compareOp .Eq) rEq := by
  intro pins s σ H x y v u Q I rx ry h
  obtain ⟨hs, q⟩ := h
  cases x with
  | non =>
    cases rx
    cases y with
    | non => cases ry; exact PySem.EqNone.eq_none_none (fin_bl I q (by simp))
    | bl j => cases ry; exact PySem.EqNone.eq_none_bool (fin_bl I q (by simp))
    | int j => obtain ⟨t', rfl⟩ := ry; exact PySem.EqNone.eq_none_int (fin_bl I q (by simp))
    | str j => obtain ⟨t', rfl⟩ := ry; exact PySem.EqNone.eq_none_str (fin_bl I q (by simp))
    | _ => exact absurd (show false = true from hs) Bool.false_ne_true
  | bl i =>
    cases rx
    cases y with
    | non => cases ry; exact PySem.EqNone.eq_bool_none (fin_bl I q (by simp))
    | bl j => cases ry; exact eq_bool (fin_bl I q dec_bl)
    | str j => obtain ⟨t', rfl⟩ := ry; exact PySem.EqMixed.eq_bool_str (fin_bl I q (by simp))
    | _ => exact absurd (show false = true from hs) Bool.false_ne_true
  | int i =>
    obtain ⟨t, rfl⟩ := rx
    cases y with
    | non => cases ry; exact PySem.EqNone.eq_int_none (fin_bl I q (by simp))
    | int j => obtain ⟨t', rfl⟩ := ry; exact eq_int (fin_bl I q dec_int)
    | str j => obtain ⟨t', rfl⟩ := ry; exact PySem.EqMixed.eq_int_str (fin_bl I q (by simp))
    | _ => exact absurd (show false = true from hs) Bool.false_ne_true
  | str i =>
    obtain ⟨t, rfl⟩ := rx
    cases y with
    | non => cases ry; exact PySem.EqNone.eq_str_none (fin_bl I q (by simp))
    | bl j => cases ry; exact PySem.EqMixed.eq_str_bool (fin_bl I q (by simp))
    | int j => obtain ⟨t', rfl⟩ := ry; exact PySem.EqMixed.eq_str_int (fin_bl I q (by simp))
    | str j => obtain ⟨t', rfl⟩ := ry; exact eq_str (fin_bl I q dec_str)
    | _ => exact absurd (show false = true from hs) Bool.false_ne_true
  | byt i =>
    obtain ⟨t, rfl⟩ := rx
    cases y with
    | byt j => obtain ⟨t', rfl⟩ := ry; exact PySem.W.eq_bytes (fin_bl I q dec_byt)
    | _ => exact absurd (show false = true from hs) Bool.false_ne_true
  | _ => cases y <;> exact absurd (show false = true from hs) Bool.false_ne_true
theorem op_ne : OpR X (compareOp .NotEq) rNe := by
  intro pins s σ H x y v u Q I rx ry h
  obtain ⟨hs, q⟩ := h
  cases x with
  | non =>
    cases rx
    cases y with
    | non => cases ry; exact PySem.EqNone.ne_none_none (fin_bl I q (by simp))
    | bl j => cases ry; exact PySem.EqNone.ne_none_bool (fin_bl I q (by simp))
    | int j => obtain ⟨t', rfl⟩ := ry; exact PySem.EqNone.ne_none_int (fin_bl I q (by simp))
    | str j => obtain ⟨t', rfl⟩ := ry; exact PySem.EqNone.ne_none_str (fin_bl I q (by simp))
    | _ => exact absurd (show false = true from hs) Bool.false_ne_true
  | bl i =>
    cases rx
    cases y with
    | non => cases ry; exact PySem.EqNone.ne_bool_none (fin_bl I q (by simp))
    | bl j => cases ry; exact ne_bool (fin_bl I q (congrArg not dec_bl))
    | str j => obtain ⟨t', rfl⟩ := ry; exact PySem.EqMixed.ne_bool_str (fin_bl I q (by simp))
    | _ => exact absurd (show false = true from hs) Bool.false_ne_true
  | int i =>
    obtain ⟨t, rfl⟩ := rx
    cases y with
    | non => cases ry; exact PySem.EqNone.ne_int_none (fin_bl I q (by simp))
    | int j => obtain ⟨t', rfl⟩ := ry; exact ne_int (fin_bl I q (congrArg not dec_int))
    | str j => obtain ⟨t', rfl⟩ := ry; exact PySem.EqMixed.ne_int_str (fin_bl I q (by simp))
    | _ => exact absurd (show false = true from hs) Bool.false_ne_true
  | str i =>
    obtain ⟨t, rfl⟩ := rx
    cases y with
    | non => cases ry; exact PySem.EqNone.ne_str_none (fin_bl I q (by simp))
    | bl j => cases ry; exact PySem.EqMixed.ne_str_bool (fin_bl I q (by simp))
    | int j => obtain ⟨t', rfl⟩ := ry; exact PySem.EqMixed.ne_str_int (fin_bl I q (by simp))
    | str j => obtain ⟨t', rfl⟩ := ry; exact ne_str (fin_bl I q (congrArg not dec_str))
    | _ => exact absurd (show false = true from hs) Bool.false_ne_true
  | byt i =>
    obtain ⟨t, rfl⟩ := rx
    cases y with
    | byt j => obtain ⟨t', rfl⟩ := ry; exact PySem.W.ne_bytes (fin_bl I q (congrArg not dec_byt))
    | _ => exact absurd (show false = true from hs) Bool.false_ne_true
  | _ => cases y <;> exact absurd (show false = true from hs) Bool.false_ne_true

theorem op_lt : OpR X (compareOp .Lt) (rI0 fun i j => .bl (decide (i < j))) := opB0 fun _ _ _ _ _ _ _ q => lt_int q
theorem op_le : OpR X (compareOp .LtE) (rI0 fun i j => .bl (decide (i ≤ j))) := opB0 fun _ _ _ _ _ _ _ q => le_int q
theorem op_gt : OpR X (compareOp .Gt) (rI0 fun i j => .bl (decide (j < i))) := opB0 fun _ _ _ _ _ _ _ q => gt_int q
/-- the one string within the other -/
theorem op_in_str : OpR X (compareOp .In) (fun x y H Q => ∃ i j, x = .str i ∧ y = .str j ∧ Q (.bl (!(Builtin.Str.occurrences j i 0 j.length 1).isEmpty)) H) := by
  intro pins s σ H x y v u Q I rx ry h
  obtain ⟨i, j, rfl, rfl, q⟩ := h
  obtain ⟨t, rfl⟩ := rx
  obtain ⟨t', rfl⟩ := ry
  exact in_str (fin_bl I q rfl)

/-- is None, is not None: the right side a value none -/
theorem op_isN : OpR X (compareOp .Is) (fun x y H Q => y = .non ∧ Q (.bl (decide (x = .non))) H) := by
  intro pins s σ H x y v u Q I rx ry h
  obtain ⟨rfl, q⟩ := h
  cases ry
  refine is_none_gen (fin_bl I q ?_)
  cases x <;> first
    | (cases rx; rfl)
    | (obtain ⟨t, rfl⟩ := rx; rfl)
theorem op_notN : OpR X (compareOp .IsNot) (fun x y H Q => y = .non ∧ Q (.bl (!decide (x = .non))) H) := by
  intro pins s σ H x y v u Q I rx ry h
  obtain ⟨rfl, q⟩ := h
  cases ry
  refine isnot_none_gen (fin_bl I q ?_)
  cases x <;> first
    | (cases rx; rfl)
    | (obtain ⟨t, rfl⟩ := rx; rfl)



theorem nomark (b : Expr) {op : CmpOp} (h : op ≠ .In := by decide) (h2 : op ≠ .NotIn := by decide) : behindInMarks op b = false := by
  have e1 : (op == CmpOp.In) = false := by cases op <;> first | rfl | exact absurd rfl h
  have e2 : (op == CmpOp.NotIn) = false := by cases op <;> first | rfl | exact absurd rfl h2
  cases b <;> simp [behindInMarks, e1, e2]
/-- a comparison as a value; hm: nomark b, or (for in, not in) by with_unfolding_all rfl -/
theorem pe_cmpR {op : CmpOp} {r : R2} (ho : OpR X (compareOp op) r) (ha : PE X a ta) (hb : PE X b tb) (hm : behindInMarks op b = false) : PE X (.Compare a [op] [b] pos) (tOp r ta tb) := by
  intro pins s σ H Q I h
  exact wpAny_Compare1 (binT ha hb I h fun v u s2 x y H2 I2 rx ry q => ho pins s2 σ H2 x y v u Q I2 rx ry q) hm
/-- a reading of a value as a test -/
def tTest (t : TE) : TT := fun σ H Q => t σ H fun x H' => ∃ k, x = .bl k ∧ Q k H'
theorem pt_cmpR {op : CmpOp} {r : R2} (ho : OpR X (compareOp op) r) (ha : PE X a ta) (hb : PE X b tb) (hm : behindInMarks op b = false) : PT X (.Compare a [op] [b] pos) (tTest (tOp r ta tb)) := by
  intro pins s σ H Q I h
  refine wpAny_isTrue_Compare1 (thn (ha pins s σ H _ I h) fun v s1 ⟨x, H1, I1, r1, q1⟩ => thn (hb pins s1 σ H1 _ I1 q1) fun u s2 ⟨y, H2, I2, r2, q2⟩ =>
    thn (ho pins s2 σ H2 x y v u _ I2 r1 r2 q2) fun c s3 ⟨z, H3, I3, r3, k, e, q3⟩ => ?_) hm
  subst e
  cases r3
  exact wpAny_truthy_bool ⟨H3, I3, q3⟩
/-- a op1 b op2 c -/
def tChain (r r' : R2) (ta tb tc : TE) : TE := fun σ H Q => ta σ H fun x H1 => tb σ H1 fun y H2 => r x y H2 fun z H3 => ∃ k, z = .bl k ∧
  (if k = true then tc σ H3 fun w' H4 => r' y w' H4 Q else Q (.bl false) H3)
theorem pe_chain {op op' : CmpOp} {r r' : R2} (ho : OpR X (compareOp op) r) (ho' : OpR X (compareOp op') r') (ha : PE X a ta) (hb : PE X b tb) (hc : PE X c tc)
    (hm : lastMarks [op, op'] [b, c] = false := by with_unfolding_all rfl) : PE X (.Compare a [op, op'] [b, c] pos) (tChain r r' ta tb tc) := by
  intro pins s σ H Q I h
  refine Compare_chain (thn (ha pins s σ H _ I h) fun v s1 ⟨x, H1, I1, r1, q1⟩ => chain_link (thn (hb pins s1 σ H1 _ I1 q1) fun u s2 ⟨y, H2, I2, r2, q2⟩ =>
    thn (ho pins s2 σ H2 x y v u _ I2 r1 r2 q2) fun d s3 ⟨z, H3, I3, r3, k, e, q3⟩ => ?_)) hm
  subst e
  cases r3
  refine wpAny_truthy_bool ?_
  cases k with
  | false => exact ite_ff ⟨.bl false, H3, I3, rfl, q3⟩
  | true => exact ite_tt (chain_last (thn (hc pins s3 σ H3 _ I3 q3) fun w' s4 ⟨z', H4, I4, r4, q4⟩ => ho' pins s4 σ H4 y z' u w' Q I4 r2 r4 q4))
theorem pt_chain {op op' : CmpOp} {r r' : R2} (ho : OpR X (compareOp op) r) (ho' : OpR X (compareOp op') r') (ha : PE X a ta) (hb : PE X b tb) (hc : PE X c tc)
    (hm : lastMarks [op, op'] [b, c] = false := by with_unfolding_all rfl) : PT X (.Compare a [op, op'] [b, c] pos) (tTest (tChain r r' ta tb tc)) := by
  intro pins s σ H Q I h
  refine isTrue_chain (thn (ha pins s σ H _ I h) fun v s1 ⟨x, H1, I1, r1, q1⟩ => test_link (thn (hb pins s1 σ H1 _ I1 q1) fun u s2 ⟨y, H2, I2, r2, q2⟩ =>
    thn (ho pins s2 σ H2 x y v u _ I2 r1 r2 q2) fun d s3 ⟨z, H3, I3, r3, k, e, q3⟩ => ?_)) hm
  subst e
  cases r3
  refine wpAny_truthy_bool ?_
  cases k with
  | false =>
    obtain ⟨k', e', q'⟩ := q3
    cases e'
    exact ite_ff ⟨H3, I3, q'⟩
  | true =>
    refine ite_tt (test_last (thn (hc pins s3 σ H3 _ I3 q3) fun w' s4 ⟨z', H4, I4, r4, q4⟩ => thn (ho' pins s4 σ H4 y z' u w' _ I4 r2 r4 q4) fun d' s5 ⟨z2, H5, I5, r5, k2, e2, q5⟩ => ?_))
    subst e2
    cases r5
    exact wpAny_truthy_bool ⟨H5, I5, q5⟩

/-! ### truth -/
/-- a value's truth by the abstract heap -/
def TruV (K : PySem.W.Frag) (x : V) (H : Hp) (k : Bool) : Prop :=
  match x with
  | .non => k = false
  | .bl b => k = b
  | .int i => k = (i != 0)
  | .str y => y.length ≤ sizeLine ∧ k = ((y.length : Int) != 0)
  | .byt y => y.size ≤ sizeLine ∧ k = ((y.size : Int) != 0)
  | .ref p => (∃ xs, SqL K H p xs ∧ k = !xs.isEmpty) ∨ (∃ xs, SqT K H p xs ∧ k = !xs.isEmpty) ∨ ∃ kvs, H p = some (.dK kvs) ∧ k = !kvs.isEmpty
  | _ => False
theorem isEmpty_kv {κ : Type} {kvs : List (κ × V)} {vs : List (κ × Value)} (r : KV kvs vs) : (!vs.isEmpty) = !kvs.isEmpty := by
  cases r <;> rfl
theorem isEmpty_of {xs : List V} {its : List Value} (r : Vals xs its) : (!its.toArray.isEmpty) = !xs.isEmpty := by
  cases r <;> simp
theorem line63 : (sizeLine : Nat) < 2 ^ 63 := by rw [sizeLine_eq]; decide
theorem tru_ok : TruR X (fun x H Q => ∃ k, TruV X.K x H k ∧ Q k H) := by
  intro pins s σ H x v Q I rx h
  obtain ⟨k, e, q⟩ := h
  have hl := line63
  have hs : sizeLine = 16777216 := sizeLine_eq
  cases x with
  | non =>
    cases rx
    have e' : k = false := e
    subst e'
    exact truthy_none ⟨H, I, q⟩
  | bl b =>
    cases rx
    have e' : k = b := e
    subst e'
    exact wpAny_truthy_bool ⟨H, I, q⟩
  | int i =>
    obtain ⟨t, rfl⟩ := rx
    have e' : k = (i != 0) := e
    subst e'
    exact PySem.P.truthy_int ⟨H, I, q⟩
  | str y =>
    obtain ⟨t, rfl⟩ := rx
    obtain ⟨hy, e'⟩ : y.length ≤ sizeLine ∧ k = ((y.length : Int) != 0) := e
    subst e'
    exact PySem.P.truthy_str (by omega) ⟨H, I.tok _, q⟩
  | byt y =>
    obtain ⟨t, rfl⟩ := rx
    obtain ⟨hy, e'⟩ : y.size ≤ sizeLine ∧ k = ((y.size : Int) != 0) := e
    subst e'
    exact PySem.W.truthy_bytes (by omega) ⟨H, I.tok _, q⟩
  | ref p =>
    cases rx
    have e' : (∃ xs, SqL X.K H p xs ∧ k = !xs.isEmpty) ∨ (∃ xs, SqT X.K H p xs ∧ k = !xs.isEmpty) ∨ ∃ kvs, H p = some (.dK kvs) ∧ k = !kvs.isEmpty := e
    rcases e' with ⟨xs, hx, e'⟩ | ⟨xs, hx, e'⟩ | ⟨kvs, hx, e'⟩
    · subst e'
      obtain ⟨its, r, pl, hz⟩ := I.list hx
      have hlen := r.length
      exact wpAny_truthy_list pl.isList (by simp only [List.size_toArray]; omega) ⟨H, I.tok _, by rw [isEmpty_of r]; exact q⟩
    · subst e'
      obtain ⟨its, r, pl, hz⟩ := I.tuple hx
      have hlen := r.length
      exact truthy_tuple pl (by simp only [List.size_toArray]; omega) ⟨H, I.tok _, by rw [isEmpty_of r]; exact q⟩
    · subst e'
      obtain ⟨hz, hS, vs, r, m⟩ : kvs.length ≤ sizeLine ∧ (p == sysModules) = false ∧ ∃ vs, KV kvs vs ∧ s.heap.DictOf (mixKind X.prog X.w) p vs := I.hok p _ hx
      have hlen : kvs.length = vs.length := Paired.length r
      exact wpAny_truthy_dict hS m (by omega) ⟨H, I.tok _, by rw [isEmpty_kv r]; exact q⟩
  | _ => exact (show False from e).elim
/-- any expression whose test is its value's truth (a name, a call, a subscript, a field ..: he by fun _ => rfl) -/
theorem pt_truth (ha : PE X a ta) (he : ∀ whole, isTrue a X.env whole = (do let v ← whole; standAt a.pos; holding [v] (truthy v))) :
    PT X a (fun σ H Q => ta σ H fun x H' => ∃ k, TruV X.K x H' k ∧ Q k H') := by
  intro pins s σ H Q I h
  exact isTrue_plain (thn (ha pins s σ H _ I h) fun v s1 ⟨x, H1, I1, r1, q1⟩ => tru_ok pins s1 σ H1 x v Q I1 r1 q1) (he _)

/-! ### strs and bytes -/
theorem op_add_str : OpR X (binaryOp .Add) (fun x y H Q => ∃ i j, x = .str i ∧ y = .str j ∧ i.length + j.length ≤ sizeLine ∧ Q (.str (i ++ j)) H) := by
  intro pins s σ H x y v u Q I rx ry h
  obtain ⟨i, j, rfl, rfl, hz, q⟩ := h
  obtain ⟨t, rfl⟩ := rx
  obtain ⟨t', rfl⟩ := ry
  exact add_str (fun t' tk => ⟨.str (i ++ j), H, I.tok _, ⟨_, rfl⟩, q⟩) hz


/-! ### scalar builtins, by CallR -/
theorem vals1 {x : V} {us : List Value} (r : Vals [x] us) : ∃ u, us = [u] ∧ RelV x u := by
  cases r with
  | cons r1 r2 => cases r2; exact ⟨_, rfl, r1⟩
theorem vals2 {x y : V} {us : List Value} (r : Vals [x, y] us) : ∃ u w', us = [u, w'] ∧ RelV x u ∧ RelV y w' := by
  cases r with
  | cons r1 r2 =>
    cases r2 with
    | cons r3 r4 => cases r4; exact ⟨_, _, rfl, r1, r3⟩
theorem call_min2 (hc : X.calm = true) : CallR X (.builtin "min") (fun xs H Q => ∃ i j, xs = [.int i, .int j] ∧ Q (.int (if j < i then j else i)) H) := by
  intro pins s σ H xs us Q I r h
  obtain ⟨i, j, rfl, q⟩ := h
  obtain ⟨u, w', rfl, ⟨t, rfl⟩, ⟨t', rfl⟩⟩ := vals2 r
  refine min_two_ints (I.ok.hd hc) fun h' tk k => ⟨_, H, I.kept k, ?_, q⟩
  by_cases hj : j < i
  · rw [if_pos hj, if_pos hj]; exact ⟨_, rfl⟩
  · rw [if_neg hj, if_neg hj]; exact ⟨_, rfl⟩
end
end L2

namespace L2
open PySem PySem.Spec PyProof.Rows

/-! ### an instance, its attributes a map -/
structure ObjM (h : Heap) (x dx C : Addr) (mA : Str → Option Value) : Prop where
  obj : h.get? x = some (PySem.W.instObj C dx)
  ns : h.Ns1 dx mA
  ne : dx ≠ x

theorem lookIn_ns {h : Heap} {dx : Addr} {mA : Str → Option Value} (n : h.Ns1 dx mA) : ∃ od, h.get? dx = some od ∧ ∀ name, PySem.W.lookIn name od = some (mA name) := by
  obtain ⟨o, es, ep, ho, hd, hk, _, hm⟩ := n
  refine ⟨o, ho, fun name => ?_⟩
  have e := hm name
  unfold nsFind findBy at e
  rw [← Array.find?_toList] at e
  unfold PySem.W.lookIn
  rw [hd]
  dsimp only
  split
  · rename_i y q
    rw [q] at e
    exact congrArg some e
  · rename_i q
    rw [q] at e
    have a : es.toList.any (·.refKey) = false := by
      rw [List.any_eq_false]
      intro y hy
      obtain ⟨z, t, hkey⟩ := hk y (Array.mem_toList_iff.mp hy)
      simp [DictEntry.refKey, hkey]
    have a' : ¬ es.toList.any (·.refKey) = true := by rw [a]; exact Bool.false_ne_true
    rw [if_neg a']
    exact congrArg some e

theorem ObjM.look {h : Heap} {x dx C : Addr} {mA : Str → Option Value} (I : ObjM h x dx C mA) : ∃ od, PySem.W.InstAt h x (PySem.W.instObj C dx) C (some od) ∧ ∀ name, PySem.W.lookIn name od = some (mA name) :=
  let ⟨od, ho, hl⟩ := lookIn_ns I.ns
  ⟨od, ⟨I.obj, rfl, rfl, ho⟩, hl⟩

section
variable {prog : Program} {w : World} {A : Around} {E : Value → Shared → Prop} {s : Shared} {K : PySem.W.Frag} {x dx C f : Addr} {mA : Str → Option Value} {name : Str} {v : Value}

theorem get_map {expr : Bool} {Q : Value → Shared → Prop} (X : K.In s.heap) (I : ObjM s.heap x dx C mA) (hg : PySem.W.plainGet K C name = true) (hh : PySem.W.hasDictIn K C = true)
    (ha : PySem.W.findIn K (.ref C) name = some none) (hv : mA name = some v) (hv' : PySem.W.handedIn v = true) (h : Q v { s with toks := s.toks + 1 }) :
    wpAny (model prog w) A (getAttr (.ref x) name expr) Q E s := by
  obtain ⟨od, J, hl⟩ := I.look
  exact PySem.W.get_value X J (PySem.W.plainGet_of hg).1 (PySem.W.findObj_own hh ha rfl (by rw [hl, hv])) hv' h


theorem get_meth {pl : Sem Bool} {Q : Value × List Value → Shared → Prop} (X : K.In s.heap) (I : ObjM s.heap x dx C mA) (hg : PySem.W.plainGet K C name = true)
    (hf : PySem.W.findIn K (.ref C) name = some (some (.ref f))) (ht : PySem.W.isFn K (.ref f) = true) (hv : mA name = none) (h : Q (.ref f, [.ref x]) s) :
    wpAny (model prog w) A (getMethod (.ref x) name pl) Q E s := by
  obtain ⟨od, J, hl⟩ := I.look
  exact PySem.W.method_fn X J (PySem.W.plainGet_of hg).1 (PySem.W.plainGet_of hg).2 hf (beq_iff_eq.mp ht) (by show (PySem.W.lookIn name od).map (·.isSome) = some false; rw [hl, hv]; rfl) h

theorem set_map {ns : List Str} {Q : Unit → Shared → Prop} (X : K.In s.heap) (I : ObjM s.heap x dx C mA)
    (hs : PySem.W.findIn K (.ref C) "__setattr__" = some (some (.builtin "object.__setattr__"))) (hp : PySem.W.plainOver K C = true) (ht : PySem.W.takerIn K C name = some none) (hh : PySem.W.hasDictIn K C = true)
    (hw : PySem.Within mA ns) (hsz : ns.length ≤ sizeLine)
    (h : ∀ h', ObjM h' x dx C (fun y => if y = name then some v else mA y) → Heap.SameBut dx s.heap h' → Q () { s with heap := h', toks := s.toks + 2 }) :
    wpAny (model prog w) A (setAttr (.ref x) name v) Q E s := by
  obtain ⟨od, J, hl⟩ := I.look
  refine PySem.W.set_plain X J hs (PySem.W.osa_open (s := { s with toks := s.toks + 1 }) (r := none) X J hp ht fun b => ?_)
  obtain ⟨cd, hc, hd'⟩ := PySem.W.any_some hh
  have hx : s.heap.get? x = some ⟨.ref C, some dx, .plain, #[]⟩ := I.obj
  refine wpAny_bind (wpAny_pure (wpAny_bind (wpAny_bind (wpAny_loadPart hx (wpAny_bind (PySem.W.Looks.here (s := { s with toks := s.toks + 1 }) (PySem.W.looks_clsIn X hc) ?_))))))
  rw [hd']
  refine wpAny_pure (a := some dx) (wpAny_bind (wpAny_pure (wpAny_bind ?_)))
  refine wpAny_nsSet1 (s := { s with toks := s.toks + 1 }) I.ns fun h' hn2 hs2 => ?_
  obtain ⟨oD, esD, epD, hoD, hdD, hcD⟩ := hn2.count (PySem.Within.cons name v hw)
  refine wpAny_bind (wpAny_lookBehind hoD (by rw [hdD]; exact pastItsLine_dict (Nat.le_trans hcD (by rw [List.length_cons]; omega))) ?_)
  exact wpAny_pure (h _ ⟨(hs2.2 _ (Ne.symm I.ne)).trans I.obj, hn2, I.ne⟩ hs2)

/-- C(..): the dict at the heap's end, the instance behind it; then its __init__ -/
theorem make_map {R : Result → Shared → Prop} {vs : List Value} {kw : List (Str × Value)} (X : K.In s.heap) (hm : PySem.W.makesIn K C = true)
    (hi : PySem.W.findIn K (.ref C) "__init__" = some (some (.ref f))) (hf : PySem.W.typeIn K (.ref f) = some (.type "function"))
    (h : codeAny (model prog w) (A.under (.builtin "type.__call__" ⟨.ref C :: vs, kw⟩)) (.call (.ref f) ⟨.ref (s.heap.objs.size + 1) :: vs, kw⟩) (PySem.W.InitBack (s.heap.objs.size + 1) R)
      { s with heap := (s.heap.push PySem.W.emptyDict).push (PySem.W.instObj C s.heap.objs.size) }) :
    codeAny (model prog w) A (.call (.ref C) ⟨vs, kw⟩) R s := by
  obtain ⟨hh, g, d, t, os⟩ := s
  exact PySem.W.make_core (PySem.W.makes_of X hm) (PySem.W.looks_findIn X hi) (fun self => PySem.W.bind_fn X self hf) (.inl rfl) h
end

/-! ### the attributes as a list of pairs -/
def putF (f : Str) (v : V) : List (Str × V) → List (Str × V)
  | [] => [(f, v)]
  | (g, x) :: r => if g = f then (g, v) :: r else (g, x) :: putF f v r
theorem lookup_putF (f g : Str) (v : V) : ∀ fs : List (Str × V), (putF f v fs).lookup g = if g = f then some v else fs.lookup g
  | [] => by
    show List.lookup g [(f, v)] = _
    by_cases h : g = f
    · have hb : (g == f) = true := beq_iff_eq.mpr h
      simp only [List.lookup, hb, if_pos h]
    · have hb : (g == f) = false := beq_eq_false_iff_ne.mpr h
      simp only [List.lookup, hb, if_neg h]
  | (k, x) :: r => by
    have ih := lookup_putF f g v r
    rw [show putF f v ((k, x) :: r) = (if k = f then (k, v) :: r else (k, x) :: putF f v r) from rfl]
    by_cases hk : k = f
    · rw [if_pos hk]
      by_cases h : g = k
      · have hb : (g == k) = true := beq_iff_eq.mpr h
        simp only [List.lookup, hb, if_pos (h.trans hk)]
      · have hb : (g == k) = false := beq_eq_false_iff_ne.mpr h
        simp only [List.lookup, hb, if_neg (fun e : g = f => h (e.trans hk.symm))]
    · rw [if_neg hk]
      by_cases h : g = k
      · have hb : (g == k) = true := beq_iff_eq.mpr h
        simp only [List.lookup, hb, if_neg (fun e : g = f => hk (h.symm.trans e))]
      · have hb : (g == k) = false := beq_eq_false_iff_ne.mpr h
        simp only [List.lookup, hb]
        exact ih
theorem keys_putF (f : Str) (v : V) : ∀ fs : List (Str × V), f ∈ (putF f v fs).map (·.1) ∧ ∀ g, g ∈ fs.map (·.1) → g ∈ (putF f v fs).map (·.1)
  | [] => ⟨by simp [putF], fun g h => by simp at h⟩
  | (k, x) :: r => by
    obtain ⟨i1, i2⟩ := keys_putF f v r
    rw [show putF f v ((k, x) :: r) = (if k = f then (k, v) :: r else (k, x) :: putF f v r) from rfl]
    by_cases hk : k = f
    · rw [if_pos hk]
      subst hk
      exact ⟨by simp, fun g h => by simpa using h⟩
    · rw [if_neg hk]
      refine ⟨?_, fun g h => ?_⟩
      · rw [List.map_cons]
        exact List.mem_cons_of_mem _ i1
      · rw [List.map_cons] at h ⊢
        rcases List.mem_cons.mp h with e | e
        · exact List.mem_cons.mpr (.inl e)
        · exact List.mem_cons_of_mem _ (i2 g e)
theorem length_putF (f : Str) (v : V) : ∀ fs : List (Str × V), (putF f v fs).length ≤ fs.length + 1
  | [] => by simp [putF]
  | (k, x) :: r => by
    have ih := length_putF f v r
    rw [show putF f v ((k, x) :: r) = (if k = f then (k, v) :: r else (k, x) :: putF f v r) from rfl]
    by_cases hk : k = f
    · rw [if_pos hk, List.length_cons, List.length_cons]; omega
    · rw [if_neg hk, List.length_cons, List.length_cons]; omega

theorem RelO.some_of {v : V} {o : Option Value} (r : RelO (some v) o) : ∃ u, o = some u ∧ RelV v u := by
  cases o with
  | none => exact (show False from r).elim
  | some u => exact ⟨u, rfl, r⟩
theorem RelO.none_of {o : Option Value} (r : RelO none o) : o = none := by
  cases o with
  | none => rfl
  | some u => exact (show False from r).elim
theorem handed_of {v : V} {u : Value} (r : RelV v u) : PySem.W.handedIn u = true := by
  cases v with
  | non => cases (show u = Value.none from r); rfl
  | bl b => cases (show u = Value.bool b from r); rfl
  | int i => obtain ⟨t, e⟩ := (show ∃ t, u = Value.int i t from r); cases e; rfl
  | str x => obtain ⟨t, e⟩ := (show ∃ t, u = Value.str x t from r); cases e; rfl
  | byt b => obtain ⟨t, e⟩ := (show ∃ t, u = Value.bytes b t from r); cases e; rfl
  | flt b => obtain ⟨t, e⟩ := (show ∃ t, u = Value.float b t from r); cases e; rfl
  | ref a => cases (show u = Value.ref a from r); rfl
  | ty n => cases (show u = Value.type n from r); rfl

section
variable {P : Program} {w : World} {H H' : Hp} {h h' : Heap} {a C dx : Addr} {fs fs' : List (Str × V)}
theorem ins_get (hok : HOk P w H h) (e : H a = some (.ins C dx fs)) : ∃ mA, ObjM h a dx C mA ∧ (∀ f, RelO (fs.lookup f) (mA f)) ∧ PySem.Within mA (fs.map (·.1)) ∧ fs.length ≤ 1000 ∧ H dx = some (.own a) := by
  obtain ⟨d, z, ne, ob, mA, n, r, q⟩ := (show ObjOk P w H h a (.ins C dx fs) from hok a _ e)
  exact ⟨mA, ⟨ob, n, ne⟩, r, q, z, d⟩
end

/-! ### what of the text a class must have -/
structure Cls (K : PySem.W.Frag) (C : Addr) : Prop where
  pg : PySem.W.plainGet K C Str.empty = true
  hd : PySem.W.hasDictIn K C = true
  po : PySem.W.plainOver K C = true
  sa : PySem.W.findIn K (.ref C) "__setattr__" = some (some (.builtin "object.__setattr__"))
theorem Cls.get {K : PySem.W.Frag} {C : Addr} (c : Cls K C) (f : Str) : PySem.W.plainGet K C f = true := c.pg
/-- no class of it has the name -/
def NoAttr (K : PySem.W.Frag) (C : Addr) (f : Str) : Prop := PySem.W.findIn K (.ref C) f = some none
theorem NoAttr.taker {K : PySem.W.Frag} {C : Addr} {f : Str} (n : NoAttr K C f) : PySem.W.takerIn K C f = some none := by
  unfold PySem.W.takerIn
  rw [show PySem.W.findIn K (.ref C) f = some none from n]
  rfl
/-- a method: a plain def of the class or of one above it -/
structure Meth (K : PySem.W.Frag) (C : Addr) (m : Str) (f : Addr) : Prop where
  at_ : PySem.W.findIn K (.ref C) m = some (some (.ref f))
  fn : PySem.W.isFn K (.ref f) = true
  kp : PySem.W.keepIn K (.ref f) = true

section
variable {X : Cx} {pins : List (Addr × Obj)} {σ : St} {H : Hp} {s : Shared} {a C dx : Addr} {fs : List (Str × V)} {f : Str} {v : V} {A : Around} {E : Value → Shared → Prop}

theorem getattr_ok {b : Bool} {Q : Value → Shared → Prop} (I : Inv X pins σ H s) (e : H a = some (.ins C dx fs)) (c : Cls X.K C) (n : NoAttr X.K C f) (l : fs.lookup f = some v)
    (h : ∀ u s', Inv X pins σ H s' → RelV v u → Q u s') : wpAny (model X.prog X.w) A (getAttr (.ref a) f b) Q E s := by
  obtain ⟨mA, O, r, _, _, _⟩ := ins_get I.hok e
  obtain ⟨u, hu, ru⟩ := RelO.some_of (v := v) (o := mA f) (by rw [← l]; exact r f)
  exact get_map I.kIn O (c.get f) c.hd n hu (handed_of ru) (h u _ (I.tok _) ru)


theorem getmeth_ok {m : Str} {g : Addr} {pl : Sem Bool} {Q : Value × List Value → Shared → Prop} (I : Inv X pins σ H s) (e : H a = some (.ins C dx fs)) (c : Cls X.K C) (k : Meth X.K C m g) (l : fs.lookup m = none)
    (h : Q (.ref g, [.ref a]) s) : wpAny (model X.prog X.w) A (getMethod (.ref a) m pl) Q E s := by
  obtain ⟨mA, O, r, _, _, _⟩ := ins_get I.hok e
  have hn : mA m = none := RelO.none_of (by rw [← l]; exact r m)
  exact get_meth I.kIn O (c.get m) k.at_ k.fn hn h

theorem setattr_ok {y : V} {u : Value} {Q : Unit → Shared → Prop} (I : Inv X pins σ H s) (e : H a = some (.ins C dx fs)) (c : Cls X.K C) (n : NoAttr X.K C f) (hl : fs.length < 1000) (ry : RelV y u)
    (h : ∀ s', Inv X pins σ (upd H a (.ins C dx (putF f y fs))) s' → Q () s') : wpAny (model X.prog X.w) A (setAttr (.ref a) f u) Q E s := by
  obtain ⟨mA, O, r, wi, _, ho⟩ := ins_get I.hok e
  have hz : (fs.map (·.1)).length ≤ sizeLine := by rw [List.length_map, sizeLine_eq]; omega
  refine set_map I.kIn O c.sa c.po n.taker c.hd wi hz fun h' O' sb => h _ ?_
  have hd : ∃ o, h'.get? dx = some o := let ⟨o, _, _, e', _⟩ := O'.ns; ⟨o, e'⟩
  refine I.write (x := a) (e := dx) (by rw [e]; exact True.intro) (.inr ho) (fun b q hb z => (sb.2 b hb).trans z) hd ?_
  refine ⟨by rw [upd_ne O.ne]; exact ho, ?_, O.ne, O'.obj, _, O'.ns, fun g => ?_, fun g hg => ?_⟩
  · have := length_putF f y fs; omega
  · show RelO ((putF f y fs).lookup g) (if g = f then some u else mA g)
    rw [lookup_putF]
    by_cases q : g = f
    · rw [if_pos q, if_pos q]; exact ry
    · rw [if_neg q, if_neg q]; exact r g
  · by_cases q : g = f
    · rw [q]; exact (keys_putF f y fs).1
    · refine (keys_putF f y fs).2 g (wi g fun z => hg ?_)
      show (if g = f then some u else mA g) = none
      rw [if_neg q]; exact z

/-- a new instance, tracked, without attributes -/
theorem Inv.made (I : Inv X pins σ H s) : Inv X pins σ (upd (upd H s.heap.objs.size (.own (s.heap.objs.size + 1))) (s.heap.objs.size + 1) (.ins C s.heap.objs.size []))
    { s with heap := (s.heap.push PySem.W.emptyDict).push (PySem.W.instObj C s.heap.objs.size) } := by
  have e1 : (s.heap.push PySem.W.emptyDict).get? s.heap.objs.size = some PySem.W.emptyDict := Heap.get?_push_size s.heap rfl
  have e2 : ((s.heap.push PySem.W.emptyDict).push (PySem.W.instObj C s.heap.objs.size)).get? (s.heap.objs.size + 1) = some (PySem.W.instObj C s.heap.objs.size) := by
    have := Heap.get?_push_size (s.heap.push PySem.W.emptyDict) (o := PySem.W.instObj C s.heap.objs.size) rfl
    rwa [Heap.size_push] at this
  have e3 : (s.heap.push PySem.W.emptyDict).Ns s.heap.objs.size (fun _ => none) := ⟨PySem.W.emptyDict, #[], _, e1, rfl, (fun e he => absurd he (by simp)), fun _ => rfl⟩
  have I1 := I.laid (a := s.heap.objs.size) (o := .own (s.heap.objs.size + 1)) (h' := s.heap.push PySem.W.emptyDict) (t' := s.toks) (fun b u q => Heap.get?_push_of_some _ q) (Nat.le_refl _) ⟨_, e1⟩
  refine I1.laid (a := s.heap.objs.size + 1) (o := .ins C s.heap.objs.size []) (t' := s.toks) (fun b u q => Heap.get?_push_of_some _ q) (Nat.le_of_eq (Heap.size_push _ _)) ?_
  have ne : s.heap.objs.size ≠ s.heap.objs.size + 1 := Nat.ne_of_lt (Nat.lt_succ_self _)
  refine ⟨by rw [upd_ne ne, upd_same], Nat.zero_le _, ne, e2, fun _ => none, (Heap.Ns1.of_empty e3).at fun o q => Heap.get?_push_of_some _ q, fun _ => True.intro, fun y hy => absurd rfl hy⟩

/-- e.f where nothing but the object is asked: through attributeBase (super) and the last hold -/
theorem attr_of {prog : Program} {w : World} {env : Env} {e : Expr} {f : Str} {pos : Pos} {s : Shared} {Q : Value → Shared → Prop} (hb : attributeBase e f env (eval e env) = eval e env)
    (h : wpAny (model prog w) A (eval e env) (fun o s₁ => wpAny (model prog w) A (getAttr o f true) Q E s₁) E s) : wpAny (model prog w) A (eval (.Attribute e f pos) env) Q E s :=
  Attribute_any_ h (by rw [arm_eval_Attribute, hb])
end

/-! ### readings and rules -/
/-- e.f, an attribute of the instance -/
def tFld (K : PySem.W.Frag) (ta : TE) (f : Str) : TE := fun σ H Q => ta σ H fun x H1 => ∃ a C dx fs v, x = .ref a ∧ H1 a = some (.ins C dx fs) ∧ Cls K C ∧ NoAttr K C f ∧ fs.lookup f = some v ∧ Q v H1
/-- e.f = value -/
def sFld (K : PySem.W.Frag) (ta tv : TE) (f : Str) : TS := fun D σ H => tv σ H fun y H1 => ta σ H1 fun x H2 => ∃ a C dx fs, x = .ref a ∧ H2 a = some (.ins C dx fs) ∧ Cls K C ∧ NoAttr K C f ∧ fs.length < 1000 ∧
  D.nx σ (upd H2 a (.ins C dx (putF f y fs)))
/-- an augmented operator on two values -/
def InOp (X : Cx) (op : Operator) (rd : V → V → Hp → VK → Prop) : Prop :=
  ∀ (pins : List (Addr × Obj)) (s : Shared) (σ : St) (H : Hp) (x y : V) (u v : Value) (Q : VK), Inv X pins σ H s → RelV x u → RelV y v → rd x y H Q → wpAny (model X.prog X.w) X.A (inplaceOp op u v) (EP X pins σ Q) X.xe s

section
variable {X : Cx} {o e value : Expr} {f : Str} {pos pos' tpos : Pos} {ta tv : TE}
theorem pe_fld (he : PE X e ta) (hb : attributeBase e f X.env (eval e X.env) = eval e X.env) : PE X (.Attribute e f pos) (tFld X.K ta f) := by
  intro pins s σ H Q I h
  refine attr_of hb (thn (he pins s σ H _ I h) fun u s1 ⟨x, H1, I1, rx, a, C, dx, fs, v, ex, ea, c, n, l, q⟩ => ?_)
  subst ex
  obtain rfl : u = Value.ref a := rx
  exact getattr_ok I1 ea c n l fun u' s2 I2 ru => ⟨v, H1, I2, ru, q⟩
theorem ps_fld (ha : PE X o ta) (hv : PE X value tv) (hs : swapsWith value (some (.Attribute o f pos')) pos.line X.env = pure false) : PS X (.Assign [.Attribute o f pos'] value pos) (sFld X.K ta tv f) := by
  intro pins s σ H D I h
  refine plainObj_wpAny_Assign_Attribute (thn (hv pins s σ H _ I h) fun u s1 ⟨y, H1, I1, ry, q⟩ => thn (ha pins s1 σ H1 _ I1 q) fun ov s2 ⟨x, H2, I2, rx, a, C, dx, fs, ex, ea, c, n, l, q2⟩ => ?_) hs
  subst ex
  obtain rfl : ov = Value.ref a := rx
  exact setattr_ok I2 ea c n l ry fun s3 I3 => ⟨σ, _, I3, q2⟩

end

/-! ### isinstance -/
section
variable {X : Cx} {pins : List (Addr × Obj)} {σ : St} {H : Hp} {s : Shared} {A : Around} {E : Value → Shared → Prop} {Q : Value → Shared → Prop} {c : Value} {b : Bool}
/-- the type of a value, as the fragment's deciders take it; for an instance its class -/
inductive TyOf (K : PySem.W.Frag) (H : Hp) : V → Value → Prop where
  | non : TyOf K H .non (.type "NoneType")
  | bl (x : Bool) : TyOf K H (.bl x) (.type "bool")
  | int (i : Int) : TyOf K H (.int i) (.type "int")
  | str (x : Str) : TyOf K H (.str x) (.type "str")
  | flt (x : UInt64) : TyOf K H (.flt x) (.type "float")
  | lst {a : Addr} {xs : List V} (e : H a = some (.lst xs)) : TyOf K H (.ref a) (.type "list")
  | frz {a : Addr} {o : Obj} {xs : List V} (e : H a = some (.frz o (.lst xs))) : TyOf K H (.ref a) (.type "list")
  | tup {a : Addr} {xs : List V} (e : H a = some (.tup xs)) : TyOf K H (.ref a) (.type "tuple")
  | dK {a : Addr} {kvs : List (Key × V)} (e : H a = some (.dK kvs)) : TyOf K H (.ref a) (.type "dict")
  | dT {a : Addr} {kvs : List (List Key × V)} (e : H a = some (.dT kvs)) : TyOf K H (.ref a) (.type "dict")
  | ins {a C dx : Addr} {fs : List (Str × V)} (e : H a = some (.ins C dx fs)) (cl : Cls K C) (ha : PySem.W.findIn K (.ref C) "__class__" = some (some (.builtin "object.__class__")))
      (hn : PySem.W.specialIn K (.builtin "object.__class__") "__get__" = some (some (.builtin "getset_descriptor.__get__"))) (htk : PySem.W.takesIn K (.builtin "object.__class__") = some true)
      (hm : PySem.W.mroIn K C (.type "object") = some true) : TyOf K H (.ref a) (.ref C)
/-- isinstance(x, c) for one class c, a built-in or an own one: kitOne's answer -/
theorem isinst_ok {x : V} {u t : Value} (I : Inv X pins σ H s) (rx : RelV x u) (ty : TyOf X.K H x t) (e : PySem.W.kitOne X.K t c = some b) (h : ∀ tk, Q (.bool b) { s with toks := tk }) :
    wpAny (model X.prog X.w) A (call (.builtin "isinstance") [u, c]) Q E s := by
  cases ty with
  | non => cases (show u = Value.none from rx); exact PySem.W.kia_one PySem.W.kitx_none I.kIn True.intro e (fun z => nomatch z) h
  | bl y => cases (show u = Value.bool y from rx); exact PySem.W.kia_one PySem.W.kitx_bool I.kIn True.intro e (fun z => nomatch z) h
  | int i => obtain ⟨t, q⟩ := (show ∃ t, u = Value.int i t from rx); cases q; exact PySem.W.kia_one PySem.W.kitx_int I.kIn True.intro e (fun z => nomatch z) h
  | str y => obtain ⟨t, q⟩ := (show ∃ t, u = Value.str y t from rx); cases q; exact PySem.W.kia_one PySem.W.kitx_str I.kIn True.intro e (fun z => nomatch z) h
  | flt y => obtain ⟨t, q⟩ := (show ∃ t, u = Value.float y t from rx); cases q; exact PySem.W.kia_one PySem.W.kitx_float I.kIn True.intro e (fun z => nomatch z) h
  | @lst a xs ea =>
    cases (show u = Value.ref a from rx)
    obtain ⟨_, _, n, _, h1⟩ := (show ObjOk X.prog X.w H s.heap a (.lst xs) from I.hok a _ ea)
    exact PySem.W.kia_one PySem.W.kitx_list I.kIn ⟨_, h1, rfl⟩ e (fun z => nomatch z) h
  | @frz a ob xs ea =>
    cases (show u = Value.ref a from rx)
    obtain ⟨_, _, _, n, _, h1⟩ := (show ObjOk X.prog X.w H s.heap a (.frz ob (.lst xs)) from I.hok a _ ea)
    exact PySem.W.kia_one PySem.W.kitx_list I.kIn ⟨_, h1, rfl⟩ e (fun z => nomatch z) h
  | @tup a xs ea =>
    cases (show u = Value.ref a from rx)
    obtain ⟨_, _, _, p⟩ := (show ObjOk X.prog X.w H s.heap a (.tup xs) from I.hok a _ ea)
    obtain ⟨o, h1, h2, _⟩ := p
    exact PySem.W.kia_one PySem.W.kitx_tuple I.kIn ⟨o, h1, h2⟩ e (fun z => nomatch z) h
  | @dK a kvs ea =>
    cases (show u = Value.ref a from rx)
    obtain ⟨_, _, vs, _, p⟩ := (show ObjOk X.prog X.w H s.heap a (.dK kvs) from I.hok a _ ea)
    obtain ⟨o, es, ep, h1, h2, _⟩ := p
    exact PySem.W.kia_one PySem.W.kitx_dict I.kIn ⟨o, h1, h2.1⟩ e (fun z => nomatch z) h
  | @dT a kvs ea =>
    cases (show u = Value.ref a from rx)
    obtain ⟨_, _, xs, _, o, es, ep, h1, h2, _⟩ := (show ObjOk X.prog X.w H s.heap a (.dT kvs) from I.hok a _ ea)
    exact PySem.W.kia_one PySem.W.kitx_dict I.kIn ⟨o, h1, h2.1⟩ e (fun z => nomatch z) h
  | @ins a C dx fs ea cl ha hn htk hm =>
    cases (show u = Value.ref a from rx)
    obtain ⟨mA, O, _⟩ := ins_get I.hok ea
    obtain ⟨od, J, _⟩ := O.look
    exact PySem.W.kia_one (PySem.W.kitx_own (cl.get _) cl.hd ha hn htk hm) I.kIn J e (fun z => nomatch z) h
end
end L2

namespace L2
open PySem PySem.Spec PyProof.Rows

/-! ### room -/
structure Room (k : Nat) (A : Around) : Prop where
  hd : A.handled = none
  dp : A.depth + 3 * k + 5 < recursionLimit
  un : A.units + 16 * k + 200 < cLine
theorem Room.mono {j k : Nat} {A : Around} (r : Room k A) (h : j ≤ k) : Room j A := ⟨r.hd, by have := r.dp; omega, by have := r.un; omega⟩
theorem Room.deeper {k : Nat} {A : Around} (r : Room (k + 1) A) (env : Env) : Room k (A.deeper env) :=
  ⟨r.hd, by have := r.dp; show A.depth + 1 + 3 * k + 5 < _; omega, by have := r.un; show A.units + 3 + 16 * k + 200 < _; omega⟩
theorem make_depth {A : Around} {C : Addr} {us : List Value} {kw : List (Str × Value)} : (A.under (.builtin "type.__call__" ⟨.ref C :: us, kw⟩)).depth = A.depth + 1 := by
  first | rfl | simp [Around.under, Code.weight, Code.isCreation, Code.isGuard, Code.isCaller, Code.frames, Code.isFrame, guardIds]
theorem make_units {A : Around} {C : Addr} {us : List Value} {kw : List (Str × Value)} : (A.under (.builtin "type.__call__" ⟨.ref C :: us, kw⟩)).units = A.units + 1 := by
  first | rfl | simp [Around.under, Code.cUnits, Code.frames, Code.isFrame]
theorem Room.make {k : Nat} {A : Around} (r : Room (k + 1) A) (C : Addr) (us : List Value) (kw : List (Str × Value)) : Room k (A.under (.builtin "type.__call__" ⟨.ref C :: us, kw⟩)) :=
  ⟨r.hd, by have := r.dp; rw [make_depth]; omega, by have := r.un; rw [make_units]; omega⟩
theorem Room.depth {k : Nat} {A : Around} (r : Room k A) : A.depth < recursionLimit := by have := r.dp; omega
theorem Room.units0 {k : Nat} {A : Around} (r : Room k A) : A.units < cLine := by have := r.un; omega

/-! ### argument lists and displays -/
def tNil : TA := fun _ H Q => Q [] H
def tCons (ta : TE) (tr : TA) : TA := fun σ H Q => ta σ H fun x H1 => tr σ H1 fun xs H2 => Q (x :: xs) H2
section
variable {X : Cx} {e : Expr} {es : List Expr} {te : TE} {t : TA} {pos : Pos}
theorem pa_nil : PA X [] tNil := fun _ _ _ _ H Q I h => Calls.spliced_nil ⟨[], H, I, .nil, h⟩
theorem pa_cons (ha : PE X e te) (hr : PA X es t) (hs : starEach (e :: es) X.env = (false, eval e X.env) :: starEach es X.env := by rfl) : PA X (e :: es) (tCons te t) := by
  intro pos pins s σ H Q I h
  rw [hs]
  show wpAny _ _ (spliced ((false, eval e X.env) :: backTo pos (starEach es X.env))) _ _ s
  refine Calls.spliced_cons (thn (ha pins s σ H _ I h) fun u s1 ⟨x, H1, I1, r1, q1⟩ => ?_)
  exact thn (hr pos pins s1 σ H1 _ I1 q1) fun us s2 ⟨xs, H2, I2, r2, q2⟩ => ⟨x :: xs, H2, I2, .cons r1 r2, q2⟩

/-- a tuple, a list of written items -/
def tTup (t : TA) : TE := fun σ H Q => t σ H fun xs H1 => xs.length ≤ sizeLine ∧ ∀ p, H1 p = none → Q (.ref p) (upd H1 p (.tup xs))
def tLst (t : TA) : TE := fun σ H Q => t σ H fun xs H1 => xs.length ≤ sizeLine ∧ ∀ p, H1 p = none → Q (.ref p) (upd H1 p (.lst xs))
theorem pe_tup {x1} (h : PA X es t) : PE X (.Tuple es x1 pos) (tTup t) := by
  intro pins s σ H Q I hq
  refine wpAny_Tuple_spliced (thn (h pos pins s σ H _ I hq) fun us s1 ⟨xs, H1, I1, r, z, q⟩ => ⟨by rw [← r.length]; exact z, ?_⟩)
  have hf : H1 s1.heap.objs.size = none := I1.hok.fresh (Nat.le_refl _)
  refine ⟨.ref s1.heap.objs.size, upd H1 s1.heap.objs.size (.tup xs), I1.laid (t' := s1.toks) (fun b u e => Heap.get?_push_of_some _ e) (Nat.le_refl _) ?_, rfl, q _ hf⟩
  exact ⟨z, us, r, ⟨_, Heap.get?_push_size _ rfl, rfl, _, rfl⟩⟩
theorem pe_lst (h : PA X es t) : PE X (.List es pos) (tLst t) := by
  intro pins s σ H Q I hq
  refine wpAny_List_spliced (thn (h pos pins s σ H _ I hq) fun us s1 ⟨xs, H1, I1, r, z, q⟩ => ⟨by rw [← r.length]; exact z, ?_⟩)
  have hf : H1 s1.heap.objs.size = none := I1.hok.fresh (Nat.le_refl _)
  refine ⟨.ref s1.heap.objs.size, upd H1 s1.heap.objs.size (.lst xs), I1.laid (t' := s1.toks) (fun b u e => Heap.get?_push_of_some _ e) (Nat.le_refl _) ?_, rfl, q _ hf⟩
  exact ⟨z, us, 0, r, Heap.get?_push_size _ rfl⟩
end

/-! ### what a def promises -/
/-- a def's promise: the bound arguments in the parameters' order, the heap, the wanted end, the wanted exception -/
abbrev Sp := List V → Hp → VK → XK → Prop
/-- how an exception lies behind a call (file 08 gives it): the callers' frames, abstract heap and state ahead of the call, the wish, the exception, the state -/
abbrev CXT := List Env → Hp → Shared → XK → Value → Shared → Prop

/-- the state at a call -/
structure Env0 (P : Program) (w : World) (K : PySem.W.Frag) (mg : Str → Option Value) (base : Heap) (A : Around) (outer : List Env) (s : Shared) (H : Hp) : Prop where
  frames : A.frames = some outer
  mod : Mod K mg base
  bs : ∀ b o, base.get? b = some o → s.heap.get? b = some o ∧ H b = none
  bsz : base.objs.size ≤ s.heap.objs.size
  funs : s.heap.FunFrames base outer
  frf : ∀ b ∈ frs outer, H b = none
  hok : HOk P w H s.heap
  bare : AllBare s.gens
/-- a call's end -/
def CE (outer : List Env) (P : Program) (w : World) (H : Hp) (s : Shared) (Q : VK) (u : Value) (s' : Shared) : Prop :=
  ∃ v H', s'.os = s.os ∧ AllBare s'.gens ∧ Un (frs outer) [] H H' s.heap s'.heap ∧ HOk P w H' s'.heap ∧ RelV v u ∧ Q v H'
def CR (CX : CXT) (outer : List Env) (P : Program) (w : World) (H : Hp) (s : Shared) (Q : VK) (E : XK) (r : Result) (s' : Shared) : Prop :=
  match r with
  | .ok (.ret u) => CE outer P w H s Q u s'
  | .ok _ => False
  | .error e => CX outer H s E e s'
structure FnOk (P : Program) (w : World) (K : PySem.W.Frag) (mg : Str → Option Value) (base : Heap) (CX : CXT) (k : Nat) (f : Addr) (fd : FuncData) (ps : List Str) (sp : Sp) : Prop where
  len : ∀ vs H Q E, sp vs H Q E → vs.length = ps.length
  run : ∀ (A : Around) (outer : List Env) (s : Shared) (H : Hp) (args : Args) (us : List Value) (vs : List V) (Q : VK) (E : XK), Room k A → Env0 P w K mg base A outer s H → BindsTo s fd args (ps.zip us) → Vals vs us → sp vs H Q E →
    codeAny (model P w) A (.call (.ref f) args) (CR CX outer P w H s Q E) s

theorem Env0.make {P : Program} {w : World} {K : PySem.W.Frag} {mg : Str → Option Value} {base : Heap} {A : Around} {outer : List Env} {s : Shared} {H : Hp} (e : Env0 P w K mg base A outer s H) (C : Addr) (us : List Value) (kw : List (Str × Value)) :
    Env0 P w K mg base (A.under (.builtin "type.__call__" ⟨.ref C :: us, kw⟩)) outer s H := ⟨by first | exact e.frames | (simpa [Around.under, Code.envs, Code.isFrame, pushEnvs] using e.frames), e.mod, e.bs, e.bsz, e.funs, e.frf, e.hok, e.bare⟩

section
variable {X : Cx} {pins : List (Addr × Obj)} {σ : St} {H : Hp} {s s' : Shared}
/-- from a body: what a callee wants -/
theorem Inv.env0 (I : Inv X pins σ H s) : Env0 X.prog X.w X.K X.mg X.base X.A X.stack s H :=
  ⟨I.ok.frames, I.ok.mod, I.bs, Nat.le_trans I.ok.bsz I.sz, I.stack, I.stkFree, I.hok, I.bare⟩
/-- behind a call -/
theorem Inv.after {Q : VK} {u : Value} (I : Inv X pins σ H s) (h : CE X.stack X.prog X.w H s Q u s') : EP X pins σ Q u s' := by
  obtain ⟨v, H', os, bare, un, hok, r, q⟩ := h
  obtain ⟨hh, g, d, t, os'⟩ := s'
  obtain rfl : os' = s.os := os
  exact ⟨v, H', I.call (h' := hh) (g' := g) (d' := d) (t' := t) (ch := []) un hok bare (fun b z => absurd z (by simp)), r, q⟩
end

/-! ### calls -/
/-- f(..): the written arguments, then the defaults dvs; E: what is wanted of an exception -/
def tCall (sp : Sp) (dvs : List V) (E : XK) (t : TA) : TE := fun σ H Q => t σ H fun vs H1 => sp (vs ++ dvs) H1 Q E
/-- o.m(..) of an instance of the class at C -/
def tMeth (C : Addr) (m : Str) (sp : Sp) (dvs : List V) (E : XK) (ta : TE) (t : TA) : TE := fun σ H Q => ta σ H fun x H1 => ∃ a dx fs, x = .ref a ∧ H1 a = some (.ins C dx fs) ∧ fs.lookup m = none ∧
  t σ H1 fun vs H2 => sp (x :: (vs ++ dvs)) H2 Q E
/-- C(..): a new instance and its dict, then __init__ -/
def tMake (C : Addr) (sp : Sp) (dvs : List V) (E : XK) (t : TA) : TE := fun σ H Q => t σ H fun vs H1 => ∀ x dx, H1 x = none → H1 dx = none → dx ≠ x →
  sp (.ref x :: (vs ++ dvs)) (upd (upd H1 dx (.own x)) x (.ins C dx [])) (fun v H2 => v = .non ∧ Q (.ref x) H2) E

/-- how the parameters are bound: us the positional arguments, kw the keywords' values by name, ds the defaults that fill up -/
def Binds (K : PySem.W.Frag) (fd : FuncData) (ps : List Str) (ds : List Value) : Prop :=
  ∀ (s : Shared) (us : List Value), K.In s.heap → (us ++ ds).length = ps.length → BindsTo s fd ⟨us, []⟩ (ps.zip (us ++ ds))
/-- every parameter is given -/
theorem Binds.all {K : PySem.W.Frag} {fd : FuncData} {ps : List Str} (h : ∀ us : List Value, us.length = ps.length → bindArgs fd ⟨us, []⟩ = pure (ps.zip us)) : Binds K fd ps [] := fun s us _ hl => by
  rw [List.append_nil] at hl ⊢
  exact .of_eq (h us hl)

/-- an exception of a callee reaches what this body wants of exceptions -/
def Passes (CX : CXT) (X : Cx) (E : XK) : Prop := ∀ (pins : List (Addr × Obj)) (σ : St) (H : Hp) (s : Shared) (e : Value) (s' : Shared), Inv X pins σ H s → CX X.stack H s E e s' → X.xe e s'

section
variable {X : Cx} {CX : CXT} {k : Nat} {f C : Addr} {fd : FuncData} {ps : List Str} {sp : Sp} {dvs : List V} {ds : List Value} {E : XK} {x m : Str} {p pos apos : Pos} {e o : Expr} {es : List Expr} {ta : TE} {t : TA}

/-- the callee runs -/
theorem run_fn {pins : List (Addr × Obj)} {σ : St} {H : Hp} {s : Shared} {Q : VK} {us : List Value} {vs : List V} (F : FnOk X.prog X.w X.K X.mg X.base CX k f fd ps sp) (hr : Room k X.A) (hb : Binds X.K fd ps ds) (hd : Vals dvs ds) (hx : Passes CX X E)
    (I : Inv X pins σ H s) (r : Vals vs us) (h : sp (vs ++ dvs) H Q E) : wpAny (model X.prog X.w) X.A (call (.ref f) us) (EP X pins σ Q) X.xe s := by
  have r2 : Vals (vs ++ dvs) (us ++ ds) := r.append hd
  have hl : (us ++ ds).length = ps.length := by rw [← r2.length]; exact F.len _ _ _ _ h
  refine wpAny_call (codeAny_mono (F.run X.A X.stack s H ⟨us, []⟩ (us ++ ds) (vs ++ dvs) Q E hr I.env0 (hb s us I.kIn hl) r2 h) fun r s' hq => ?_)
  cases r with
  | error e => exact hx pins σ H s e s' I hq
  | ok fl =>
    cases fl with
    | ret u => exact I.after hq
    | next => exact False.elim hq
    | brk => exact False.elim hq
    | cont => exact False.elim hq

theorem pe_call (F : FnOk X.prog X.w X.K X.mg X.base CX k f fd ps sp) (hr : Room k X.A) (hg : Gl X x) (hm : X.mg x = some (.ref f)) (hk : PySem.W.keepIn X.K (.ref f) = true) (hb : Binds X.K fd ps ds) (hd : Vals dvs ds) (hx : Passes CX X E)
    (ha : PA X (e :: es) t) (hdb : (x == ("__debug__" : Str)) = false := by decide) (he : starEach (e :: es) X.env = (false, eval e X.env) :: starEach es X.env := by rfl) (hpl : (backTo pos (starEach es X.env)).any (·.1) = false := by rfl) :
    PE X (.Call (.Name x p) (e :: es) [] pos) (tCall sp dvs E t) := by
  intro pins s σ H Q I h
  refine wpAny_Call_Name_kw (ld_glob I hg hm ?_ hdb)
  refine PySem.W.callWith_K (h₀ := X.base) I.ok.mod.kin hk (thn (ha pos pins s σ H _ I h) fun us s1 ⟨vs, H1, I1, r, q⟩ => ⟨I1.kIn, ?_⟩) he hpl
  exact run_fn F hr hb hd hx I1 r q

/-- o.m(e, ..) -/
theorem pe_meth {pl : Sem Bool} (he : PE X o ta) (c : Cls X.K C) (hm : Meth X.K C m f) (F : FnOk X.prog X.w X.K X.mg X.base CX k f fd ps sp) (hr : Room k X.A) (hb : Binds X.K fd ps ds) (hd : Vals dvs ds) (hx : Passes CX X E) (ha : PA X (e :: es) t)
    (hst : starEach (e :: es) X.env = (false, eval e X.env) :: starEach es X.env := by rfl) (hpl : (backTo pos (starEach es X.env)).any (·.1) = false := by rfl)
    (ht : eval (.Call (.Attribute o m apos) (e :: es) [] pos) X.env = (do
      let ov ← eval o X.env
      standAt apos.atName
      let (f, first) ← holding [ov] (getMethod ov m pl)
      callWith pos f first (backTo pos (starEach (e :: es) X.env)) (backToKw pos (keywordEach [] X.env))) := by rfl) :
    PE X (.Call (.Attribute o m apos) (e :: es) [] pos) (tMeth C m sp dvs E ta t) := by
  intro pins s σ H Q I h
  refine PySem.W.methodCall_KW (pl := pl) (thn (he pins s σ H _ I h) fun u s1 ⟨x, H1, I1, rx, a, dx, fs, ex, ea, l, q⟩ => ?_) ht
  subst ex
  obtain rfl : u = Value.ref a := rx
  refine getmeth_ok I1 ea c hm l ?_
  refine PySem.W.callWith_K (first := [.ref a]) (h₀ := X.base) I.ok.mod.kin hm.kp (thn (ha pos pins s1 σ H1 _ I1 q) fun us s2 ⟨vs, H2, I2, r, q2⟩ => ⟨I2.kIn, ?_⟩) hst hpl
  exact run_fn (us := .ref a :: us) (vs := .ref a :: vs) F hr hb hd hx I2 (.cons rfl r) q2
/-- o.m() -/
theorem pe_meth0 {pl : Sem Bool} (he : PE X o ta) (c : Cls X.K C) (hm : Meth X.K C m f) (F : FnOk X.prog X.w X.K X.mg X.base CX k f fd ps sp) (hr : Room k X.A) (hb : Binds X.K fd ps ds) (hd : Vals dvs ds) (hx : Passes CX X E)
    (ht : eval (.Call (.Attribute o m apos) [] [] pos) X.env = (do
      let ov ← eval o X.env
      standAt apos.atName
      let (f, first) ← holding [ov] (getMethod ov m pl)
      callWith pos f first (backTo pos (starEach [] X.env)) (backToKw pos (keywordEach [] X.env))) := by rfl) :
    PE X (.Call (.Attribute o m apos) [] [] pos) (tMeth C m sp dvs E ta tNil) := by
  intro pins s σ H Q I h
  refine PySem.W.methodCall_KW (pl := pl) (thn (he pins s σ H _ I h) fun u s1 ⟨x, H1, I1, rx, a, dx, fs, ex, ea, l, q⟩ => ?_) ht
  subst ex
  obtain rfl : u = Value.ref a := rx
  refine getmeth_ok I1 ea c hm l ?_
  exact PySem.W.callWith_K0 (first := [.ref a]) I1.kIn hm.kp (run_fn (us := [.ref a]) (vs := [.ref a]) F hr hb hd hx I1 (.cons rfl .nil) q)

/-- what a class must have to be made -/
structure Mk (K : PySem.W.Frag) (C f : Addr) : Prop where
  makes : PySem.W.makesIn K C = true
  init : PySem.W.findIn K (.ref C) "__init__" = some (some (.ref f))
  fn : PySem.W.isFn K (.ref f) = true
  kp : PySem.W.keepIn K (.ref C) = true

theorem run_make {pins : List (Addr × Obj)} {σ : St} {H : Hp} {s : Shared} {Q : VK} {us : List Value} {vs : List V} (M : Mk X.K C f) (F : FnOk X.prog X.w X.K X.mg X.base CX k f fd ps sp) (hr : Room (k + 1) X.A) (hb : Binds X.K fd ps ds) (hd : Vals dvs ds)
    (hx : Passes CX X E) (I : Inv X pins σ H s) (r : Vals vs us)
    (h : ∀ x dx, H x = none → H dx = none → dx ≠ x → sp (.ref x :: (vs ++ dvs)) (upd (upd H dx (.own x)) x (.ins C dx [])) (fun v H2 => v = .non ∧ Q (.ref x) H2) E) :
    wpAny (model X.prog X.w) X.A (call (.ref C) us) (EP X pins σ Q) X.xe s := by
  have hq := h (s.heap.objs.size + 1) s.heap.objs.size (I.hok.fresh (Nat.le_succ _)) (I.hok.fresh (Nat.le_refl _)) (Nat.ne_of_lt (Nat.lt_succ_self _))
  have I2 := Inv.made (C := C) I
  have r2 : Vals (V.ref (s.heap.objs.size + 1) :: (vs ++ dvs)) (Value.ref (s.heap.objs.size + 1) :: (us ++ ds)) := .cons rfl (r.append hd)
  have hl : (Value.ref (s.heap.objs.size + 1) :: us ++ ds).length = ps.length := by
    have e := r2.length
    rw [F.len _ _ _ _ hq] at e
    exact e.symm
  refine wpAny_call (make_map (f := f) I.kIn M.makes M.init (beq_iff_eq.mp M.fn) (codeAny_mono (F.run _ X.stack _ _ ⟨Value.ref (s.heap.objs.size + 1) :: us, []⟩ (Value.ref (s.heap.objs.size + 1) :: (us ++ ds)) _ _ E (hr.make C us [])
    (I2.env0.make C us []) (hb _ (Value.ref (s.heap.objs.size + 1) :: us) I2.kIn hl) r2 hq) fun r s' hq' => ?_))
  cases r with
  | error e => exact hx pins σ _ _ e s' I2 hq'
  | ok fl =>
    cases fl with
    | ret u =>
      obtain ⟨v, H', I3, rv, ev, q3⟩ := I2.after hq'
      subst ev
      exact ⟨rv, ⟨V.ref (s.heap.objs.size + 1), H', I3, rfl, q3⟩⟩
    | next => exact False.elim hq'
    | brk => exact False.elim hq'
    | cont => exact False.elim hq'
theorem pe_make (M : Mk X.K C f) (F : FnOk X.prog X.w X.K X.mg X.base CX k f fd ps sp) (hr : Room (k + 1) X.A) (hg : Gl X x) (hm : X.mg x = some (.ref C)) (hb : Binds X.K fd ps ds) (hd : Vals dvs ds) (hx : Passes CX X E)
    (ha : PA X (e :: es) t) (hdb : (x == ("__debug__" : Str)) = false := by decide) (he : starEach (e :: es) X.env = (false, eval e X.env) :: starEach es X.env := by rfl) (hpl : (backTo pos (starEach es X.env)).any (·.1) = false := by rfl) :
    PE X (.Call (.Name x p) (e :: es) [] pos) (tMake C sp dvs E t) := by
  intro pins s σ H Q I h
  refine wpAny_Call_Name_kw (ld_glob I hg hm ?_ hdb)
  refine PySem.W.callWith_K (h₀ := X.base) I.ok.mod.kin M.kp (thn (ha pos pins s σ H _ I h) fun us s1 ⟨vs, H1, I1, r, q⟩ => ⟨I1.kIn, ?_⟩) he hpl
  exact run_make M F hr hb hd hx I1 r q
end

/-! ### keywords -/
/-- the values of the keywords, from the left -/
def PK (X : Cx) (kws : List Keyword) (t : TA) : Prop :=
  ∀ (pos : Pos) (pins : List (Addr × Obj)) (s : Shared) (σ : St) (H : Hp) (Q : List V → Hp → Prop), Inv X pins σ H s → t σ H Q → wpAny (model X.prog X.w) X.A (evalAll ((backToKw pos (keywordEach kws X.env)).map (·.2))) (AP X pins σ Q) X.xe s
section
variable {X : Cx} {CX : CXT} {k : Nat} {f C : Addr} {fd : FuncData} {ps ks : List Str} {sp : Sp} {E : XK} {x m : Str} {p pos apos kpos : Pos} {e o : Expr} {es : List Expr} {kws : List Keyword} {te ta : TE} {t tk : TA} {nm : Option Str}
theorem pk_nil : PK X [] tNil := fun _ _ _ _ H Q I h => wpAny_evalAll_nil ⟨[], H, I, .nil, h⟩

variable {g : List Value → List Value → List Value} {gV : List V → List V → List V}
end

/-! ### a def's body keeps its promise -/
/-- names: the parameters first -/
structure FnScope (N P : List Str) (sc : Scope) : Prop where
  kind : sc.kind = .function
  co : sc.isCoroutine = false
  gen : sc.isGenerator = false
  nd : N.Nodup
  pre : N.take P.length = P
  par : ∀ x ∈ P, sc.names.lookup x = some .local ∨ sc.names.lookup x = some .cell
  nofree : ∀ y ∈ sc.names, y.2 ≠ .free

theorem bindL_out {kindOf : Str → Option NameKind} {x : Str} : ∀ {binds : List (Str × Value)} {m : Str → Option Value}, (∀ v, (x, v) ∉ binds) → bindL kindOf binds m x = m x
  | [], _, _ => rfl
  | (n, v) :: r, m, h => by
    unfold bindL
    rw [bindL_out fun w hw => h w (List.mem_cons_of_mem _ hw)]
    split
    · have : x ≠ n := by rintro rfl; exact h v List.mem_cons_self
      simp [this]
    · rfl
theorem bindC_out {kindOf : Str → Option NameKind} {x : Str} : ∀ {binds : List (Str × Value)} {m : Str → Option Value}, (∀ v, (x, v) ∉ binds) → bindC kindOf binds m x = m x
  | [], _, _ => rfl
  | (n, v) :: r, m, h => by
    unfold bindC
    rw [bindC_out fun w hw => h w (List.mem_cons_of_mem _ hw)]
    split
    · rfl
    · have : x ≠ n := by rintro rfl; exact h v List.mem_cons_self
      simp [this]
theorem bindL_get {kindOf : Str → Option NameKind} {x : Str} {v : Value} : ∀ {P : List Str} {vs : List Value} {i : Nat} {m : Str → Option Value}, P.Nodup → P[i]? = some x → vs[i]? = some v → kindOf x = some .local →
    bindL kindOf (P.zip vs) m x = some v
  | [], _, _, _, _, h, _, _ => by simp at h
  | _ :: _, [], _, _, _, _, h, _ => by simp at h
  | p :: P, w :: vs, 0, m, nd, h1, h2, hk => by
    simp at h1 h2; subst h1; subst h2
    show bindL kindOf ((p, w) :: P.zip vs) m p = _
    unfold bindL
    rw [bindL_out fun v hv => (List.nodup_cons.mp nd).1 (List.of_mem_zip hv).1, if_pos hk]
    simp
  | p :: P, w :: vs, i + 1, m, nd, h1, h2, hk => by
    show bindL kindOf ((p, w) :: P.zip vs) m x = _
    unfold bindL
    exact bindL_get (i := i) (List.nodup_cons.mp nd).2 (by simpa using h1) (by simpa using h2) hk
theorem bindC_get {kindOf : Str → Option NameKind} {x : Str} {v : Value} : ∀ {P : List Str} {vs : List Value} {i : Nat} {m : Str → Option Value}, P.Nodup → P[i]? = some x → vs[i]? = some v → kindOf x ≠ some .local →
    bindC kindOf (P.zip vs) m x = some v
  | [], _, _, _, _, h, _, _ => by simp at h
  | _ :: _, [], _, _, _, _, h, _ => by simp at h
  | p :: P, w :: vs, 0, m, nd, h1, h2, hk => by
    simp at h1 h2; subst h1; subst h2
    show bindC kindOf ((p, w) :: P.zip vs) m p = _
    unfold bindC
    rw [bindC_out fun v hv => (List.nodup_cons.mp nd).1 (List.of_mem_zip hv).1, if_neg hk]
    simp
  | p :: P, w :: vs, i + 1, m, nd, h1, h2, hk => by
    show bindC kindOf ((p, w) :: P.zip vs) m x = _
    unfold bindC
    exact bindC_get (i := i) (List.nodup_cons.mp nd).2 (by simpa using h1) (by simpa using h2) hk

/-- the names' values at the entry -/
def start (N : List Str) (vs : List V) : St := vs.map some ++ List.replicate (N.length - vs.length) none

/-- the context of a def's body, at its entry; an exception leaves the frame, then lies as CX says -/
def cxOf (CX : CXT) (P : Program) (w : World) (K : PySem.W.Frag) (mg : Str → Option Value) (base : Heap) (N : List Str) (qual : Str) (scope : Scope) (f : Addr) (cd : Value) (A : Around) (outer : List Env) (s : Shared) (H : Hp) (E : XK) : Cx where
  prog := P
  w := w
  K := K
  mg := mg
  base := base
  A := A.deeper (envOfC qual scope s.heap.objs.size f cd)
  N := N
  s₀ := s
  H₀ := H
  env := envOfC qual scope s.heap.objs.size f cd
  outer := outer
  stack := envOfC qual scope s.heap.objs.size f cd :: outer
  ex := []
  calm := true
  fn := fun _ => true
  pn := []
  xe := fun e s' => wpAny (model P w) (A.deeper (envOfC qual scope s.heap.objs.size f cd)) (leaving (envOfC qual scope s.heap.objs.size f cd) e) (fun _ s'' => CX outer H s E e s'') (fun e' s'' => CX outer H s E e' s'') s'

theorem cell_has {sc : Scope} {n : Nat} {x : Str} (h : sc.names.lookup x = some .cell) : ∃ c, (cellsFrom n sc.names []).lookup x = some c := by
  have q := PySem.W.cellsFrom_some sc.names n [] (.inl h)
  exact Option.isSome_iff_exists.mp q

theorem inv_start {CX : CXT} {P : Program} {w : World} {K : PySem.W.Frag} {mg : Str → Option Value} {base : Heap} {N ps : List Str} {qual : Str} {scope : Scope} {f : Addr} {cd : Value} {A : Around} {outer : List Env} {s s1 : Shared} {H : Hp} {E : XK} {us : List Value} {vs : List V}
    (S : FnScope N ps scope) (hd : A.handled = none) (e0 : Env0 P w K mg base A outer s H) (hl : vs.length = ps.length) (r : Vals vs us)
    (x : InCallC s s.heap.objs.size (bindL (envOfC qual scope s.heap.objs.size f cd).kindOf (ps.zip us) fun _ => none) (cellsFrom (s.heap.objs.size + 1) scope.names []) (bindC (envOfC qual scope s.heap.objs.size f cd).kindOf (ps.zip us) fun _ => none) s1) :
    Inv (cxOf CX P w K mg base N qual scope f cd A outer s H E) [] (start N vs) H s1 := by
  have hpl : ps.length ≤ N.length := by have := congrArg List.length S.pre; rw [List.length_take] at this; omega
  obtain ⟨h1, tk, rfl, hk⟩ := x.done
  have noA : ∀ b : Addr, b ∉ (cxOf CX P w K mg base N qual scope f cd A outer s H E).ex := fun b z => absurd (show b ∈ ([] : List Addr) from z) (by simp)
  refine ⟨⟨e0.mod, S.kind, rfl, rfl, Nat.le_refl _, fun y z c h1 h2 => ?_, fun y hy => ?_, fun y c _ h => ?_, fun _ => hd, Around.frames_deeper e0.frames, .inr ⟨rfl, rfl⟩, fun b z => absurd z (noA b), e0.bs, e0.bsz, fun b _ _ => noA b, fun b z => absurd z (noA b), e0.funs, e0.frf⟩,
    rfl, e0.bare, Un.kept hk, ⟨_, x.toInCall.ns, fun i y v h1 h2 h3 => ?_⟩, fun y c h => ⟨_, x.cell y c h⟩, e0.hok.fresh (Nat.le_refl _), fun y c h => ?_, fun p hp => absurd (show p ∈ ([] : List (Addr × Obj)) from hp) (by simp), e0.hok.kept hk, ?_⟩
  · exact name_of_addr x.apart (PySem.mem_of_lookup h1) (PySem.mem_of_lookup h2)
  · have hy : scope.names.lookup y = some .cell ∨ scope.names.lookup y = some .free := hy
    rcases hy with hy | hy
    · exact cell_has hy
    · exact absurd rfl (S.nofree _ (PySem.mem_of_lookup hy))
  · exact Nat.le_of_lt (x.above y c (PySem.mem_of_lookup h))
  · have hi : i < vs.length := by
      unfold start at h2
      by_cases hi : i < vs.length
      · exact hi
      · rw [List.getElem?_append_right (by simpa using hi)] at h2
        rw [List.getElem?_replicate] at h2
        split at h2 <;> cases h2
    have ha : vs[i]? = some v := by
      unfold start at h2
      rw [List.getElem?_append_left (by simpa using hi), List.getElem?_map] at h2
      cases e : vs[i]? with
      | none => rw [e] at h2; cases h2
      | some a => rw [e] at h2; cases h2; rfl
    obtain ⟨u, hu, rv⟩ := r.get ha
    have hp : ps[i]? = some y := by
      rw [← S.pre, List.getElem?_take_of_lt (by omega)]; exact h1
    have ndP : ps.Nodup := by rw [← S.pre]; exact S.nd.sublist (List.take_sublist _ _)
    refine ⟨u, rv, ?_⟩
    rcases S.par y (List.mem_of_getElem? hp) with k | k
    · exact .inl ⟨k, bindL_get ndP hp hu k⟩
    · obtain ⟨c, e⟩ := cell_has (n := s.heap.objs.size + 1) k
      refine .inr ⟨.inl k, c, e, ?_⟩
      have q := x.cell y c e
      rw [bindC_get ndP hp hu (by show scope.names.lookup y ≠ _; rw [k]; decide)] at q
      exact q
  · exact e0.hok.fresh (Nat.le_of_lt (x.above y c (PySem.mem_of_lookup h)))
  · unfold start
    show _ = N.length
    rw [List.length_append, List.length_map, List.length_replicate]
    omega

/-- THE RULE: a def (or a method) of the text, by its body. The body's reading t is chosen for each entry; it is run at the parameters' values -/
theorem fn_of {CX : CXT} {P : Program} {w : World} {K : PySem.W.Frag} {mg : Str → Option Value} {base : Heap} {k : Nat} {f : Addr} {name qual : Str} {params : Arguments} {body : List Stmt} {scope : Scope} {dV kV doc pm cdv ct oc : Value} {an od : Option Addr}
    {osl : Array (Option Value)} {N ps : List Str} {sp : Sp} (lk : K.lookup f = some ⟨oc, od, .func (PySem.W.fnOf name qual params body scope dV kV doc pm an cdv ct), osl⟩) (hcd : PySem.W.codeIn K cdv qual = true) (S : FnScope N ps scope)
    (len : ∀ vs H Q E, sp vs H Q E → vs.length = ps.length)
    (hbody : ∀ (A : Around) (outer : List Env) (s : Shared) (H : Hp) (vs : List V) (Q : VK) (E : XK), Room k (A.deeper (envOfC qual scope s.heap.objs.size f cdv)) → sp vs H Q E →
      ∃ t, PSs (cxOf CX P w K mg base N qual scope f cdv A outer s H E) body t ∧ t { nx := fun _ H' => Q .non H', rt := Q } (start N vs) H) :
    FnOk P w K mg base CX (k + 1) f (PySem.W.fnOf name qual params body scope dV kV doc pm an cdv ct) ps sp := by
  refine ⟨len, fun A outer s H args us vs Q E hr e0 hb r hsp => ?_⟩
  have hl := len _ _ _ _ hsp
  have KX : K.In s.heap := e0.mod.kin.keeps fun b o e => (e0.bs b o e).1
  have lim : s.heap.NoLimit := e0.mod.nolimit.keeps fun b o e => (e0.bs b o e).1
  have hkind : ∀ y ∈ ps.zip us, scope.names.lookup y.1 = some .local ∨ (scope.names.lookup y.1 = some .cell ∧ ((cellsFrom (s.heap.objs.size + 1) scope.names []).lookup y.1).isSome = true) := fun ⟨n, v⟩ hy => by
    rcases S.par n (List.of_mem_zip hy).1 with q | q
    · exact .inl q
    · exact .inr ⟨q, PySem.W.cellsFrom_some _ _ _ (.inl q)⟩
  refine codeAny_call_function hr.depth (KX _ _ lk) rfl S.co S.gen rfl (PySem.W.codeRec_of KX hcd) (hb _ _ _ _ ?_)
  refine wpAny_newFunctionEnv_cells S.kind hkind fun env he s1 x => ?_
  subst he
  refine ⟨lim.keeps x.toInCall.keep, codeAny_func ?_⟩
  obtain ⟨t, ht, hq⟩ := hbody A outer s H vs Q E (hr.deeper _) hsp
  have I : Inv (cxOf CX P w K mg base N qual scope f cdv A outer s H E) [] (start N vs) H s1 := inv_start S hr.hd e0 hl r x
  refine wpAny_mono (ht [] s1 (start N vs) H _ I hq) (fun fl s' hs => ?_) fun e s' hs => hs
  have fin : ∀ {σ' : St} {H' : Hp} {v : V} {u : Value}, Inv (cxOf CX P w K mg base N qual scope f cdv A outer s H E) [] σ' H' s' → RelV v u → Q v H' → CE outer P w H s Q u s' :=
    fun {σ' H' v u} J rv q => ⟨v, H', J.os, J.bare, J.base, J.hok, rv, q⟩
  cases fl with
  | ret u =>
    obtain ⟨v, σ', H', J, rv, q⟩ := hs
    exact fin J rv q
  | next =>
    obtain ⟨σ', H', J, q⟩ := hs
    exact fin (v := V.non) (u := Value.none) J rfl q
  | brk =>
    obtain ⟨_, _, _, q⟩ := hs
    exact False.elim q
  | cont =>
    obtain ⟨_, _, _, q⟩ := hs
    exact False.elim q
end L2

namespace L2
open PySem PySem.Spec PyProof.Rows
section
variable {X : Cx} {x : Str} {p pos : Pos} {e : Expr} {es : List Expr} {t : TA} {id T : String} {r : List V → Hp → VK → Prop}

def tCB (r : List V → Hp → VK → Prop) (t : TA) : TE := fun σ H Q => t σ H fun vs H1 => r vs H1 Q
/-- f(e, ..), f a built-in function -/
theorem pe_callB (hc : CallR X (.builtin id) r) (hg : Gl X x) (hm : X.mg x = none) (hv : bootBuiltins x = some (.builtin id)) (ha : PA X (e :: es) t) (hn : x ≠ "__name__" := by decide) (hdb : (x == ("__debug__" : Str)) = false := by decide)
    (he : starEach (e :: es) X.env = (false, eval e X.env) :: starEach es X.env := by rfl) (hpl : (backTo pos (starEach es X.env)).any (·.1) = false := by rfl) : PE X (.Call (.Name x p) (e :: es) [] pos) (tCB r t) := by
  intro pins s σ H Q I h
  refine wpAny_Call_Name_kw (ld_blt I hg hm hv ?_ hn hdb)
  exact PyProof.Rows.callWith_builtin1 (thn (ha pos pins s σ H _ I h) fun us s1 ⟨vs, H1, I1, r1, q1⟩ => hc pins s1 σ H1 vs us Q I1 r1 q1) he hpl
/-- T(e, ..), T a built-in type -/
theorem pe_callTy (hc : CallR X (.type T) r) (hg : Gl X x) (hm : X.mg x = none) (hv : bootBuiltins x = some (.type T)) (ha : PA X (e :: es) t) (hn : x ≠ "__name__" := by decide) (hdb : (x == ("__debug__" : Str)) = false := by decide)
    (he : starEach (e :: es) X.env = (false, eval e X.env) :: starEach es X.env := by rfl) (hpl : (backTo pos (starEach es X.env)).any (·.1) = false := by rfl) : PE X (.Call (.Name x p) (e :: es) [] pos) (tCB r t) := by
  intro pins s σ H Q I h
  refine wpAny_Call_Name_kw (ld_blt I hg hm hv ?_ hn hdb)
  exact PyProof.Rows.callWith_type1 (thn (ha pos pins s σ H _ I h) fun us s1 ⟨vs, H1, I1, r1, q1⟩ => hc pins s1 σ H1 vs us Q I1 r1 q1) he hpl
end
end L2

namespace HT
open PySem PyProof.Rows



section
open PySem.SeqAt
open PySem.AutoSeq1 (wpAny_loadPart')
open PySem.MeetsSeq PySem.MeetsSeq2 PySem.MeetsSeq3

end

section
variable {prog : Program} {w : World} {A : Around} {E : Value → Shared → Prop} {s : Shared}



/-! ### t[a:b], not the whole -/
/-- a slice's bound as a place among n (d where it is left out) -/
def sIx (n d : Nat) : Option Int → Nat
  | none => d
  | some v => if v < 0 then (v + (n : Int)).toNat else min v.toNat n

end
end HT

namespace L2
open PySem PySem.Spec PyProof.Rows

/-! ### the parts of a slice -/
abbrev TO := St → Hp → (Option Int → Hp → Prop) → Prop
/-- a slice's part (left out, or an int) -/
def PO (X : Cx) (e : Option Expr) (t : TO) : Prop :=
  ∀ (pins : List (Addr × Obj)) (s : Shared) (σ : St) (H : Hp) (Q : Option Int → Hp → Prop), Inv X pins σ H s → t σ H Q →
    wpAny (model X.prog X.w) X.A (evalPart e X.env) (fun u s' => ∃ o H', Inv X pins σ H' s' ∧ IsPart u o ∧ Q o H') X.xe s
def tPart (t : TE) : TO := fun σ H Q => t σ H fun x H1 => ∃ i, x = .int i ∧ Q (some i) H1


section
variable {X : Cx} {e : Expr} {te : TE} {lo hi : Option Expr} {tl th : TO} {pos p2 : Pos}

theorem po_some (h : PE X e te) : PO X (some e) (tPart te) := by
  intro pins s σ H Q I hw
  rw [evalPart_some]
  refine thn (h pins s σ H _ I hw) fun u s1 ⟨x, H1, I1, r1, q1⟩ => ?_
  obtain ⟨i, rfl, q⟩ := q1
  obtain ⟨t, rfl⟩ := r1
  exact ⟨some i, H1, I1, .int i t, q⟩

/-- what a slice of a value is, by values: the slice object stands at sl -/
def SlR (X : Cx) (r : V → Option Int → Option Int → Hp → VK → Prop) : Prop :=
  ∀ (pins : List (Addr × Obj)) (s : Shared) (σ : St) (H : Hp) (x : V) (v vl vu : Value) (lo hi : Option Int) (sl : Addr) (Q : VK), Inv X pins σ H s → RelV x v → s.heap.IsSliceOf sl vl vu .none → IsPart vl lo → IsPart vu hi → r x lo hi H Q →
    ∃ T id, typeLookup (.type T) "__getitem__" = pure (some (.builtin id)) ∧ s.TypeIs v T ∧ wpAny (model X.prog X.w) X.A (getItem v (.ref sl)) (EP X pins σ Q) X.xe s
def tSl (r : V → Option Int → Option Int → Hp → VK → Prop) (te : TE) (tl th : TO) : TE := fun σ H Q => te σ H fun x H1 => tl σ H1 fun l H2 => th σ H2 fun u H3 => r x l u H3 Q
/-- a[lo:hi], any a -/
theorem pe_slice {r : V → Option Int → Option Int → Hp → VK → Prop} (hr : SlR X r) (he : PE X e te) (hl : PO X lo tl) (hu : PO X hi th) : PE X (.Subscript e (.Slice lo hi none p2) pos) (tSl r te tl th) := by
  intro pins s σ H Q I h
  refine Subscript_ (thn (he pins s σ H _ I h) fun v s1 ⟨x, H1, I1, r1, q1⟩ => ?_)
  refine wpAny_Slice (thn (hl pins s1 σ H1 _ I1 q1) fun vl s2 ⟨l, H2, I2, pl, q2⟩ => thn (hu pins s2 σ H2 _ I2 q2) fun vu s3 ⟨u, H3, I3, pu, q3⟩ => ?_)
  rw [evalPart_none]
  refine wpAny_pure ?_
  have I4 : Inv X pins σ H3 { s3 with heap := s3.heap.push { cls := .type "slice", data := .fields #[vl, vu, .none] } } := I3.kept (t' := s3.toks) fun b ob q => Heap.get?_push_of_some _ q
  obtain ⟨T, id, hT, ht, hg⟩ := hr pins { s3 with heap := s3.heap.push { cls := .type "slice", data := .fields #[vl, vu, .none] } } σ H3 x v vl vu l u s3.heap.objs.size Q I4 r1 (Heap.IsSliceOf.new ..) pl pu q3
  show wpAny (model X.prog X.w) X.A (subscriptTail e (.Slice lo hi none p2) v (.ref s3.heap.objs.size)) (EP X pins σ Q) X.xe { s3 with heap := s3.heap.push { cls := .type "slice", data := .fields #[vl, vu, .none] } }
  exact tail_any (ops := [.ref s3.heap.objs.size, v]) ht hT hg (by with_unfolding_all rfl)

/-- the items of xs[lo:hi] -/
def cutV (xs : List V) (lo hi : Option Int) : List V := (xs.drop (HT.sIx xs.length 0 lo)).take (HT.sIx xs.length xs.length hi - HT.sIx xs.length 0 lo)
theorem cutV_length (xs : List V) (lo hi : Option Int) : (cutV xs lo hi).length ≤ xs.length := by
  unfold cutV
  rw [List.length_take, List.length_drop]
  omega

/-! ### t < u, t + u -/
end
end L2

namespace L2
open PySem PySem.Spec PyProof.Rows

/-! ### places -/
/-- the place that an index of any sign means -/
def ixN (n : Nat) (i : Int) : Option Nat := if 0 ≤ i then (if i < n then some i.toNat else none) else if -(n : Int) ≤ i then some (i + n).toNat else none
def atI {α : Type} (xs : List α) (i : Int) : Option α := (ixN xs.length i).bind fun j => xs[j]?
theorem ixN_seq {n : Nat} {i : Int} {j : Nat} (h : ixN n i = some j) : seqIndex? i n = some j ∧ j < n ∧ -(n : Int) ≤ i ∧ i < n := by
  unfold ixN at h
  by_cases h0 : 0 ≤ i
  · rw [if_pos h0] at h
    by_cases h1 : i < n
    · rw [if_pos h1] at h
      have e : i.toNat = j := Option.some.inj h
      exact ⟨by rw [seqIndex_of h0 h1, e], by omega, by omega, h1⟩
    · rw [if_neg h1] at h; cases h
  · rw [if_neg h0] at h
    by_cases h1 : -(n : Int) ≤ i
    · rw [if_pos h1] at h
      have e : (i + n).toNat = j := Option.some.inj h
      exact ⟨by rw [seqIndex_neg (by omega) h1, e], by omega, h1, by omega⟩
    · rw [if_neg h1] at h; cases h
theorem atI_get {α : Type} {xs : List α} {i : Int} {v : α} (h : atI xs i = some v) : ∃ j, seqIndex? i xs.length = some j ∧ xs[j]? = some v ∧ j < xs.length ∧ -(xs.length : Int) ≤ i ∧ i < xs.length := by
  unfold atI at h
  cases e : ixN xs.length i with
  | none => rw [e] at h; cases h
  | some j =>
    rw [e] at h
    obtain ⟨h1, h2, h3, h4⟩ := ixN_seq e
    exact ⟨j, h1, h, h2, h3, h4⟩
theorem atI_nat {α : Type} {xs : List α} {j : Nat} {v : α} (h : xs[j]? = some v) : atI xs (j : Int) = some v := by
  have hj : j < xs.length := (List.getElem?_eq_some_iff.mp h).1
  have e : ixN xs.length (j : Int) = some j := by
    unfold ixN
    rw [if_pos (by omega), if_pos (by omega)]; simp
  unfold atI; rw [e]; exact h
theorem atI_last {α : Type} (xs : List α) (v : α) : atI (xs ++ [v]) (-1) = some v := by
  have hl : (xs ++ [v]).length = xs.length + 1 := by simp
  have e : ixN (xs ++ [v]).length (-1) = some xs.length := by
    unfold ixN
    rw [hl, if_neg (by decide), if_pos (by omega)]
    congr 1
    omega
  unfold atI
  rw [e]
  show (xs ++ [v])[xs.length]? = some v
  simp

/-! ### what may be subscripted -/
/-- what stands as an index of a plain subscript -/
def PlainIx (b : Expr) : Prop := ∀ o i, subscripted b false o i = operate [o, i] (getItem o i)
/-- a subscript by values -/
def IxR (X : Cx) (r : R2) : Prop :=
  ∀ (value slice : Expr) (pins : List (Addr × Obj)) (s : Shared) (σ : St) (H : Hp) (x y : V) (v u : Value) (Q : VK), Inv X pins σ H s → RelV x v → RelV y u → r x y H Q →
    subscripted slice false v u = operate [v, u] (getItem v u) → wpAny (model X.prog X.w) X.A (subscriptTail value slice v u) (EP X pins σ Q) X.xe s
/-- a call of a builtin's method by values: the receiver, the arguments -/
def MtR (X : Cx) (id : String) (r : V → List V → Hp → VK → Prop) : Prop :=
  ∀ (pins : List (Addr × Obj)) (s : Shared) (σ : St) (H : Hp) (x : V) (xs : List V) (v : Value) (us : List Value) (Q : VK), Inv X pins σ H s → RelV x v → Vals xs us → r x xs H Q →
    wpAny (model X.prog X.w) X.A (call (.builtin id) (v :: us)) (EP X pins σ Q) X.xe s
section
variable {X : Cx} {a b : Expr} {ta tb : TE} {pos : Pos}
/-- a[b] -/
theorem pe_ix {r : R2} (hr : IxR X r) (ha : PE X a ta) (hb : PE X b tb) (hs : PlainIx b) : PE X (.Subscript a b pos) (tOp r ta tb) := by
  intro pins s σ H Q I h
  exact Subscript_ (binT ha hb I h fun v u s2 x y H2 I2 rx ry q => hr a b pins s2 σ H2 x y v u Q I2 rx ry q (hs _ _))

def rIxL (K : PySem.W.Frag) : R2 := fun x y H Q => ∃ p xs i v, x = .ref p ∧ y = .int i ∧ SqL K H p xs ∧ atI xs i = some v ∧ Q v H
def rIxT (K : PySem.W.Frag) : R2 := fun x y H Q => ∃ p xs i v, x = .ref p ∧ y = .int i ∧ SqT K H p xs ∧ atI xs i = some v ∧ Q v H
def rIxS : R2 := fun x y H Q => ∃ z i c, x = .str z ∧ y = .int i ∧ z.length ≤ sizeLine ∧ atI z.cps.toList i = some c ∧ Q (.str ⟨#[c]⟩) H
theorem ix_list : IxR X (rIxL X.K) := by
  intro value slice pins s σ H x y v u Q I rx ry h hs
  obtain ⟨p, xs, i, z, rfl, rfl, hq, he, q⟩ := h
  cases rx
  obtain ⟨t, rfl⟩ := ry
  obtain ⟨its, r, pl, hz⟩ := I.list hq
  obtain ⟨j, h1, h2, h3, h4, h5⟩ := atI_get he
  obtain ⟨w, ew, rw'⟩ := r.get h2
  have hl := r.length
  have hn := line63
  have fin : EP X pins σ Q w s := ⟨z, H, I, rw', q⟩
  by_cases h0 : 0 ≤ i
  · have hj : i.toNat = j := by
      rw [seqIndex_of h0 h5] at h1
      exact Option.some.inj h1
    exact item_listR pl.isList h0 (by omega) (by rw [hj]; simpa using ew) fin hs
  · have hj : (i + (its.toArray.size : Int)).toNat = j := by
      rw [seqIndex_neg (by omega) h4] at h1
      rw [List.size_toArray, ← hl]
      exact Option.some.inj h1
    exact subscriptTail_builtinR (x := w) pl.isList.typeIs slot_list_getitem.lookup
      (wpAny_getItem_list_neg (Q := fun r s' => r = w ∧ EP X pins σ Q r s') pl.isList (by omega) (by rw [List.size_toArray] <;> omega) (by omega) (by rw [hj]; simpa using ew) ⟨rfl, fin⟩) hs
theorem ix_tup : IxR X (rIxT X.K) := by
  intro value slice pins s σ H x y v u Q I rx ry h hs
  obtain ⟨p, xs, i, z, rfl, rfl, hq, he, q⟩ := h
  cases rx
  obtain ⟨t, rfl⟩ := ry
  obtain ⟨its, r, pl, hz⟩ := I.tuple hq
  obtain ⟨j, h1, h2, h3, h4, h5⟩ := atI_get he
  obtain ⟨w, ew, rw'⟩ := r.get h2
  have hl := r.length
  have hn := line63
  have fin : EP X pins σ Q w s := ⟨z, H, I, rw', q⟩
  exact subscriptTail_builtinR (x := w) pl.typeIs slot_tuple_getitem.lookup
    (getItem_tuple (j := j) (Q := fun r s' => r = w ∧ EP X pins σ Q r s') pl (by omega) (by omega) (by rw [List.size_toArray, ← hl]; exact h1) (by simpa using ew) ⟨rfl, fin⟩) hs
theorem ix_str : IxR X rIxS := by
  intro value slice pins s σ H x y v u Q I rx ry h hs
  obtain ⟨z, i, c, rfl, rfl, hz, he, q⟩ := h
  obtain ⟨t, rfl⟩ := rx
  obtain ⟨t', rfl⟩ := ry
  obtain ⟨j, h1, h2, h3, h4, h5⟩ := atI_get he
  have hl : z.cps.toList.length = z.length := by simp [Str.length]
  rw [hl] at h1 h4 h5
  have hn := line63
  exact tail_any (typeIs_str s z t) slot_str_getitem.lookup (getItem_str (c := c) (by
    have e1 : decide (i < -(2 ^ 63 : Int)) = false := decide_eq_false (by omega)
    have e2 : decide (i ≥ 2 ^ 63) = false := decide_eq_false (by omega)
    rw [e1, e2, Bool.or_false]) (by rw [h1]; simpa using h2) ⟨.str ⟨#[c]⟩, H, I.tok _, ⟨_, rfl⟩, q⟩) hs

/-! ### xs[i] = v, any sign -/

/-! ### slices -/
theorem slice_bounds (lo hi : Option Int) (n : Nat) : (sliceBounds lo hi none n).1 = ((HT.sIx n 0 lo : Nat) : Int) ∧ (sliceBounds lo hi none n).2.1 = ((HT.sIx n n hi : Nat) : Int) ∧ (sliceBounds lo hi none n).2.2 = 1 := by
  refine ⟨?_, ?_, rfl⟩
  · cases lo with
    | none => simp [sliceBounds, HT.sIx]
    | some i =>
      simp only [sliceBounds, HT.sIx, Option.getD_none, show (1 : Int) > 0 by decide, if_true]
      by_cases h : i < 0
      · simp only [h, if_true] <;> omega
      · simp only [h, if_false] <;> omega
  · cases hi with
    | none => simp [sliceBounds, HT.sIx]
    | some i =>
      simp only [sliceBounds, HT.sIx, Option.getD_none, show (1 : Int) > 0 by decide, if_true]
      by_cases h : i < 0
      · simp only [h, if_true] <;> omega
      · simp only [h, if_false] <;> omega
theorem slicePick_cut (its : List Value) (lo hi : Option Int) : slicePick its.toArray lo hi none = ((its.drop (HT.sIx its.length 0 lo)).take (HT.sIx its.length its.length hi - HT.sIx its.length 0 lo)).toArray := by
  obtain ⟨h1, h2, h3⟩ := slice_bounds lo hi its.toArray.size
  unfold slicePick
  rw [h1, h2, h3]
  simp only [sliceRange_one, pick_run, List.size_toArray] <;> rfl
/-- xs[lo:hi] of a list: a new list -/
def rSlL (K : PySem.W.Frag) : V → Option Int → Option Int → Hp → VK → Prop := fun x lo hi H Q => ∃ a xs, x = .ref a ∧ SqL K H a xs ∧ ∀ p, H p = none → Q (.ref p) (upd H p (.lst (cutV xs lo hi)))
theorem sl_list : SlR X (rSlL X.K) := by
  intro pins s σ H x v vl vu lo hi sl Q I rx hs pl pu h
  obtain ⟨a, xs, rfl, hx, q⟩ := h
  cases rx
  obtain ⟨its, r, ht, hz⟩ := I.list hx
  have hlen := r.length
  refine ⟨"list", _, slot_list_getitem.lookup, ht.isList.typeIs, ?_⟩
  refine wpAny_getItem_list_slice ht.isList hs pl pu .none (by simp) ?_ (by rw [List.size_toArray] <;> omega)
  rw [slicePick_cut, ← hlen]
  refine ⟨.ref s.heap.objs.size, _, I.laid (t' := s.toks) (o := .lst (cutV xs lo hi)) (fun b ob q => Heap.get?_push_of_some _ q) (Nat.le_refl _) ?_, rfl, q _ (I.hok.fresh (Nat.le_refl _))⟩
  exact ⟨Nat.le_trans (cutV_length xs lo hi) hz, _, 0, (r.drop (HT.sIx xs.length 0 lo)).take (HT.sIx xs.length xs.length hi - HT.sIx xs.length 0 lo), Heap.get?_push_size _ rfl⟩

/-! ### in, not in: flat items -/
def flatV : V → Bool
  | .non => true
  | .bl _ => true
  | .int _ => true
  | .str _ => true
  | _ => false
/-- == of flat values -/
def eqV : V → V → Bool
  | .non, .non => true
  | .bl a, .bl b => a == b
  | .bl a, .int b => (if a then 1 else 0) == b
  | .int a, .bl b => a == (if b then 1 else 0)
  | .int a, .int b => a == b
  | .str a, .str b => a == b
  | _, _ => false
theorem eqAt_V {A : Around} {s : Shared} {y x : V} {u v : Value} (ry : RelV y u) (rx : RelV x v) (fy : flatV y = true) (fx : flatV x = true) : SeqAt.EqAt A s u v (eqV y x) := by
  cases y with
  | non =>
    cases ry
    cases x with
    | non => cases rx; exact SeqAt.EqAt.same _
    | bl b => cases rx; exact SeqAt.EqAt.none_bool b
    | int b => obtain ⟨t, rfl⟩ := rx; exact SeqAt.EqAt.none_int b t
    | str b => obtain ⟨t, rfl⟩ := rx; exact SeqAt.EqAt.none_str b t
    | _ => exact absurd (show false = true from fx) Bool.false_ne_true
  | bl a =>
    cases ry
    cases x with
    | non => cases rx; exact SeqAt.EqAt.bool_none a
    | bl b => cases rx; exact SeqAt.EqAt.bool_bool a b
    | int b => obtain ⟨t, rfl⟩ := rx; exact SeqAt.EqAt.bool_int a b t
    | str b => obtain ⟨t, rfl⟩ := rx; exact SeqAt.EqAt.bool_str a b t
    | _ => exact absurd (show false = true from fx) Bool.false_ne_true
  | int a =>
    obtain ⟨t', rfl⟩ := ry
    cases x with
    | non => cases rx; exact SeqAt.EqAt.int_none a t'
    | bl b => cases rx; exact SeqAt.EqAt.int_bool a t' b
    | int b => obtain ⟨t, rfl⟩ := rx; exact SeqAt.EqAt.int_int a t' b t
    | str b => obtain ⟨t, rfl⟩ := rx; exact SeqAt.EqAt.int_str a t' b t
    | _ => exact absurd (show false = true from fx) Bool.false_ne_true
  | str a =>
    obtain ⟨t', rfl⟩ := ry
    cases x with
    | non => cases rx; exact SeqAt.EqAt.str_none a t'
    | bl b => cases rx; exact SeqAt.EqAt.str_bool a t' b
    | int b => obtain ⟨t, rfl⟩ := rx; exact SeqAt.EqAt.str_int a t' b t
    | str b => obtain ⟨t, rfl⟩ := rx; exact SeqAt.EqAt.str_str a t' b t
    | _ => exact absurd (show false = true from fx) Bool.false_ne_true
  | _ => exact absurd (show false = true from fy) Bool.false_ne_true
/-- the items' answers, read off the values (a value's own answer does not lean on its token) -/
def eqU (x : V) (u : Value) : Bool := match u with
  | .none => eqV .non x
  | .bool b => eqV (.bl b) x
  | .int i _ => eqV (.int i) x
  | .str z _ => eqV (.str z) x
  | _ => false
theorem eqU_of {x y : V} {u : Value} (r : RelV y u) (f : flatV y = true) : eqU x u = eqV y x := by
  cases y with
  | non => cases r; rfl
  | bl b => cases r; rfl
  | int i => obtain ⟨t, rfl⟩ := r; rfl
  | str z => obtain ⟨t, rfl⟩ := r; rfl
  | _ => exact absurd (show false = true from f) Bool.false_ne_true
theorem any_eqU {x : V} : ∀ {xs : List V} {us : List Value}, Vals xs us → xs.all flatV = true → us.any (eqU x) = xs.any fun y => eqV y x
  | _, _, .nil, _ => rfl
  | y :: xs, u :: us, .cons r t, f => by
    rw [List.all_cons, Bool.and_eq_true] at f
    rw [List.any_cons, List.any_cons, eqU_of r f.1, any_eqU t f.2]
theorem mem_eqAt {A : Around} {s : Shared} {x : V} {v : Value} (rx : RelV x v) (fx : flatV x = true) : ∀ {xs : List V} {us : List Value}, Vals xs us → xs.all flatV = true → ∀ u ∈ us, SeqAt.EqAt A s u v (eqU x u)
  | _, _, .nil, _ => fun u hu => by cases hu
  | y :: xs, u :: us, .cons r t, f => fun u' hu => by
    rw [List.all_cons, Bool.and_eq_true] at f
    rcases List.mem_cons.mp hu with rfl | hu
    · rw [eqU_of r f.1]; exact eqAt_V r rx f.1 fx
    · exact mem_eqAt rx fx t f.2 u' hu
def inV (x : V) (xs : List V) : Bool := xs.any fun y => eqV y x
/-- x in a list or tuple of flat items -/
def rIn (K : PySem.W.Frag) (neg : Bool) : R2 := fun x y H Q => ∃ p xs, y = .ref p ∧ (SqL K H p xs ∨ SqT K H p xs) ∧ flatV x = true ∧ xs.all flatV = true ∧ Q (.bl (if neg then !inV x xs else inV x xs)) H
theorem op_in_seq : OpR X (compareOp .In) (rIn X.K false) := by
  intro pins s σ H x y v u Q I rx ry h
  obtain ⟨p, xs, rfl, hq, fx, fs, q⟩ := h
  cases ry
  rcases hq with hq | hq
  · obtain ⟨its, r, pl, hz⟩ := I.list hq
    refine SeqAt.in_listAt (eqU x) pl.isList (fun w hw => mem_eqAt rx fx r fs w (by simpa using hw)) ⟨.bl _, H, I, rfl, ?_⟩
    rw [show its.toArray.any (eqU x) = its.any (eqU x) by simp, any_eqU r fs]
    exact q
  · obtain ⟨its, r, pl, hz⟩ := I.tuple hq
    refine SeqAt.in_tupleAt (eqU x) pl (fun w hw => mem_eqAt rx fx r fs w (by simpa using hw)) ⟨.bl _, H, I, rfl, ?_⟩
    rw [show its.toArray.any (eqU x) = its.any (eqU x) by simp, any_eqU r fs]
    exact q
theorem op_notIn_seq : OpR X (compareOp .NotIn) (rIn X.K true) := by
  intro pins s σ H x y v u Q I rx ry h
  obtain ⟨p, xs, rfl, hq, fx, fs, q⟩ := h
  cases ry
  rcases hq with hq | hq
  · obtain ⟨its, r, pl, hz⟩ := I.list hq
    refine SeqAt.notIn_listAt (eqU x) pl.isList (fun w hw => mem_eqAt rx fx r fs w (by simpa using hw)) ⟨.bl _, H, I, rfl, ?_⟩
    rw [show its.toArray.any (eqU x) = its.any (eqU x) by simp, any_eqU r fs]
    exact q
  · obtain ⟨its, r, pl, hz⟩ := I.tuple hq
    refine SeqAt.notIn_tupleAt (eqU x) pl (fun w hw => mem_eqAt rx fx r fs w (by simpa using hw)) ⟨.bl _, H, I, rfl, ?_⟩
    rw [show its.toArray.any (eqU x) = its.any (eqU x) by simp, any_eqU r fs]
    exact q

/-! ### len, list(x), tuple(x) of any list or tuple that is read -/
theorem call_len_seq : CallR X (.builtin "len") (fun xs H Q => ∃ p ys, xs = [.ref p] ∧ (SqL X.K H p ys ∨ SqT X.K H p ys) ∧ Q (.int ys.length) H) := by
  intro pins s σ H xs us Q I r h
  obtain ⟨p, ys, rfl, hq, q⟩ := h
  obtain ⟨u, rfl, rx⟩ := vals1 r
  cases rx
  have hn := line63
  rcases hq with hq | hq
  · obtain ⟨its, r', pl, hz⟩ := I.list hq
    have hlen := r'.length
    exact Calls.call_len_list pl.isList (by simp only [List.size_toArray] <;> omega) ⟨.int ys.length, H, I.tok _, ⟨s.toks + 1, by rw [List.size_toArray, hlen]⟩, q⟩
  · obtain ⟨its, r', pl, hz⟩ := I.tuple hq
    have hlen := r'.length
    exact len_tuple pl (by simp only [List.size_toArray] <;> omega) ⟨.int ys.length, H, I.tok _, ⟨s.toks + 1, by rw [List.size_toArray, hlen]⟩, q⟩
theorem call_len_str : CallR X (.builtin "len") (fun xs H Q => ∃ z, xs = [.str z] ∧ z.length ≤ sizeLine ∧ Q (.int z.length) H) := by
  intro pins s σ H xs us Q I r h
  obtain ⟨z, rfl, hz, q⟩ := h
  obtain ⟨u, rfl, t, rfl⟩ := vals1 r
  have hn := line63
  exact len_str (by omega) ⟨.int z.length, H, I.tok _, ⟨_, rfl⟩, q⟩
theorem call_list_of : CallR X (.type "list") (fun xs H Q => ∃ p ys, xs = [.ref p] ∧ (SqL X.K H p ys ∨ SqT X.K H p ys) ∧ ∀ l, H l = none → Q (.ref l) (upd H l (.lst ys))) := by
  intro pins s σ H xs us Q I r h
  obtain ⟨p, ys, rfl, hq, q⟩ := h
  obtain ⟨u, rfl, rx⟩ := vals1 r
  cases rx
  have fin : ∀ (its : List Value), Vals ys its → ys.length ≤ sizeLine → ∀ (h' : Heap) (c' : Nat), (∀ b o', s.heap.get? b = some o' → h'.get? b = some o') →
      h'.get? s.heap.objs.size = some { cls := .type "list", dict := none, data := .seq its.toArray c', slots := #[] } → EP X pins σ Q (.ref s.heap.objs.size) { s with heap := h' } := fun its r' hz h' c' kp e =>
    ⟨.ref s.heap.objs.size, _, I.laid (t' := s.toks) kp (Nat.le_refl _) (show ObjOk X.prog X.w _ h' _ (.lst ys) from ⟨hz, its, c', r', e⟩), rfl, q _ (I.hok.fresh (Nat.le_refl _))⟩
  rcases hq with hq | hq
  · obtain ⟨its, r', pl, hz⟩ := I.list hq
    have hlen := r'.length
    obtain ⟨o, ho, hc, n, hd⟩ := pl.isList
    exact call_list_seq p (.inl rfl) ho hc hd (fun h' c' kp e => fin its r' hz h' c' kp e) (by simp only [List.size_toArray] <;> omega)
  · obtain ⟨its, r', pl, hz⟩ := I.tuple hq
    have hlen := r'.length
    obtain ⟨o, ho, hc, n, hd⟩ := pl
    exact call_list_seq p (.inr rfl) ho hc hd (fun h' c' kp e => fin its r' hz h' c' kp e) (by simp only [List.size_toArray] <;> omega)

/-! ### the call of a builtin's method: o.m(..) -/
/-- the value is of that builtin type -/
def tyV (K : PySem.W.Frag) (T : String) (x : V) (H : Hp) : Prop := match x with
  | .str _ => T = "str"
  | .int _ => T = "int"
  | .ref p => (T = "list" ∧ ∃ xs, SqL K H p xs) ∨ (T = "tuple" ∧ ∃ o, K.lookup p = some o ∧ o.cls = .type "tuple" ∧ o.dict = none) ∨
      (T = "dict" ∧ ((∃ kvs, H p = some (.dK kvs)) ∨ ∃ kvs, H p = some (.dT kvs))) ∨ (T = "set" ∧ ∃ S n, H p = some (.set S n))
  | _ => False
theorem tyV_is {pins : List (Addr × Obj)} {σ : St} {H : Hp} {s : Shared} {T : String} {x : V} {v : Value} (I : Inv X pins σ H s) (r : RelV x v) (ty : tyV X.K T x H) :
    s.TypeIs v T ∧ ∀ a, v = .ref a → ∃ ob, s.heap.get? a = some ob ∧ ob.dict = none := by
  cases x with
  | str z =>
    obtain ⟨t, rfl⟩ := r
    cases (show T = "str" from ty)
    exact ⟨typeIs_str s z t, fun _ e => nomatch e⟩
  | int i =>
    obtain ⟨t, rfl⟩ := r
    cases (show T = "int" from ty)
    exact ⟨typeIs_int s i t, fun _ e => nomatch e⟩
  | ref p =>
    cases r
    rcases ty with ⟨rfl, xs, hq⟩ | ⟨rfl, o, hk, hc, hd⟩ | ⟨rfl, hk⟩ | ⟨rfl, S, n, hk⟩
    · obtain ⟨its, _, pl, _⟩ := I.list hq
      refine ⟨pl.isList.typeIs, fun a e => ?_⟩
      cases e
      obtain ⟨o, n, e, c, hd, _⟩ := pl
      exact ⟨o, e, hd⟩
    · refine ⟨⟨o, I.kIn p o hk, hc⟩, fun a e => ?_⟩
      cases e
      exact ⟨o, I.kIn _ o hk, hd⟩
    · have z : ∃ o, s.heap.get? p = some o ∧ o.ExactDict := by
        rcases hk with ⟨kvs, hk⟩ | ⟨kvs, hk⟩
        · obtain ⟨_, _, _, _, o, _, _, e, ex, _⟩ := I.hok p _ hk
          exact ⟨o, e, ex⟩
        · obtain ⟨_, _, _, _, o, _, _, e, ex, _⟩ := I.hok p _ hk
          exact ⟨o, e, ex⟩
      obtain ⟨o, e, ex⟩ := z
      refine ⟨⟨o, e, ex.1⟩, fun a e2 => ?_⟩
      cases e2
      exact ⟨o, e, ex.2.1⟩
    · obtain ⟨o, _, _, _, e, ex, _⟩ := I.hok p _ hk
      refine ⟨⟨o, e, ex.1⟩, fun a e2 => ?_⟩
      cases e2
      exact ⟨o, e, ex.2.1⟩
  | _ => exact False.elim ty
def tBM0 (K : PySem.W.Frag) (T : String) (r : V → List V → Hp → VK → Prop) (to : TE) : TE := fun σ H Q => to σ H fun x H1 => tyV K T x H1 ∧ r x [] H1 Q
def tBM (K : PySem.W.Frag) (T : String) (r : V → List V → Hp → VK → Prop) (to : TE) (t : TA) : TE := fun σ H Q => to σ H fun x H1 => tyV K T x H1 ∧ t σ H1 fun xs H2 => r x xs H2 Q
variable {o e : Expr} {es : List Expr} {to : TE} {t : TA} {name : Str} {apos cpos : Pos} {T id : String} {r : V → List V → Hp → VK → Prop}
theorem pe_bm0 (pa : PlainAttrs T) (slot : Slot T name id) (hty : typeOf (.builtin id) = pure (.type "method_descriptor")) (hm : MtR X id r) (ho : PE X o to)
    (hbase : attributeBase o name X.env (eval o X.env) = eval o X.env := by rfl) (hline : (apos.endLine == cpos.line) = true := by rfl) : PE X (.Call (.Attribute o name apos) [] [] cpos) (tBM0 X.K T r to) := by
  intro pins s σ H Q I h
  refine wpAny_Call_method0_late hbase hline (thn (ho pins s σ H _ I h) fun v s1 ⟨x, H1, I1, r1, ty, q1⟩ => ?_)
  obtain ⟨h1, h2⟩ := tyV_is I1 r1 ty
  exact ⟨T, id, pa, slot, hty, h1, h2, Calls.callWith_builtin rfl (PySem.evalArgs_none (hm pins s1 σ H1 x [] v [] Q I1 r1 .nil q1))⟩
theorem pe_bm (pa : PlainAttrs T) (slot : Slot T name id) (hty : typeOf (.builtin id) = pure (.type "method_descriptor")) (hm : MtR X id r) (ho : PE X o to) (ha : PA X (e :: es) t)
    (hbase : attributeBase o name X.env (eval o X.env) = eval o X.env := by rfl)
    (hfew : ((backTo cpos (starEach (e :: es) X.env)).all (fun x => !x.1) && (backToKw cpos (keywordEach [] X.env)).all (fun x => x.1.isSome)
      && decide ((e :: es).length + ([] : List Keyword).length + (if ([] : List Keyword).isEmpty then 0 else 1) < 30)) = true := by rfl)
    (hline : (apos.endLine == cpos.line) = true := by rfl) (hs : starEach (e :: es) X.env = (false, eval e X.env) :: starEach es X.env := by rfl) (hplain : (backTo cpos (starEach es X.env)).any (·.1) = false := by rfl) :
    PE X (.Call (.Attribute o name apos) (e :: es) [] cpos) (tBM X.K T r to t) := by
  intro pins s σ H Q I h
  refine wpAny_Call_method_late hbase hfew hline rfl (thn (ho pins s σ H _ I h) fun v s1 ⟨x, H1, I1, r1, ty, q1⟩ => ?_)
  obtain ⟨h1, h2⟩ := tyV_is I1 r1 ty
  refine ⟨T, id, pa, slot, hty, h1, h2, ?_⟩
  have hA := ha cpos pins s1 σ H1 _ I1 q1
  rw [hs] at hA ⊢
  refine Calls.callWith_builtin (by show (false || (backTo cpos (starEach es X.env)).any (·.1)) = false; rw [hplain] <;> rfl) (Calls.evalArgs_plain ?_)
  exact thn hA fun us s2 ⟨vs, H2, I2, r2, q2⟩ => hm pins s2 σ H2 x vs v us Q I2 r1 r2 q2
/- xs.append(e), list.index on a module's tuple .. are MtR facts of 06m -/
end
end L2

namespace L2
open PySem PySem.Spec PyProof.Rows

def MtM (X : Cx) (id : String) (r : V → List V → Hp → VK → Prop) : Prop :=
  ∀ (pins : List (Addr × Obj)) (s : Shared) (σ : St) (H : Hp) (x : V) (xs : List V) (v : Value) (us : List Value) (Q : VK), Inv X pins σ H s → RelV x v → Vals xs us → r x xs H Q →
    wpAny (model X.prog X.w) X.A (call (.builtin id) (v :: us)) (EP X pins σ Q) X.xe s

/-! ### lists of values -/
theorem Vals.one : ∀ {x : V} {us : List Value}, Vals [x] us → ∃ u, us = [u] ∧ RelV x u
  | _, _, .cons r .nil => ⟨_, rfl, r⟩
theorem Vals.two : ∀ {x y : V} {us : List Value}, Vals [x, y] us → ∃ u v, us = [u, v] ∧ RelV x u ∧ RelV y v
  | _, _, _, .cons r (.cons q .nil) => ⟨_, _, rfl, r, q⟩
theorem Vals.zero : ∀ {us : List Value}, Vals [] us → us = []
  | _, .nil => rfl

section
variable {X : Cx} {pins : List (Addr × Obj)} {σ : St} {H : Hp} {s : Shared} {l b : Addr} {xs ys zs : List V}

/-! ### the two steps: a tracked list is rewritten, a new list is laid -/
theorem Inv.lset {its its' : List Value} {n : Nat} {f : Array Value → Array Value} {t' : Nat} (I : Inv X pins σ H s) (hH : H l = some (.lst xs))
    (e : s.heap.get? l = some { cls := .type "list", data := .seq its.toArray n }) (hf : f its.toArray = its'.toArray) (hv : Vals ys its') (hz : ys.length ≤ sizeLine) :
    Inv X pins σ (upd H l (.lst ys)) { s with heap := s.heap.update l (Obj.mapSeq f), toks := t' } := by
  have q := PySem.IsL.update e f
  rw [hf] at q
  refine I.write (x := l) (e := l) (by rw [hH]; exact trivial) (.inl rfl) (fun b' u hb hu => (Heap.get?_update_other s.heap (Obj.mapSeq f) (Ne.symm hb)).trans hu) ⟨_, q⟩ ?_
  exact ⟨hz, its', _, hv, q⟩
theorem Inv.lnew {its : List Value} {t' : Nat} (I : Inv X pins σ H s) (hv : Vals ys its) (hz : ys.length ≤ sizeLine) :
    Inv X pins σ (upd H s.heap.objs.size (.lst ys)) { s with heap := s.heap.push { cls := .type "list", data := .seq its.toArray }, toks := t' } :=
  I.laid (fun _ _ q => Heap.get?_push_of_some _ q) (Nat.le_refl _) ⟨hz, its, 0, hv, Heap.get?_push_size _ rfl⟩
theorem Inv.fresh (I : Inv X pins σ H s) : H s.heap.objs.size = none := I.hok.fresh (Nat.le_refl _)
theorem Inv.lstM (I : Inv X pins σ H s) (hH : H l = some (.lst xs)) : xs.length ≤ sizeLine ∧ ∃ (its : List Value) (n : Nat), Vals xs its ∧ xs.length = its.length ∧ s.heap.get? l = some { cls := .type "list", data := .seq its.toArray n } := by
  obtain ⟨z, its, n, r, e⟩ := I.hok l _ hH
  exact ⟨z, its, n, r, r.length, e⟩

theorem notLongL {n : Nat} (h : n ≤ sizeLine) : Builtin.List.listTooLong n = false := by
  unfold Builtin.List.listTooLong
  exact decide_eq_false (by omega)
end

section
variable {X : Cx}

/-! ### methods -/
def rAppend : V → List V → Hp → VK → Prop := fun x vs H Q => ∃ l xs y, x = .ref l ∧ vs = [y] ∧ H l = some (.lst xs) ∧ xs.length < sizeLine ∧ Q .non (upd H l (.lst (xs ++ [y])))
theorem mt_append : MtM X "list.append" rAppend := by
  intro pins s σ H x vs v us Q I rx rv h
  obtain ⟨l, xs, y, rfl, rfl, hH, hz, q⟩ := h
  cases rx
  obtain ⟨u, rfl, ru⟩ := rv.one
  obtain ⟨z, its, n, r, hl, e⟩ := I.lstM hH
  refine call_meets F.slot_list_append ⟨_, e, rfl⟩ F.entry_list_append (F.args_list_append_2 _ _) (PySem.list_append l its.toArray n u (by rw [List.size_toArray]; omega)) ⟨e, ?_⟩
  refine ⟨.non, _, I.lset (its' := its ++ [u]) hH e (by simp) (r.append (.cons ru .nil)) ?_, rfl, q⟩
  rw [List.length_append, List.length_singleton]
  omega

def rExtend : V → List V → Hp → VK → Prop := fun x vs H Q => ∃ l b xs zs, x = .ref l ∧ vs = [.ref b] ∧ H l = some (.lst xs) ∧ H b = some (.lst zs) ∧ xs.length + zs.length ≤ sizeLine ∧ Q .non (upd H l (.lst (xs ++ zs)))
theorem mt_extend : MtM X "list.extend" rExtend := by
  intro pins s σ H x vs v us Q I rx rv h
  obtain ⟨l, b, xs, zs, rfl, rfl, hH, hB, hz, q⟩ := h
  cases rx
  obtain ⟨u, rfl, ru⟩ := rv.one
  cases ru
  obtain ⟨z, its, n, r, hl, e⟩ := I.lstM hH
  obtain ⟨z2, its2, n2, r2, hl2, e2⟩ := I.lstM hB
  have hsz : its.toArray.size + its2.toArray.size ≤ sizeLine := by rw [List.size_toArray, List.size_toArray]; omega
  have hlong : ¬ (!its.toArray.isEmpty && Builtin.List.listTooLong (its.toArray.size + its2.toArray.size)) = true := by
    rw [notLongL hsz, Bool.and_false]
    exact Bool.false_ne_true
  refine call_meets F.slot_list_extend ⟨_, e, rfl⟩ F.entry_list_extend (F.args_list_extend_2 _ _)
    (AutoSeq1.list_extend_list_list_0 l its.toArray n b its2.toArray n2 hlong (by rw [List.size_toArray]; omega) (by omega)) ⟨e, e2, ?_⟩
  refine ⟨.non, _, I.lset (its' := its ++ its2) hH e (by simp) (r.append r2) ?_, rfl, q⟩
  rw [List.length_append]
  omega




def rClear : V → List V → Hp → VK → Prop := fun x vs H Q => ∃ l xs, x = .ref l ∧ vs = [] ∧ H l = some (.lst xs) ∧ Q .non (upd H l (.lst []))
theorem mt_clear : MtM X "list.clear" rClear := by
  intro pins s σ H x vs v us Q I rx rv h
  obtain ⟨l, xs, rfl, rfl, hH, q⟩ := h
  cases rx
  have hus := rv.zero
  subst hus
  obtain ⟨z, its, n, r, hl, e⟩ := I.lstM hH
  refine call_meets F.slot_list_clear ⟨_, e, rfl⟩ F.entry_list_clear (F.args_list_clear_1 _) (AutoSeq1.list_clear_list_0 l its.toArray n (by rw [List.size_toArray]; omega)) ⟨e, ?_⟩
  exact ⟨.non, _, I.lset (its' := []) (ys := []) hH e rfl .nil (Nat.zero_le _), rfl, q⟩

/-! ### list + list, list += list, list * int -/
def rCat : R2 := fun x y H Q => ∃ l b xs zs, x = .ref l ∧ y = .ref b ∧ H l = some (.lst xs) ∧ H b = some (.lst zs) ∧ xs.length + zs.length ≤ sizeLine ∧ ∀ p, H p = none → Q (.ref p) (upd H p (.lst (xs ++ zs)))
theorem op_cat : OpR X (binaryOp .Add) rCat := by
  intro pins s σ H x y v u Q I rx ry h
  obtain ⟨l, b, xs, zs, rfl, rfl, hH, hB, hz, q⟩ := h
  cases rx
  cases ry
  obtain ⟨z, its, n, r, hl, e⟩ := I.lstM hH
  obtain ⟨z2, its2, n2, r2, hl2, e2⟩ := I.lstM hB
  refine PySem.P.add_list e e2 ?_ (by rw [List.size_toArray, List.size_toArray]; omega)
  have ea : its.toArray ++ its2.toArray = (its ++ its2).toArray := by simp
  rw [ea]
  exact ⟨.ref _, _, I.lnew (t' := s.toks) (r.append r2) (by rw [List.length_append]; omega), rfl, q _ I.fresh⟩

/-! ### del xs[i] -/
end

/-! ### xs[a:b] = ys -/
section
variable {prog : Program} {w : World} {A : Around} {E : Value → Shared → Prop} {s : Shared}
end

section
variable {X : Cx}
end
end L2

namespace Att
open PySem PySem.W PySem.Calls PyProof.Rows

/-! ### the script -/
theorem ints_of_wellAll {P : Params} {h : Heap} : ∀ (ns : List Int) (vs : List Value), WellAll P h vs (ns.map WData.int) → IntsAre vs ns := by
  intro ns
  induction ns with
  | nil =>
    intro vs w
    rw [List.map_nil] at w
    cases w
    exact .nil
  | cons n ns ih =>
    intro vs w
    rw [List.map_cons] at w
    cases w with
    | cons a b =>
      cases a
      exact .cons _ _ (ih _ b)

theorem script_of {l : OpenLaw} {n : Nat} (hn : l.most = some n) {P : Params} {h : Heap} {args : List WData} {vals : List Value}
    (hpre : l.row.toRowW.claim.pre args = true) (hwl : WellAll P h vals args) :
    ∃ a vs ns, vals = [Value.ref a] ∧ args = [WData.list (ns.map WData.int)] ∧ h.get? a = some { cls := .type "list", data := .seq vs.toArray } ∧ IntsAre vs ns ∧ ns.length ≤ n := by
  have hsh : WShape.hasAll [] args [.list .int] = true := (pre_splitW hpre).1
  have hc : l.pre.holds [] { args := args } = true := (pre_splitW hpre).2
  obtain ⟨d, r, rfl, h1, h2⟩ := hasAllW_cons hsh
  obtain rfl := hasAllW_nil h2
  obtain ⟨xs, rfl, h3⟩ := hasW_list h1
  obtain ⟨ns, rfl⟩ := items_int h3
  have hlen : ns.length ≤ n := by
    unfold OpenLaw.pre at hc
    have h4 : (WTm.not (.lt (.lit (.int (n : Int))) (.len (.arg 0)))).holds [] { args := [.list (ns.map .int)] } = true := by
      have h4 := (holds_andW hc).1
      rw [hn] at h4
      exact h4
    have h5 := condW_of h4 (w_not (w_lt w_lit (w_len_list (w_arg rfl))))
    rw [List.length_map] at h5
    refine Nat.le_of_not_lt fun q => ?_
    have q' : (n : Int) < ((ns.length : Nat) : Int) := by omega
    first
      | (rw [decide_eq_true q'] at h5; exact absurd h5 (by decide))
      | (simp at h5; omega)
  cases hwl with
  | cons w1 w2 =>
    cases w2
    cases w1 with
    | list ho hall => exact ⟨_, _, ns, rfl, rfl, ho, ints_of_wellAll ns _ hall, hlen⟩

theorem post_true (l : OpenLaw) (args : List WData) : l.row.toRowW.claim.post args (.bool true) args = true :=
  postW_of (r := l.row.toRowW) (X := (true == true))
    (show WShape.has [] (.bool true) .bool = true by first | rfl | decide | simp [WShape.has, WShape.arms, WShape.armsAll])
    (show (WTm.eq .res (.lit (.bool true))).value [] { args := args, res := some (.bool true), after := args } = some (.bool (true == true)) from w_eq_bool (w_res rfl) w_lit) rfl

/-! ### the attachment: holds_open's last premise (the goal 'hc' behind k_head) from a wpAny of the law's body -/



/-! ### rules over ANY heap (no ledger) from facts about the written part K: the library's own take a ledger (News) for what they write -/
section
variable {prog : Program} {w : World} {A : Around} {E : Value → Shared → Prop} {s : Shared} {K : Frag}





/-! the whole heap as the ledger: makes every rule that writes through a ledger a rule over any heap -/

end
end Att

namespace L2
open PySem PySem.Spec PyProof.Rows

theorem vals_ints : ∀ {vs : List Value} {ns : List Int}, IntsAre vs ns → Vals (ns.map V.int) vs
  | _, _, .nil => .nil
  | _, _, .cons n t h => .cons ⟨t, rfl⟩ (vals_ints h)

/-- nothing is tracked but the script, known to the object (or it is an object of the module) -/
def Only (H : Hp) : Prop := ∀ b, H b = none ∨ ∃ o xs, H b = some (.frz o (.lst xs))

/-- THE HEAD: the law's promise, at the heap behind the top. F, the promise of the law's def, may use that base is part of the heap (so K.In base, base.Ns mainGlobals mg stand in Mod) -/
theorem law_call {P : Program} {w : World} {K : PySem.W.Frag} {mg mb : Str → Option Value} {CX : CXT} {k : Nat} {fa a : Addr} {fd : FuncData} {x : Str} {sp : Sp} {s₁ : Shared} {vs : List Value} {ns : List Int}
    (KX : K.In s₁.heap) (hns : s₁.heap.Ns mainGlobals mg) (hb : s₁.heap.Ns builtinsNs mb) (hbb : ∀ x : Str, x ≠ "__name__" → mb x = bootBuiltins x) (hlim : s₁.heap.NoLimit) (hg : s₁.gens = #[])
    (ha : s₁.heap.get? a = some { cls := .type "list", data := .seq vs.toArray }) (hi : IntsAre vs ns) (hl : ns.length ≤ sizeLine) (hr : Room k callerA)
    (F : ∀ base : Heap, K.In base → base.Ns mainGlobals mg → FnOk P w K mg base CX k fa fd [x] sp) (hbind : ∀ (s : Shared) (u : Value), BindsTo s fd ⟨[u], []⟩ [(x, u)])
    (hsp : ∀ H : Hp, Only H → SqL K H a (ns.map V.int) → sp [.ref a] H (fun v _ => v = .bl true) fun _ _ _ => False)
    (hCX : ∀ H e s', CX [] H s₁ (fun _ _ _ => False) e s' → False) :
    codeAny (model P w) callerA (.call (.ref fa) ⟨[.ref a], []⟩) (fun r s' => r = .ok (.ret (.bool true)) ∧ OldK s₁.heap s'.heap ∧ s'.os = s₁.os ∧ AllBare s'.gens) s₁ := by
  have rv := vals_ints hi
  have lenV := hi.length
  -- from an abstract heap in which nothing but the script may be tracked
  have core : ∀ H : Hp, Only H → SqL K H a (ns.map V.int) → HOk P w H s₁.heap → (∀ b, H b ≠ none → b = a) → (H a ≠ none → K.lookup a = none) →
      codeAny (model P w) callerA (.call (.ref fa) ⟨[.ref a], []⟩) (fun r s' => r = .ok (.ret (.bool true)) ∧ OldK s₁.heap s'.heap ∧ s'.os = s₁.os ∧ AllBare s'.gens) s₁ := by
    intro H hO hS hok hA hK
    have base_of : ∀ {b : Addr} {o : Obj}, s₁.heap.get? b = some o → H b = none → (hidT s₁.heap H).get? b = some o := fun e n => hidT_get e n
    have noA : ∀ {b : Addr} {o : Obj} {es : Array DictEntry} {ep : Nat}, s₁.heap.get? b = some o → o.data = .dict es ep → H b = none := fun {b o es ep} e d => by
      cases q : H b with
      | none => rfl
      | some u =>
        have e' : b = a := hA b (by rw [q]; simp)
        subst e'
        rw [ha] at e; cases e
        have d' : Data.seq vs.toArray _ = Data.dict es ep := d
        cases d'
    have nsK : ∀ {b : Addr} {m : Str → Option Value}, s₁.heap.Ns b m → (hidT s₁.heap H).Ns b m := fun {b m} ⟨o, es, ep, e, d, r⟩ => ⟨o, es, ep, base_of e (noA e d), d, r⟩
    have hKb : K.In (hidT s₁.heap H) := fun b o e => base_of (KX b o e) (by
      cases q : H b with
      | none => rfl
      | some u =>
        have e' : b = a := hA b (by rw [q]; simp)
        subst e'
        rw [hK (by rw [q]; simp)] at e; cases e)
    have hM : Mod K mg (hidT s₁.heap H) := ⟨hKb, nsK hns, ⟨mb, nsK hb, hbb⟩, let ⟨mc, h1, h2⟩ := hlim; ⟨mc, nsK h1, h2⟩⟩
    have e0 : Env0 P w K mg (hidT s₁.heap H) callerA [] s₁ H := ⟨rfl, hM, fun b o e => of_hidT e, Nat.le_of_eq (hidT_size _ _), trivial, fun b hb => absurd (show b ∈ ([] : List Addr) from hb) (by simp), hok, .of_eq hg⟩
    refine codeAny_mono ((F _ hKb (nsK hns)).run callerA [] s₁ H ⟨[.ref a], []⟩ [.ref a] [.ref a] _ _ hr e0 (hbind s₁ (.ref a)) (.cons rfl .nil) (hsp H hO hS)) fun r s' h => ?_
    cases r with
    | error e => exact (hCX H e s' h).elim
    | ok fl =>
      cases fl with
      | next => exact False.elim h
      | brk => exact False.elim h
      | cont => exact False.elim h
      | ret u =>
        obtain ⟨v, H', os, bare, un, hok', r', q⟩ := h
        have q' : v = .bl true := q
        subst q'
        obtain rfl : u = Value.bool true := r'
        refine ⟨rfl, OldK.of_keep fun b o e => ?_, os, bare⟩
        cases q : H b with
        | none => exact un.keep b o e q (by intro z; exact absurd (show b ∈ ([] : List Addr) from z) (by simp)) (by simp)
        | some u =>
          rcases hO b with z | ⟨ob, xs, z⟩
          · rw [q] at z; cases z
          · have z2 := un.frzs b ob _ z
            obtain ⟨e1, _⟩ := hok b _ z
            obtain ⟨e2, _⟩ := hok' b _ z2
            rw [e] at e1; cases e1
            exact e2
  cases hk : K.lookup a with
  | some o =>
    -- the script is one of the module's own objects
    have e := KX a o hk
    rw [ha] at e
    cases e
    refine core (fun _ => none) (fun _ => .inl rfl) (.inr ⟨_, vs.toArray, _, hk, rfl, rfl, rfl, by rw [List.size_toArray, lenV]; exact hl, by simpa using rv⟩) (fun b u z => by have z' : (none : Option HO) = some u := z; cases z') (fun b z => absurd rfl z) fun z => absurd rfl z
  | none =>
    refine core (fun b => if b = a then some (.frz { cls := .type "list", data := .seq vs.toArray } (.lst (ns.map V.int))) else none) (fun b => ?_) (.inl (.inr ⟨{ cls := .type "list", data := .seq vs.toArray }, if_pos rfl⟩)) (fun b u z => ?_) (fun b z => ?_) fun _ => hk
    · by_cases hb : b = a
      · exact .inr ⟨_, _, if_pos hb⟩
      · exact .inl (if_neg hb)
    · by_cases hb : b = a
      · have z' := (if_pos hb).symm.trans z
        cases z'
        subst hb
        exact ⟨ha, by rw [List.length_map]; exact hl, vs, _, rv, ha⟩
      · have z' := (if_neg hb).symm.trans z
        cases z'
    · by_cases hb : b = a
      · exact hb
      · exact absurd (if_neg hb) z
end L2

namespace L2
open PySem PySem.Spec PyProof.Rows


end L2

/- THE LAST THEOREM (shape; LID, My.* are yours):
   My.Adr: a structure of the addresses that your layer names (classes, functions); My.Txt K t: a structure (Prop) of the equations over K;
   My.txt_mk : {K} {implicit addresses ..} (e1 : nsIn K mainGlobals "law" = some (some (.ref f))) (e2 : K.lookup f = some ⟨oc, od, .func (fnOf "law" "law" params body scope dV kV doc pm an cdv ct), sl⟩) (e3 : codeIn K cdv "law" = true) .. : ∃ t, My.Txt K t

set_option maxRecDepth 100000 in
set_option maxHeartbeats 0 in
theorem PySem.Challenge.cw_LID_holds : PySem.Challenge.rw_LID.Holds := by
  w_on; o_law; k_head; (case hw => w_witness2)
  k_fill
  refine L2.walk_of (l := PySem.Challenge.rw_LID) (n := 63) (k := 40) (x := "script") (CX := fun w => ..) (sp := fun _ => My.sp_law) rfl (by decide) rfl ⟨rfl, by decide, by decide⟩ (fun w h Y => PySem.W.kIn_of Y) ?F ?S ?C
  case F =>
    intro w mg fa h KX G hmg
    have T : ∃ t, My.Txt (L2.KOf KX) t := by
      dsimp only [L2.KOf]                          -- K must stand as «<heap const> w.params» for k_is
      refine' My.txt_mk ?e1 ?e2 ?e3 ..
      (case e1 => PySem.W.k_is)                    -- in the order: a name -> its address -> its object -> its parts
      (case e2 => PySem.W.k_is)
      ..
    obtain ⟨t, T⟩ := T
    have e0 := hmg.symm.trans (PySem.W.mg_of KX G T.law)
    cases e0                                       -- fa is the law's own address
    exact ⟨_, fun s u => .of_eq rfl, fun base kb nb => My.law_fn T kb nb⟩     -- if «.of_eq rfl» comes too early: refine' ⟨_, ?b, fun base kb nb => My.law_fn T kb nb⟩; exact fun s u => .of_eq rfl
  case S => exact fun w H a ns hl hO hS => ..
  case C => exact ..
(the tactic k_is has no namespace: write k_is) -/

/-! SHORT WORDS over the layer: a def of the text, its body, what a loop and a test want. -/
namespace L2
open PySem PySem.Spec PyProof.Rows

/-! ### the text by places -/
/-- the j-th statement of a class's body -/
def inClass (s : Stmt) (j : Nat) : Stmt := match s with
  | .ClassDef _ _ _ body _ _ _ _ _ _ _ => body.getD j (.Pass ⟨0, 0, 0, 0⟩)
  | _ => .Pass ⟨0, 0, 0, 0⟩
def defArgs (s : Stmt) : Arguments := match s with
  | .FunctionDef _ a _ _ _ _ _ _ _ _ => a
  | _ => { posonlyargs := [], args := [], vararg := none, kwonlyargs := [], kw_defaults := [], kwarg := none, defaults := [] }
def defBody (s : Stmt) : List Stmt := match s with
  | .FunctionDef _ _ b _ _ _ _ _ _ _ => b
  | _ => []
def defScope (s : Stmt) : Scope := match s with
  | .FunctionDef _ _ _ _ _ _ sc _ _ _ => sc
  | _ => { kind := .function, names := [], isGenerator := false, isCoroutine := false }

/-! ### no exception leaves a def -/
abbrev CX0 : CXT := fun _ _ _ _ _ _ => False
abbrev E0 : XK := fun _ _ _ => False
theorem pass0 {X : Cx} : Passes CX0 X E0 := fun _ _ _ _ _ _ _ h => h.elim

/-! ### a def (or method) of the text as it stands behind the top -/
structure Fun (K : PySem.W.Frag) (x qual : Str) (st : Stmt) (f : Addr) (fd : FuncData) : Prop where
  ex : ∃ (oc : Value) (od : Option Addr) (kV doc pm : Value) (an : Option Addr) (cdv ct : Value) (osl : Array (Option Value)),
    fd = PySem.W.fnOf x qual (defArgs st) (defBody st) (defScope st) .none kV doc pm an cdv ct ∧ K.lookup f = some ⟨oc, od, .func fd, osl⟩ ∧ PySem.W.codeIn K cdv qual = true
  kp : PySem.W.keepIn K (.ref f) = true
section
variable {P : Program} {w : World} {K : PySem.W.Frag} {mg : Str → Option Value} {base : Heap}
/-- THE RULE for a def: its body as a term of rules, and the reading of that term -/
theorem Fun.ok {x qual : Str} {st : Stmt} {f : Addr} {fd : FuncData} {N ps : List Str} {k : Nat} {sp : Sp} (F : Fun K x qual st f fd) (S : FnScope N ps (defScope st)) (len : ∀ vs H Q E, sp vs H Q E → vs.length = ps.length)
    (hbody : ∀ (cdv : Value) (A : Around) (outer : List Env) (s : Shared) (H : Hp) (vs : List V) (Q : VK) (E : XK), Room k (A.deeper (envOfC qual (defScope st) s.heap.objs.size f cdv)) → sp vs H Q E →
      ∃ t, PSs (cxOf CX0 P w K mg base N qual (defScope st) f cdv A outer s H E).nox (defBody st) t ∧ t { nx := fun _ H' => Q .non H', rt := Q } (start N vs) H) : FnOk P w K mg base CX0 (k + 1) f fd ps sp := by
  obtain ⟨oc, od, kV, doc, pm, an, cdv, ct, osl, rfl, lk, hcd⟩ := F.ex
  refine fn_of lk hcd S len fun A outer s H vs Q E hr hsp => ?_
  obtain ⟨t, h, q⟩ := hbody cdv A outer s H vs Q E hr hsp
  exact ⟨t, h.nox, q⟩
/-- how its arguments bind (no defaults): h is «fun _ _ _ _ _ _ us hl => match us, hl with | [_, _], _ => rfl», one _ a parameter -/
theorem Fun.binds {x qual : Str} {st : Stmt} {f : Addr} {fd : FuncData} {ps : List Str} (F : Fun K x qual st f fd)
    (h : ∀ (kV doc pm : Value) (an : Option Addr) (cdv ct : Value) (us : List Value), us.length = ps.length → bindArgs (PySem.W.fnOf x qual (defArgs st) (defBody st) (defScope st) .none kV doc pm an cdv ct) ⟨us, []⟩ = pure (ps.zip us)) : Binds K fd ps [] := by
  obtain ⟨oc, od, kV, doc, pm, an, cdv, ct, osl, rfl, lk, hcd⟩ := F.ex
  exact .all (h kV doc pm an cdv ct)
theorem fun_mk {x qual : Str} {st : Stmt} {f : Addr} {oc : Value} {od an : Option Addr} {osl : Array (Option Value)} {kV doc pm cdv ct : Value} (l : K.lookup f = some ⟨oc, od, .func (PySem.W.fnOf x qual (defArgs st) (defBody st) (defScope st) .none kV doc pm an cdv ct), osl⟩)
    (c : PySem.W.codeIn K cdv qual = true) (k : PySem.W.keepIn K (.ref f) = true) : Fun K x qual st f (PySem.W.fnOf x qual (defArgs st) (defBody st) (defScope st) .none kV doc pm an cdv ct) := ⟨⟨oc, od, kV, doc, pm, an, cdv, ct, osl, rfl, l, c⟩, k⟩
end

/-! ### expressions in short: the name that stands in the i-th slot -/
section
variable {X : Cx}
theorem pv (i : Nat) {x : Str} {pos : Pos} (hN : X.N[i]? = some x := by rfl) (hv : Vis X.env.scope x := by first | exact Or.inl rfl | exact Or.inr (Or.inl rfl) | exact Or.inr (Or.inr rfl)) (hd : (x == ("__debug__" : Str)) = false := by decide)
    (hcd : (x == ("__classdict__" : Str)) = false := by decide) : PE X (.Name x pos) (tVar i) := pe_var hN hv hd hcd
end

/-! ### tests -/
theorem iteF {A B : Prop} (h : B) : if false = true then A else B := by
  rw [if_neg Bool.false_ne_true]
  exact h
theorem iteT {A B : Prop} (h : A) : if true = true then A else B := by
  rw [if_pos rfl]
  exact h
theorem ite2 {c A B : Prop} [Decidable c] (h1 : c → A) (h2 : ¬ c → B) : if c then A else B := by
  by_cases h : c
  · rw [if_pos h]
    exact h1 h
  · rw [if_neg h]
    exact h2 h

/-! ### heaps -/
/-- all that was tracked is as it was -/
def Same (H H' : Hp) : Prop := ∀ b o, H b = some o → H' b = some o
theorem Same.refl (H : Hp) : Same H H := fun _ _ h => h
theorem Same.trans {H H1 H2 : Hp} (a : Same H H1) (b : Same H1 H2) : Same H H2 := fun c o h => b c o (a c o h)
theorem Same.seq {K : PySem.W.Frag} {H H' : Hp} {a : Addr} {xs : List V} (e : Same H H') (h : SqL K H a xs) : SqL K H' a xs := by
  rcases h with (h | ⟨o, h⟩) | h
  · exact .inl (.inl (e _ _ h))
  · exact .inl (.inr ⟨o, e _ _ h⟩)
  · exact .inr h

end L2

set_option Elab.async false
set_option linter.all false
set_option maxRecDepth 100000
namespace L2
open PySem PySem.Spec PyProof.Rows

/-! ### lists of pairs as tables -/
section
variable {κ : Type} [DecidableEq κ]



end


/-! ### a tracked dict, its keys ints and texts or tuples of these -/
theorem kV_is {P : Program} {w : World} {k : Key} {u : Value} (r : RelV (kV k) u) : (mixKind P w).is k u = true := by
  cases k with
  | inl i => obtain ⟨t, e⟩ := (show ∃ t, u = Value.int i t from r); subst e; exact mixKind_int P w i t
  | inr x => obtain ⟨t, e⟩ := (show ∃ t, u = Value.str x t from r); subst e; exact mixKind_str P w x t


section
variable {P : Program} {w : World} {H : Hp} {h : Heap} {a : Addr}
end



section
variable {X : Cx} {pins : List (Addr × Obj)} {σ : St} {H : Hp} {s : Shared} {a : Addr} {y v : V} {u r : Value} {o : Option V} {A : Around} {E : Value → Shared → Prop}


end

section
variable {X : Cx} {pins : List (Addr × Obj)} {σ : St} {H : Hp} {s : Shared} {a : Addr} {kvs : List (Key × V)} {k : Key} {u : Value} {A : Around} {E : Value → Shared → Prop}
end


/-! ### readings and rules -/



section
variable {X : Cx} {o i e value : Expr} {pos pos' tpos : Pos} {td ty tv : TE}
end


/-! ### displays -/
section
variable {X : Cx} {pos : Pos}
end




/-! ### methods -/


section
variable {X : Cx} {pins : List (Addr × Obj)} {σ : St} {H : Hp} {s : Shared} {a : Addr} {y d : V} {u r : Value} {o : Option V} {A : Around} {E : Value → Shared → Prop}
end

section
variable {X : Cx} {o e f : Expr} {apos cpos : Pos} {td ty tx : TE}
end

/-! ### dict(d): a copy -/
section
variable {X : Cx} {pins : List (Addr × Obj)} {σ : St} {H : Hp} {s : Shared} {a : Addr} {kvs : List (Key × V)} {A : Around} {E : Value → Shared → Prop}
end


section
variable {X : Cx} {pins : List (Addr × Obj)} {σ : St} {H : Hp} {s : Shared} {a : Addr} {y : V} {u : Value} {A : Around} {E : Value → Shared → Prop}
end
end L2

namespace L2
open PySem PySem.Spec PyProof.Rows
section
variable {X : Cx}
end
/-! ### a dict's pairs: keys that differ -/
section
variable {κ : Type} [DecidableEq κ]
end
end L2

set_option Elab.async false
set_option linter.all false
set_option maxRecDepth 100000
namespace L2
open PySem PySem.Spec PyProof.Rows

/-! an object that was not tracked is tracked from now on -/
theorem HOk.track {P : Program} {w : World} {H : Hp} {h : Heap} {a : Addr} {o : HO} (ok : HOk P w H h) (n : H a = none) (new : ObjOk P w (upd H a o) h a o) : HOk P w (upd H a o) h := fun b u q => by
  by_cases hb : b = a
  · subst hb; rw [upd_same] at q; cases q; exact new
  · rw [upd_ne hb] at q
    exact (ok b u q).stay (fun _ _ _ r => r) (fun c r => by rw [upd_ne (ne_of_none r n)]; exact r) fun c xs r => by rw [upd_ne (ne_of_none r n)]; exact r

/-! ### the signs of a text, walked -/
def Its (x : Str) : It := ⟨fun i _ => i < x.cps.size, fun i H v H' => H' = H ∧ ∃ c, x.cps[i]? = some c ∧ v = .str ⟨#[c]⟩, fun i _ => i = x.cps.size⟩
theorem turn_str {P : Program} {w : World} {K : PySem.W.Frag} {tg : Expr} (it : Addr) (x : Str) (t : Tok) (ty : String) (hty : ty = "str_ascii_iterator" ∨ ty = "str_iterator") :
    Turn P w K tg (Its x) [it] it (fun i h => h.IsStrIter it ty x t i) where
  mem := by simp
  obj := fun i h st b hb => by
    have e : b = it := by simpa using hb
    subst e
    obtain ⟨o, e, c, d⟩ := st
    exact ⟨o, e, fun v z => by rw [d] at z; cases z⟩
  keep := fun i h h' st k => let ⟨o, ho, r⟩ := st; ⟨o, k it (by simp) o ho, r⟩
  item := by
    intro X hP hw hK hc i pins s σ H E I hf st hg
    subst hP hw hK
    obtain ⟨f0, f1, f2, f3, f4, f5⟩ := hf it (by simp)
    have fin : ∀ (v : Value) (h' : Heap) (tk : Nat), SignAt x i v → h'.IsStrIter it ty x t (i + 1) → (∀ b o, b ∉ [it] → s.heap.get? b = some o → h'.get? b = some o) →
       ∃ u, some v = some u ∧ wpAny (model X.prog X.w) X.A (letOwnedTupleGo tg (.ref it) u) (fun _ s2 => ∃ x' H', Inv X pins σ H' s2 ∧ RelV x' u ∧ (Its x).yld i H x' H' ∧ s2.heap.IsStrIter it ty x t (i + 1) ∧ ∀ b ∈ [it], H' b = none) E { s with heap := h', toks := tk } := fun v h' tk hv st' kk => by
      obtain ⟨c, u, hcu, rfl⟩ := hv
      have I1 : Inv X pins σ H { s with heap := h', toks := tk } := I.turned (fun b o hb e => kk b o (by simpa using hb) e) f0 f1 f3 f4 f5
      obtain ⟨o, e, ec, ed⟩ := id st'
      refine ⟨_, rfl, go_of (s := { s with heap := h', toks := tk }) e ec ed ?_ ⟨.str ⟨#[c]⟩, H, I1, ⟨_, rfl⟩, ⟨rfl, c, hcu, rfl⟩, st', fun b hb => (hf b hb).1⟩⟩
      rcases hty with rfl | rfl <;> decide
    rcases hty with rfl | rfl
    · exact (Walks.strAscii (prog := X.prog) (w := X.w) (I.ok.hd hc) it x t).item i s _ _ hg st fin
    · exact (Walks.strWide (prog := X.prog) (w := X.w) (I.ok.hd hc) it x t).item i s _ _ hg st fin
  done := by
    intro X hP hw hK hc i pins s σ H E I hf st hg
    subst hP hw hK
    obtain ⟨f0, f1, f2, f3, f4, f5⟩ := hf it (by simp)
    have hg' : i = x.cps.size := hg
    subst hg'
    rcases hty with rfl | rfl
    · exact (Walks.strAscii (prog := X.prog) (w := X.w) (I.ok.hd hc) it x t).done s _ _ st fun h' tk kk => ⟨rfl, I.turned (fun b o hb e => kk b o (by simpa using hb) e) f0 f1 f3 f4 f5⟩
    · exact (Walks.strWide (prog := X.prog) (w := X.w) (I.ok.hd hc) it x t).done s _ _ st fun h' tk kk => ⟨rfl, I.turned (fun b o hb e => kk b o (by simpa using hb) e) f0 f1 f3 f4 f5⟩
  self := fun _ _ _ _ _ st h => by
    rcases hty with rfl | rfl
    · exact wpAny_pyIter_striter_ascii st h
    · exact wpAny_pyIter_striter_wide st h
def iStr (tl : TE) : TI := fun σ H R => tl σ H fun v H1 => ∃ x, v = .str x ∧ R (Its x) H1
theorem pi_str {X : Cx} {tg l : Expr} {tl : TE} (hl : PE X l tl) : PI X tg l (iStr tl) := by
  intro pins s σ H R I h
  refine thn (hl pins s σ H _ I h) fun v s1 ⟨y, H1, I1, r1, q1⟩ => ?_
  obtain ⟨x, rfl, q⟩ := q1
  obtain ⟨t, rfl⟩ := r1
  have fin : ∀ ty : String, (ty = "str_ascii_iterator" ∨ ty = "str_iterator") → PIE X pins σ tg R (.ref s1.heap.objs.size) { s1 with heap := s1.heap.push { cls := .type ty, data := .fields #[.str x t, .int 0 0] } } := fun ty hty =>
    ⟨s1.heap.objs.size, [s1.heap.objs.size], _, _, H1, rfl, I1.kept (t' := s1.toks) fun b o e => Heap.get?_push_of_some _ e, turn_str _ x t ty hty, ⟨_, Heap.get?_push_size _ rfl, rfl, rfl⟩, fun b hb => by
      have e : b = s1.heap.objs.size := by simpa using hb
      subst e
      exact I1.fpOk (Nat.le_refl _) (I1.hok.fresh (Nat.le_refl _)), q⟩
  cases ha : x.cps.all (· < 128)
  · exact wpAny_pyIter_wide ha (fin _ (.inr rfl))
  · exact wpAny_pyIter_ascii ha (fin _ (.inl rfl))

/-! ### a walk of a known row of values -/
structure Wk (J : It) (xs : List V) (P : Hp → Prop) : Prop where
  go : ∀ i H, i < xs.length → P H → J.go i H
  yld : ∀ i H x H', P H → J.yld i H x H' → H' = H ∧ (i < xs.length → xs[i]? = some x)
  stop : ∀ H, P H → J.stop xs.length H
theorem wk_list (K : PySem.W.Frag) (a : Addr) (xs : List V) : Wk (Itl K a) xs (fun H => SqL K H a xs) :=
  ⟨fun i H hi h => ⟨xs, xs[i], h, by simp [hi]⟩, fun i H x H' h y => ⟨y.1, fun _ => y.2 xs h⟩, fun H h => ⟨xs, h, Nat.le_refl _⟩⟩
def signsV (x : Str) : List V := x.cps.toList.map fun c => V.str ⟨#[c]⟩
theorem signsV_length (x : Str) : (signsV x).length = x.cps.size := by simp [signsV]
theorem wk_str (x : Str) : Wk (Its x) (signsV x) (fun _ => True) :=
  ⟨fun i H hi _ => by rw [signsV_length] at hi; exact hi, fun i H v H' _ y => ⟨y.1, fun hi => by
    obtain ⟨c, hc, rfl⟩ := y.2
    unfold signsV
    rw [List.getElem?_map, Array.getElem?_toList, hc] <;> rfl⟩, fun H _ => signsV_length x⟩
def rangeV (lo : Int) (n : Nat) : List V := (List.range n).map fun (i : Nat) => V.int (lo + (i : Int))
theorem rangeV_length (lo : Int) (n : Nat) : (rangeV lo n).length = n := by simp [rangeV]
theorem wk_range (lo : Int) (n : Nat) : Wk (Itr lo n) (rangeV lo n) (fun _ => True) :=
  ⟨fun i H hi _ => by rw [rangeV_length] at hi; exact hi, fun i H v H' _ y => ⟨y.1, fun hi => by
    rw [rangeV_length] at hi
    obtain ⟨_, rfl⟩ := y
    unfold rangeV
    rw [List.getElem?_map, List.getElem?_range hi] <;> rfl⟩, fun H _ => by
    show n ≤ (rangeV lo n).length
    rw [rangeV_length]; exact Nat.le_refl _⟩

/-! ### a list comprehension of one clause -/
def closOf (scope : Scope) (env : Env) : List (Str × Addr) := ((scope.names.filter fun y => y.2 == .free).map fun y => (y.1, (env.cells.lookup y.1).getD 0)).reverse
theorem clos_go (env : Env) : ∀ (l : List (Str × NameKind)) (cs : List (Str × Addr)), (∀ y ∈ l, y.2 = .free → ∃ c, env.cells.lookup y.1 = some c) →
    (forIn l cs fun (x : Str × NameKind) (r : List (Str × Addr)) => if (x.2 == NameKind.free) = true then (cellOf env x.1 >>= fun c => pure (ForInStep.yield ((x.1, c) :: r)) : Sem (ForInStep (List (Str × Addr)))) else pure (ForInStep.yield r))
      = (pure (((l.filter fun y => y.2 == .free).map fun y => (y.1, (env.cells.lookup y.1).getD 0)).reverse ++ cs) : Sem (List (Str × Addr)))
  | [], cs, _ => by simp
  | y :: l, cs, h => by
    rw [List.forIn_cons]
    have ih := fun cs => clos_go env l cs fun z hz => h z (List.mem_cons_of_mem _ hz)
    by_cases hk : (y.2 == NameKind.free) = true
    · obtain ⟨c, hc⟩ := h y List.mem_cons_self (by simpa using hk)
      have ec : cellOf env y.1 = pure c := by unfold cellOf; rw [hc]
      rw [if_pos hk, ec]
      show (forIn l ((y.1, c) :: cs) _ : Sem _) = _
      rw [ih]
      rw [List.filter_cons_of_pos (by simpa using hk), List.map_cons, List.reverse_cons, hc]
      simp
    · rw [if_neg hk]
      show (forIn l cs _ : Sem _) = _
      rw [ih, List.filter_cons_of_neg (by simpa using hk)]
theorem closureFor_eq {scope : Scope} {env : Env} (h : ∀ y ∈ scope.names, y.2 = .free → ∃ c, env.cells.lookup y.1 = some c) : closureFor scope env = pure (closOf scope env) := by
  have e := clos_go env scope.names [] h
  rw [List.append_nil] at e
  unfold closureFor
  show (forIn scope.names [] _ >>= fun r => pure r : Sem _) = _
  exact (congrArg (fun t : Sem (List (Str × Addr)) => t >>= fun r => pure r) e).trans rfl
theorem mem_closOf {scope : Scope} {env : Env} {p : Str × Addr} (h : p ∈ closOf scope env) : ∃ y ∈ scope.names, y.2 = .free ∧ p = (y.1, (env.cells.lookup y.1).getD 0) := by
  unfold closOf at h
  rw [List.mem_reverse, List.mem_map] at h
  obtain ⟨y, hy, e⟩ := h
  rw [List.mem_filter] at hy
  exact ⟨y, hy.1, by simpa using hy.2, e.symm⟩
theorem lookup_closOf {scope : Scope} {env : Env} (h : ∀ y ∈ scope.names, y.2 = .free → ∃ c, env.cells.lookup y.1 = some c) {y : Str} {c : Addr} (e : (closOf scope env).lookup y = some c) : env.cells.lookup y = some c := by
  obtain ⟨z, hz, hf, q⟩ := mem_closOf (PySem.mem_of_lookup e)
  obtain ⟨d, hd⟩ := h z hz hf
  have q1 : y = z.1 := congrArg Prod.fst q
  have q2 : c = (env.cells.lookup z.1).getD 0 := congrArg Prod.snd q
  rw [hd] at q2
  rw [q1, hd, q2] <;> rfl
theorem has_closOf {scope : Scope} {env : Env} {y : Str} (e : (y, NameKind.free) ∈ scope.names) : ∃ c, (closOf scope env).lookup y = some c := by
  have m : (y, (env.cells.lookup y).getD 0) ∈ closOf scope env := by
    unfold closOf
    rw [List.mem_reverse, List.mem_map]
    exact ⟨(y, .free), List.mem_filter.mpr ⟨e, by rfl⟩, rfl⟩
  cases q : (closOf scope env).lookup y with
  | some c => exact ⟨c, rfl⟩
  | none =>
    rw [List.lookup_eq_none_iff] at q
    have := q _ m
    simp at this
theorem lookup_relabel_free {env : Env} (hk : env.scope.kind = .function) : ∀ {names : List (Str × NameKind)} {x : Str}, names.lookup x = some .free → env.kindOf x = some .cell →
    (names.map fun (n, k) => if (k == NameKind.free && env.scope.kind == .function && env.kindOf n == some .cell) then (n, NameKind.cell) else (n, k)).lookup x = some .cell
  | [], _, h, _ => by simp at h
  | (n, k) :: r, x, h, hc => by
    have ih := @lookup_relabel_free env hk r x
    show List.lookup x ((if (k == NameKind.free && env.scope.kind == .function && env.kindOf n == some .cell) = true then (n, NameKind.cell) else (n, k)) :: _) = _
    cases hx : x == n with
    | true =>
      have hxn : x = n := by simpa using hx
      simp only [List.lookup_cons, hx] at h
      cases h
      rw [if_pos (by rw [hk, ← hxn, hc]; rfl)]
      simp [List.lookup_cons, hx]
    | false =>
      simp only [List.lookup_cons, hx] at h
      by_cases hc' : (k == NameKind.free && env.scope.kind == .function && env.kindOf n == some .cell) = true
      · rw [if_pos hc']; simp only [List.lookup_cons, hx]; exact ih h hc
      · rw [if_neg hc']; simp only [List.lookup_cons, hx]; exact ih h hc
theorem relabel_back {env : Env} : ∀ {names : List (Str × NameKind)} {x : Str} {k : NameKind},
    (names.map fun (n, k) => if (k == NameKind.free && env.scope.kind == .function && env.kindOf n == some .cell) then (n, NameKind.cell) else (n, k)).lookup x = some k → (k = .cell ∨ k = .free) →
    (x, NameKind.free) ∈ names ∨ (x, NameKind.cell) ∈ names
  | [], _, _, h, _ => by simp at h
  | (n, k0) :: r, x, k, h, hk => by
    have ih := @relabel_back env r x k
    change List.lookup x ((if (k0 == NameKind.free && env.scope.kind == .function && env.kindOf n == some .cell) = true then (n, NameKind.cell) else (n, k0)) :: _) = _ at h
    cases hx : x == n with
    | true =>
      have hxn : x = n := by simpa using hx
      subst hxn
      by_cases hc' : (k0 == NameKind.free && env.scope.kind == .function && env.kindOf x == some .cell) = true
      · have : k0 = .free := by
          rw [Bool.and_eq_true, Bool.and_eq_true] at hc'
          simpa using hc'.1.1
        subst this
        exact .inl List.mem_cons_self
      · rw [if_neg hc'] at h
        simp only [List.lookup_cons, hx] at h
        cases h
        rcases hk with rfl | rfl
        · exact .inr List.mem_cons_self
        · exact .inl List.mem_cons_self
    | false =>
      have h' : (r.map fun (n, k) => if (k == NameKind.free && env.scope.kind == .function && env.kindOf n == some .cell) then (n, NameKind.cell) else (n, k)).lookup x = some k := by
        by_cases hc' : (k0 == NameKind.free && env.scope.kind == .function && env.kindOf n == some .cell) = true
        · rw [if_pos hc'] at h; simp only [List.lookup_cons, hx] at h; exact h
        · rw [if_neg hc'] at h; simp only [List.lookup_cons, hx] at h; exact h
      rcases ih h' hk with z | z
      · exact .inl (List.mem_cons_of_mem _ z)
      · exact .inr (List.mem_cons_of_mem _ z)
end L2

set_option Elab.async false
set_option linter.all false
set_option maxRecDepth 100000
namespace L2
open PySem PySem.Spec PyProof.Rows

/-- the context of a comprehension's block: C its own names' dict, s₀ and H₀ as it begins, ex the iterator's objects -/
def cxComp (X : Cx) (scope : Scope) (N : List Str) (C : Addr) (s₀ : Shared) (H₀ : Hp) (ex : List Addr) : Cx where
  prog := X.prog
  w := X.w
  K := X.K
  mg := X.mg
  base := X.base
  A := X.A
  N := N
  s₀ := s₀
  H₀ := H₀
  env := compEnvC scope (closOf scope X.env) C X.env
  outer := X.stack
  stack := X.stack
  ex := ex
  fn := fun _ => false
  calm := X.calm
  pn := []
  xe := fun _ _ => False

/-- the tests of a clause -/
def PTs (X : Cx) (ifs : List Expr) (t : TT) : Prop :=
  ∀ (pins : List (Addr × Obj)) (s : Shared) (σ : St) (H : Hp) (Q : Bool → Hp → Prop), Inv X pins σ H s → t σ H Q →
    wpAny (model X.prog X.w) X.A (forIn ifs true fun c r => if r = true then do let ok ← isTrue c X.env (eval c X.env); pure (ForInStep.yield ok) else pure (ForInStep.yield r)) (TP X pins σ Q) X.xe s
def tTrue : TT := fun _ H Q => Q true H
theorem pts_nil {X : Cx} : PTs X [] tTrue := fun _ _ _ H _ I h => wpAny_tests_nil ⟨H, I, h⟩
theorem pts_one {X : Cx} {c : Expr} {t : TT} (h : PT X c t) : PTs X [c] t := fun pins s σ H Q I q => wpAny_tests_one (h pins s σ H Q I q)

section
variable {prog : Program} {w : World} {A : Around} {R : Result → Shared → Prop} {s : Shared}
theorem comp_loop {elt target iter : Expr} {ifs : List Expr} {scope : Scope} {pos : Pos} {it acc : Value} {env : Env} (I : Nat → Shared → Prop)
    (turn : ∀ n s, I n s → wpAny (model prog w) A (pyNext it) (fun r s₁ => match r with
      | none => R (.ok .next) s₁
      | some v => wpAny (model prog w) A (letOwnedTupleGo target it v) (fun _ s₁' => wpAny (model prog w) A (assign target env v) (fun _ s₂ =>
          wpAny (model prog w) A (forIn ifs true fun c r => if r = true then do let ok ← isTrue c env (eval c env); pure (ForInStep.yield ok) else pure (ForInStep.yield r)) (fun ok s₃ =>
            if ok = true then wpAny (model prog w) A (eval elt env) (fun x s₄ =>
              wpAny (model prog w) A (call (.builtin "list.append") [acc, x]) (fun _ s₅ => ∃ m, m < n ∧ I m s₅) (notedBy (model prog w) A env fun e s' => R (.error e) s') s₄) (notedBy (model prog w) A env fun e s' => R (.error e) s') s₃
            else ∃ m, m < n ∧ I m s₃) (notedBy (model prog w) A env fun e s' => R (.error e) s') s₂) (notedBy (model prog w) A env fun e s' => R (.error e) s') s₁') (notedBy (model prog w) A env fun e s' => R (.error e) s') s₁) (notedBy (model prog w) A env fun e s' => R (.error e) s') s)
    (n : Nat) (h : I n s) :
    codeAny (model prog w) A (.compLoop (.ListComp elt [⟨target, iter, ifs, 0⟩] scope pos) 0 it acc env) R s := by
  refine codeAny_loop rfl I (fun n s hI => ?_) n h
  show wpAny _ A ((compTurn (.ListComp elt [⟨target, iter, ifs, 0⟩] scope pos) 0 it acc env).onRaise (fun x => do noteFrame x env; theTreesLotGoes x)) _ _ s
  refine wpAny_noted ?_
  rw [compTurn_list]
  refine wpAny_bind (wpAny_standAt (wpAny_bind (wpAny_mono (turn n s hI) (fun r s₁ h₁ => ?_) fun _ _ h' => h')))
  cases r with
  | none => exact wpAny_pure h₁
  | some v =>
    refine wpAny_bind (wpAny_mono h₁ (fun _ s₁' h₁' => ?_) fun _ _ h' => h')
    refine wpAny_bind (wpAny_mono h₁' (fun _ s₂ h₂ => wpAny_bind (wpAny_mono h₂ (fun ok s₃ h₃ => ?_) fun _ _ h' => h')) fun _ _ h' => h')
    cases ok with
    | false => exact wpAny_pure ⟨rfl, h₃⟩
    | true =>
      exact wpAny_bind (wpAny_bind (wpAny_mono h₃ (fun x s₄ h₄ => wpAny_bind (wpAny_mono h₄ (fun _ s₅ h₅ => wpAny_pure (wpAny_pure ⟨rfl, h₅⟩)) fun _ _ h' => h')) fun _ _ h' => h'))
end

/-- os: the block's own names; js: the slots of the captured names -/
def caps (σ : St) (js : List Nat) : St := js.map fun j => σ.getD j none
def tCompB (k : Nat) (js : List Nat) (g : TG) (tc : TT) (te : TE) (σ : St) (Q : VK) (J : It) (H1 : Hp) : Prop :=
  ∃ W : Nat → Nat → List V → Hp → Prop, (∃ m, W 0 m [] H1) ∧ ∀ i m ys H, W i m ys H →
    (J.stop i H ∧ ys.length ≤ sizeLine ∧ ∀ D, H D = none → Q (.ref D) (upd H D (.lst ys))) ∨
    (J.go i H ∧ ys.length < sizeLine ∧ ∀ x H', J.yld i H x H' → ∀ os : St, os.length = k → g x (os ++ caps σ js) H' fun σ2 H2 => (∃ os' : St, os'.length = k ∧ σ2 = os' ++ caps σ js) ∧
        tc σ2 H2 fun b H3 => if b = true then te σ2 H3 fun y H4 => ∃ m', m' < m ∧ W (i + 1) m' (ys ++ [y]) H4 else ∃ m', m' < m ∧ W (i + 1) m' ys H3)
def tComp (k : Nat) (js : List Nat) (wi : TI) (g : TG) (tc : TT) (te : TE) : TE := fun σ H Q => wi σ H (tCompB k js g tc te σ Q)

theorem caps_get {σ : St} {js : List Nat} {i : Nat} {v : V} (h : (caps σ js)[i]? = some (some v)) : ∃ j, js[i]? = some j ∧ σ[j]? = some (some v) := by
  unfold caps at h
  rw [List.getElem?_map] at h
  cases e : js[i]? with
  | none => rw [e] at h; cases h
  | some j =>
    rw [e] at h
    have h' : σ.getD j none = some v := Option.some.inj h
    refine ⟨j, rfl, ?_⟩
    rw [List.getD_eq_getElem?_getD] at h'
    cases q : σ[j]? with
    | none => rw [q] at h'; cases h'
    | some o => rw [q] at h'; exact congrArg some h'

set_option maxHeartbeats 1000000 in
theorem pe_comp {X : Cx} {elt iter tg : Expr} {pos : Pos} {ifs : List Expr} {scope : Scope} {wi : TI} {g : TG} {tc : TT} {te : TE} (own : List Str) (js : List Nat) (N' : List Str) (hc : X.calm = true)
    (hi : PI X tg iter wi)
    (hg : ∀ C s₀ H₀ ex, PG (cxComp X scope N' C s₀ H₀ ex) tg g)
    (ht : ∀ C s₀ H₀ ex, PTs (cxComp X scope N' C s₀ H₀ ex) ifs tc)
    (he : ∀ C s₀ H₀ ex, PE (cxComp X scope N' C s₀ H₀ ex) elt te)
    (hN' : N' = own ++ js.map fun j => X.N.getD j Str.empty := by rfl)
    (hk : scope.kind = .function := by rfl)
    (hcell : ∀ y ∈ scope.names, y.2 ≠ .cell := by decide +kernel)
    (hnames : ∀ y ∈ scope.names, y.2 = .local → scope.names.lookup y.1 = some .local := by decide +kernel)
    (hfr : (scope.names.all fun y => y.2 != .free || X.env.scope.names.lookup y.1 == some .cell) = true := by rfl)
    (hjs : (js.all fun j => scope.names.lookup (X.N.getD j Str.empty) == some .free && (X.N[j]?).isSome) = true := by rfl)
    (hs : ∀ z, foldedSetIterable iter X.env z = pure z := by intro _; rfl) :
    PE X (.ListComp elt [⟨tg, iter, ifs, 0⟩] scope pos) (tComp own.length js wi g tc te) := by
  intro pins s σ H Q I h
  have free_cell : ∀ y ∈ scope.names, y.2 = .free → X.env.kindOf y.1 = some .cell := fun y hy hf => by
    have := List.all_eq_true.mp hfr y hy
    rw [hf] at this
    simp at this
    exact this
  have hcl : ∀ y ∈ scope.names, y.2 = .free → ∃ c, X.env.cells.lookup y.1 = some c := fun y hy hf => I.ok.has y.1 (.inl (free_cell y hy hf))
  rw [eval_ListComp]
  refine wpAny_comprehension_free (use := none) rfl hs (closureFor_eq hcl) hk hnames ?_
  refine thn (hi pins s σ H _ I h) fun v s1 h1 => thn h1 fun itv s2 h2 => ?_
  obtain ⟨it, fp, tn, J, H2, e, I2, T, st2, f2, W, ⟨m0, w0⟩, turn⟩ := h2
  subst e
  refine wpAny_newObj_type (wpAny_newFunctionEnv hcell (by intro y hy; simp at hy) (fun h₁ hns₁ hsb₁ => ?_) hk)
  dsimp only at hns₁ hsb₁ ⊢
  generalize hG : s2.heap.push { cls := .type "list", dict := none, data := .seq ([] : List Value).toArray } = G at hns₁ hsb₁ ⊢
  have hC : G.objs.size = s2.heap.objs.size + 1 := by rw [← hG, Heap.size_push]
  have hDC : s2.heap.objs.size ≠ G.objs.size := by rw [hC]; exact Nat.ne_of_lt (Nat.lt_succ_self _)
  have below : ∀ b, b < s2.heap.objs.size → b ≠ G.objs.size ∧ b ≠ s2.heap.objs.size := fun b hb => ⟨by rw [hC]; exact Nat.ne_of_lt (Nat.lt_succ_of_lt hb), Nat.ne_of_lt hb⟩
  have old : ∀ b o, s2.heap.get? b = some o → h₁.get? b = some o := fun b o e => hsb₁.extBut b o (below b (Heap.lt_size e)).1 (Heap.get?_push_of_some _ (hG ▸ Heap.get?_push_of_some _ e))
  have hacc : h₁.get? s2.heap.objs.size = some { cls := .type "list", data := .seq ([] : List Value).toArray 0 } := hsb₁.extBut _ _ hDC (Heap.get?_push_of_some _ (hG ▸ Heap.get?_push_size _ rfl))
  have fplt : ∀ b ∈ fp, b < s2.heap.objs.size := fun b hb => let ⟨_, e, _⟩ := T.obj _ _ st2 b hb; Heap.lt_size e
  have ok' : (cxComp X scope N' G.objs.size s2 H2 fp).Ok := by
    refine ⟨I2.ok.mod, hk, I2.ok.glob, I2.ok.blt, by show s2.heap.objs.size ≤ G.objs.size; rw [hC]; exact Nat.le_succ _, fun x y c e1 e2 => I2.ok.inj x y c (lookup_closOf hcl e1) (lookup_closOf hcl e2), fun x hx => ?_,
      fun x c hx _ => (nomatch hx), I2.ok.hd, I2.ok.frames, .inl rfl, fun b hb => ⟨(below b (fplt b hb)).1, fun x c e => (f2 b hb).2.2.2.2.1 x c (lookup_closOf hcl e)⟩, I2.bs, Nat.le_trans I2.ok.bsz I2.sz, fun b o e hb => ?_, fun b hb z => ?_, I2.stack, I2.stkFree⟩
    · have hx' : (relabel scope X.env).names.lookup x = some .cell ∨ (relabel scope X.env).names.lookup x = some .free := hx
      have : (x, NameKind.free) ∈ scope.names ∨ (x, NameKind.cell) ∈ scope.names := by
        rcases hx' with z | z
        · exact relabel_back z (.inl rfl)
        · exact relabel_back z (.inr rfl)
      rcases this with z | z
      · exact has_closOf z
      · exact absurd rfl (hcell _ z)
    · rcases (f2 b hb).2.2.2.1 with z | z
      · exact I2.ok.noex b o e z
      · have h1 : b < X.base.objs.size := Heap.lt_size e
        exact absurd (Nat.lt_of_lt_of_le h1 (Nat.le_trans I2.ok.bsz z)) (Nat.lt_irrefl _)
    · rcases List.mem_cons.mp (I2.stkSub b z) with e | e
      · exact (f2 b hb).2.1 e
      · exact (f2 b hb).2.2.1 e
  have kindCap : ∀ i y, (js.map fun j => X.N.getD j Str.empty)[i]? = some y → ∃ j, js[i]? = some j ∧ X.N[j]? = some y ∧ scope.names.lookup y = some .free := fun i y e => by
    rw [List.getElem?_map] at e
    cases q : js[i]? with
    | none => rw [q] at e; cases e
    | some j =>
      rw [q] at e
      have e' : X.N.getD j Str.empty = y := Option.some.inj e
      have hj := List.all_eq_true.mp hjs j (List.mem_of_getElem? q)
      rw [Bool.and_eq_true] at hj
      obtain ⟨hj1, hj2⟩ := hj
      rw [e'] at hj1
      obtain ⟨z, hz⟩ := Option.isSome_iff_exists.mp hj2
      rw [List.getD_eq_getElem?_getD, hz] at e'
      exact ⟨j, q, by rw [hz]; exact congrArg some e', by simpa using hj1⟩
  have I0 : ∀ tk : Nat, Inv (cxComp X scope N' G.objs.size s2 H2 fp) [(s2.heap.objs.size, { cls := .type "list", data := .seq ([] : List Value).toArray 0 })] (List.replicate own.length none ++ caps σ js) H2 { s2 with heap := h₁, toks := tk } := fun tk => by
    refine ⟨ok', rfl, I2.bare, Un.kept old, ⟨_, hns₁, fun i y v e1 e2 e3 => ?_⟩, fun x c e => ?_, I2.hok.fresh (by show s2.heap.objs.size ≤ G.objs.size; rw [hC]; exact Nat.le_succ _), fun x c e => I2.freeC x c (lookup_closOf hcl e), fun p hp => ?_, I2.hok.kept old, ?_⟩
    · by_cases hlt : i < own.length
      · rw [List.getElem?_append_left (by simpa using hlt), List.getElem?_replicate] at e2
        split at e2 <;> cases e2
      · have e1' : N'[i]? = some y := e1
        rw [hN', List.getElem?_append_right (by omega)] at e1'
        rw [List.getElem?_append_right (by simpa using hlt), List.length_replicate] at e2
        obtain ⟨j, hj, hs2⟩ := caps_get e2
        obtain ⟨j', hj', hN, hfree⟩ := kindCap _ _ e1'
        rw [hj] at hj'; cases hj'
        obtain ⟨m, hm, hl⟩ := I2.loc
        have hcell' : X.env.kindOf y = some .cell := free_cell (y, .free) (PySem.mem_of_lookup hfree) rfl
        obtain ⟨u, r, l⟩ := hl j y v hN hs2 (.inr (.inl hcell'))
        refine ⟨u, r, ?_⟩
        rcases l with ⟨hk', _⟩ | ⟨hk', c, hc', z⟩
        · rw [hcell'] at hk'; cases hk'
        · obtain ⟨c', e'⟩ := has_closOf (env := X.env) (PySem.mem_of_lookup hfree)
          have := lookup_closOf hcl e'
          rw [hc'] at this; cases this
          refine .inr ⟨.inl (lookup_relabel_free I2.ok.kind hfree hcell'), c, e', ?_⟩
          obtain ⟨o, ho, hd⟩ := z
          exact ⟨o, old _ _ ho, hd⟩
    · obtain ⟨v, o, ho, hd⟩ := I2.cell x c (lookup_closOf hcl e)
      exact ⟨v, o, old _ _ ho, hd⟩
    · have hp' : p = (s2.heap.objs.size, { cls := .type "list", data := .seq ([] : List Value).toArray 0 }) := by
        rcases List.mem_append.mp hp with z | z
        · exact absurd (show p ∈ ([] : List (Addr × Obj)) from z) (by simp)
        · simpa using z
      subst hp'
      refine ⟨hacc, I2.hok.fresh (Nat.le_refl _), hDC, fun z => ?_, fun v z => by cases z⟩
      exact absurd (show s2.heap.objs.size ∈ frs X.stack from z) fun z => by
        rcases List.mem_cons.mp (I2.stkSub _ z) with e | e
        · have := I2.lt
          rw [← e] at this
          exact Nat.lt_irrefl _ this
        · exact I2.nofs (Nat.le_refl _) e
    · show _ = N'.length
      rw [hN']
      simp [caps]
  have stat : ∀ {H' : Hp} {ob : Obj}, (∀ b ∈ fp, H' b = none) → ∀ b ∈ fp, FpOk (cxComp X scope N' G.objs.size s2 H2 fp) [(s2.heap.objs.size, ob)] H' b := fun {H' ob} hn b hb =>
    ⟨hn b hb, (below b (fplt b hb)).1, fun z => ok'.exfs b hb z, .inl hb, fun x c e => (f2 b hb).2.2.2.2.1 x c (lookup_closOf hcl e), fun p hp => by
      have hp' : p = (s2.heap.objs.size, ob) := by
        rcases List.mem_append.mp hp with z | z
        · exact absurd (show p ∈ ([] : List (Addr × Obj)) from z) (by simp)
        · simpa using z
      subst hp'
      exact Ne.symm (below b (fplt b hb)).2⟩
  have loop : ∀ s₃ : Shared, s₃ = { s2 with heap := h₁, toks := s2.toks + ([] : List (Str × Value)).length } →
      codeAny (model X.prog X.w) X.A (.compLoop (.ListComp elt [⟨tg, iter, ifs, 0⟩] scope pos) 0 (.ref it) (.ref s2.heap.objs.size) (compEnvC scope (closOf scope X.env) G.objs.size X.env))
        (compPost (model X.prog X.w) X.A X.xe none (EP X pins σ Q) (.ref s2.heap.objs.size) G.objs.size) s₃ := by
    rintro s₃ rfl
    refine comp_loop (fun n s' => ∃ (i : Nat) (os : St) (H' : Hp) (ys : List V) (its : List Value) (k : Nat), os.length = own.length ∧
      Inv (cxComp X scope N' G.objs.size s2 H2 fp) [(s2.heap.objs.size, { cls := .type "list", data := .seq its.toArray k })] (os ++ caps σ js) H' s' ∧ tn i s'.heap ∧ (∀ b ∈ fp, H' b = none) ∧ Vals ys its ∧ W i n ys H') ?_ m0
      ⟨0, _, H2, [], [], 0, by simp, I0 _, T.keep _ _ _ st2 fun b _ o e => old b o e, fun b hb => (f2 b hb).1, .nil, w0⟩
    rintro n s3 ⟨i, os, H3, ys, its, k, hos, I3, st3, fr3, rv3, w3⟩
    have pinD : ∀ {σ' : St} {H' : Hp} {s' : Shared}, Inv (cxComp X scope N' G.objs.size s2 H2 fp) [(s2.heap.objs.size, { cls := .type "list", data := .seq its.toArray k })] σ' H' s' → s'.heap.get? s2.heap.objs.size = some { cls := .type "list", data := .seq its.toArray k } ∧ H' s2.heap.objs.size = none :=
      fun I => let q := I.pin (s2.heap.objs.size, { cls := .type "list", data := .seq its.toArray k }) (List.mem_append_right _ (by simp)); ⟨q.1, q.2.1⟩
    rcases turn i n ys H3 w3 with ⟨stop, hz, qn⟩ | ⟨go, hz, step⟩
    · refine thn (T.done (cxComp X scope N' G.objs.size s2 H2 fp) rfl rfl rfl hc i _ s3 _ H3 _ I3 (stat fr3) st3 stop) fun r s4 ⟨hr, I4⟩ => ?_
      subst hr
      obtain ⟨hD4, hn4⟩ := pinD I4
      obtain ⟨m, hm, _⟩ := I4.loc
      refine ⟨m, hm, fun h' hsb => ?_⟩
      have b4 := I4.base
      have nC : ∀ b o, s2.heap.get? b = some o → b ≠ G.objs.size := fun b o e => (below b (Heap.lt_size e)).1
      have nD : ∀ b o, s2.heap.get? b = some o → b ≠ s2.heap.objs.size := fun b o e => (below b (Heap.lt_size e)).2
      have hok' : HOk X.prog X.w H3 h' := fun b ob e => by
        refine (I4.hok b ob e).stay (fun c w' hc' q => (hsb.2 c ?_).trans q) (fun _ q => q) fun _ _ q => q
        rintro rfl
        rcases hc' with hc' | hc'
        · rw [← hc', show H3 G.objs.size = none from I4.free] at e; cases e
        · rw [show H3 G.objs.size = none from I4.free] at hc'; cases hc'
      have hD' : h'.get? s2.heap.objs.size = some { cls := .type "list", data := .seq its.toArray k } := (hsb.2 _ hDC).trans hD4
      refine ⟨.ref s2.heap.objs.size, upd H3 s2.heap.objs.size (.lst ys), ?_, rfl, qn _ hn4⟩
      refine I2.call' (ch := fp) I4.os ⟨fun b o e n hb hx => ?_, fun b o e n hb hx => ?_, fun b o e n hx => ?_, fun b o e hx => ?_, fun b xs q => ?_, fun b o u q => ?_, fun b ps q => ?_⟩ (hok'.track hn4 ⟨hz, its, k, rv3, hD'⟩) I4.bare fun b hb => ⟨(f2 b hb).2.2.2.1, (f2 b hb).2.1, (f2 b hb).2.2.2.2.1, (f2 b hb).2.2.2.2.2⟩
      · exact (hsb.2 b (nC b o e)).trans (b4.keep b o e n hb hx)
      · obtain ⟨sl, e1⟩ := b4.slot b o e n hb hx
        exact ⟨sl, (hsb.2 b (nC b o e)).trans e1⟩
      · rw [upd_ne (nD b o e)]; exact b4.free b o e n hx
      · obtain ⟨o', e1⟩ := b4.there b o e hx
        exact ⟨o', (hsb.2 b (nC b o e)).trans e1⟩
      · have z := b4.tups b xs q
        rw [upd_ne (ne_of_none z hn4)]; exact z
      · have z := b4.frzs b o u q
        rw [upd_ne (ne_of_none z hn4)]; exact z
      · obtain ⟨more, z⟩ := b4.tbls b ps q
        exact ⟨more, by rw [upd_ne (ne_of_none z hn4)]; exact z⟩
    · refine thn (T.item (cxComp X scope N' G.objs.size s2 H2 fp) rfl rfl rfl hc i _ s3 _ H3 _ I3 (stat fr3) st3 go) fun r s4 ⟨u, hr, h4⟩ => ?_
      subst hr
      refine thn h4 fun _ s5 ⟨x, H5, I5, r5, y5, st5, fr5⟩ => ?_
      have fpo := T.obj _ _ st5
      have I5' := I5.pinned (stat fr5) fpo
      refine wpAny_mono (hg _ _ _ _ _ s5 _ H5 x u _ I5' r5 (step x H5 y5 os hos)) (fun _ s6 ⟨σ6, H6, I6, ⟨os', hos', e6⟩, q6⟩ => ?_) fun _ _ z => False.elim z
      subst e6
      refine wpAny_mono (ht _ _ _ _ _ s6 _ H6 _ I6 q6) (fun ok s7 ⟨H7, I7, q7⟩ => ?_) fun _ _ z => False.elim z
      have keepFp : ∀ {σ' : St} {H' : Hp} {s' : Shared}, Inv (cxComp X scope N' G.objs.size s2 H2 fp) ([(s2.heap.objs.size, { cls := .type "list", data := .seq its.toArray k })] ++ pinsAt fp s5.heap) σ' H' s' → tn (i + 1) s'.heap ∧ ∀ b ∈ fp, H' b = none := fun I => by
        refine ⟨T.keep _ _ _ st5 fun b hb o e => (I.pin (b, o) (List.mem_append_right _ (List.mem_append_right _ (mem_pinsAt hb e)))).1, fun b hb => ?_⟩
        obtain ⟨o, e, d⟩ := fpo b hb
        exact (I.pin (b, o) (List.mem_append_right _ (List.mem_append_right _ (mem_pinsAt hb e)))).2.1
      cases ok with
      | false =>
        obtain ⟨m', hm', w'⟩ := q7
        obtain ⟨k1, k2⟩ := keepFp I7
        exact ⟨m', hm', i + 1, os', H7, ys, its, k, hos', I7.unpinned, k1, k2, rv3, w'⟩
      | true =>
        rw [if_pos rfl]
        refine wpAny_mono (he _ _ _ _ _ s7 _ H7 _ I7 q7) (fun yv s8 ⟨y, H8, I8, r8, q8⟩ => ?_) fun _ _ z => False.elim z
        obtain ⟨m', hm', w'⟩ := q8
        obtain ⟨k1, k2⟩ := keepFp I8
        have I8' := I8.unpinned
        obtain ⟨hD8, hn8⟩ := pinD I8'
        have hil : its.length < sizeLine := by rw [← rv3.length]; exact hz
        refine call_meets F.slot_list_append ⟨_, hD8, rfl⟩ F.entry_list_append (F.args_list_append_2 _ _) (PySem.list_append _ its.toArray k yv (by rw [List.size_toArray]; omega)) ⟨hD8, ?_⟩
        have q : (s8.heap.update s2.heap.objs.size (Obj.mapSeq fun a => a.push yv)).get? s2.heap.objs.size = some { cls := .type "list", data := .seq (its ++ [yv]).toArray (if (its.toArray.push yv).size == its.toArray.size then k else k + 1) } := by
          have q0 := PySem.IsL.update hD8 (fun a : Array Value => a.push yv)
          have ea : its.toArray.push yv = (its ++ [yv]).toArray := by simp
          rw [← ea]
          exact q0
        refine ⟨m', hm', i + 1, os', H8, ys ++ [y], its ++ [yv], (if (its.toArray.push yv).size == its.toArray.size then k else k + 1), hos', ?_, T.keep _ _ _ k1 fun b hb o e => (Heap.get?_update_other s8.heap _ (below b (fplt b hb)).2.symm).trans e, k2, rv3.append (.cons r8 .nil), w'⟩
        have In : Inv (cxComp X scope N' G.objs.size s2 H2 fp) [] (os' ++ caps σ js) H8 s8 := I8'.pins_of fun p hp => absurd hp (by simp)
        have It : Inv (cxComp X scope N' G.objs.size s2 H2 fp) [] (os' ++ caps σ js) H8 { s8 with heap := s8.heap.update s2.heap.objs.size (Obj.mapSeq fun a => a.push yv) } :=
          In.turned (it := s2.heap.objs.size) (t' := s8.toks) (fun b o hb e => (Heap.get?_update_other s8.heap _ (Ne.symm hb)).trans e) hn8 hDC (.inr (Nat.le_refl _)) (fun x c e z => by
            obtain ⟨v, o, ho, hd⟩ := I8'.cell x c e
            rw [z, hD8] at ho
            cases ho
            cases hd) fun p hp => absurd hp (by simp [cxComp])
        refine It.pins_of fun p hp => ?_
        have hp' : p = (s2.heap.objs.size, { cls := .type "list", data := .seq (its ++ [yv]).toArray (if (its.toArray.push yv).size == its.toArray.size then k else k + 1) }) := List.mem_singleton.mp hp
        subst hp'
        exact ⟨q, hn8, hDC, (I8'.pin _ (List.mem_append_right _ (List.mem_singleton.mpr rfl))).2.2.2.1, fun v z => by cases z⟩
  exact codeAny_compStart_list (loop _ rfl) (T.self _ 0 _ _ _ (T.keep _ _ _ st2 fun b _ o e => old b o e) (loop _ rfl))
end L2

set_option Elab.async false
set_option linter.all false
set_option maxRecDepth 100000
namespace L2
open PySem PySem.Spec PyProof.Rows
section
variable {X : Cx}

/-! isinstance(x, T), T a built-in type -/
theorem call_isi : CallR X (.builtin "isinstance") (fun xs H Q => ∃ x n t b, xs = [x, .ty n] ∧ TyOf X.K H x t ∧ PySem.W.kitOne X.K t (.type n) = some b ∧ Q (.bl b) H) := by
  intro pins s σ H xs us Q I r h
  obtain ⟨x, n, t, b, rfl, ty, e, q⟩ := h
  obtain ⟨u, c, rfl, rx, rc⟩ := r.two
  cases (show c = Value.type n from rc)
  exact isinst_ok I rx ty e fun tk => ⟨.bl b, H, I.tok tk, rfl, q⟩

/-! `x is c`, c True or False -/

/-! all(xs), any(xs) of a list of truths -/
theorem bools_are : ∀ {bs : List Bool} {us : List Value}, Vals (bs.map V.bl) us → LSm.BoolsAre us bs
  | [], _, .nil => .nil
  | b :: bs, _, .cons r t => by
    cases r
    exact .cons b (bools_are t)
theorem call_all (hc : X.calm = true) : CallR X (.builtin "all") (fun xs H Q => ∃ (p : Addr) (bs : List Bool), xs = [.ref p] ∧ SqL X.K H p (bs.map V.bl) ∧ Q (.bl (bs.all id)) H) := by
  intro pins s σ H xs us Q I r h
  obtain ⟨p, bs, rfl, hq, q⟩ := h
  obtain ⟨u, rfl, rx⟩ := r.one
  cases rx
  obtain ⟨its, rv, pl, hz⟩ := I.list hq
  have hb := bools_are rv
  have hl := pl.isList
  have hlt : p < s.heap.objs.size := by obtain ⟨_, e, _⟩ := hl; exact Heap.lt_size e
  refine call_all_walk (wpAny_pyIter_list hl ?_)
  refine ⟨s.heap.objs.size, [s.heap.objs.size, p], [s.heap.objs.size], its.toArray.size, _, _, fun i => (bs[i]?).getD true, rfl, Walks.list (A := X.A.in1) (I.ok.hd hc) _ p (Nat.ne_of_lt hlt) its.toArray,
    ⟨⟨_, Heap.get?_push_size _ rfl, rfl, rfl⟩, hl.push _⟩, fun i v s' Q' E' hP hQ => ?_, fun h' tk hk => ?_⟩
  · obtain ⟨b, e, rfl⟩ := hb.get i v (by simpa using hP)
    simp only [e, Option.getD_some] at hQ
    exact wpAny_truthy_bool hQ
  · have e : ((List.range its.toArray.size).all fun i => (bs[i]?).getD true) = bs.all id := by
      rw [List.size_toArray, hb.length]; exact LSm.range_all bs
    rw [e]
    exact ⟨.bl _, H, I.kept (LSm.kept_iter hk), rfl, q⟩

/-! texts: split, join, index, slices, int() -/

/-! == and != of two lists of flat items -/
def eqL : List V → List V → Bool
  | [], [] => true
  | x :: xs, y :: ys => eqV x y && eqL xs ys
  | _, _ => false
theorem eqL_len : ∀ {xs ys : List V}, xs.length ≠ ys.length → eqL xs ys = false
  | [], [], h => absurd rfl h
  | [], _ :: _, _ => rfl
  | _ :: _, [], _ => rfl
  | x :: xs, y :: ys, h => by
    unfold eqL
    rw [eqL_len (fun e => h (by simp [e])), Bool.and_false]
theorem eqL_range : ∀ {xs ys : List V}, xs.length = ys.length → ((List.range xs.length).all fun j => eqV (xs.getD j .non) (ys.getD j .non)) = eqL xs ys
  | [], [], _ => rfl
  | [], _ :: _, h => by simp at h
  | _ :: _, [], h => by simp at h
  | x :: xs, y :: ys, h => by
    have ih := eqL_range (xs := xs) (ys := ys) (by simpa using h)
    unfold eqL
    rw [← ih, List.length_cons, List.range_succ_eq_map, List.all_cons, List.all_map]
    rfl
theorem eqAt_items {A : Around} {s : Shared} : ∀ {xs ys : List V} {us ws : List Value}, Vals xs us → Vals ys ws → xs.all flatV = true → ys.all flatV = true →
    ∀ j (h1 : j < us.toArray.size) (h2 : j < ws.toArray.size), SeqAt.EqAt A s us.toArray[j] ws.toArray[j] (eqV (xs.getD j .non) (ys.getD j .non))
  | _, _, _, _, .nil, _, _, _ => fun j h1 _ => by simp at h1
  | _, _, _, _, .cons _ _, .nil, _, _ => fun j _ h2 => by simp at h2
  | x :: xs, y :: ys, u :: us, w :: ws, .cons r t, .cons r' t', f, f' => fun j h1 h2 => by
    rw [List.all_cons, Bool.and_eq_true] at f f'
    cases j with
    | zero => exact eqAt_V r r' f.1 f'.1
    | succ j =>
      have := eqAt_items (A := A) (s := s) t t' f.2 f'.2 j (by simpa using h1) (by simpa using h2)
      simpa using this
def rEqL (K : PySem.W.Frag) (neg : Bool) : R2 := fun x y H Q => ∃ a b xs ys, x = .ref a ∧ y = .ref b ∧ SqL K H a xs ∧ SqL K H b ys ∧ xs.all flatV = true ∧ ys.all flatV = true ∧ Q (.bl (if neg then !eqL xs ys else eqL xs ys)) H
theorem op_eqL (hu : X.A.units < cLine) : OpR X (compareOp .Eq) (rEqL X.K false) := by
  intro pins s σ H x y v u Q I rx ry h
  obtain ⟨a, b, xs, ys, rfl, rfl, ha, hb, fx, fy, q⟩ := h
  cases rx
  cases ry
  obtain ⟨its, r1, p1, _⟩ := I.list ha
  obtain ⟨its2, r2, p2, _⟩ := I.list hb
  have l1 := r1.length
  have l2 := r2.length
  by_cases hl : xs.length = ys.length
  · refine SeqAt.eq_listAt p1.isList p2.isList (by simp only [List.size_toArray]; omega) hu (eqAt_items r1 r2 fx fy) ⟨.bl _, H, I, ?_, q⟩
    rw [List.size_toArray, ← l1, eqL_range hl]
    rfl
  · refine SeqAt.eq_list_lengthsAt p1.isList p2.isList (by simp only [List.size_toArray]; simp; omega) hu ⟨.bl _, H, I, ?_, q⟩
    rw [eqL_len hl]
    rfl
end
end L2

set_option Elab.async false
set_option linter.all false
set_option maxRecDepth 100000
namespace L2
open PySem PySem.Spec PyProof.Rows

/-! a def of the text, and what is known of it -/
structure Def (K : PySem.W.Frag) (mg : Str → Option Value) (x : Str) (st : Stmt) (ps : List Str) : Prop where
  ex : ∃ f fd, Fun K x x st f fd ∧ mg x = some (.ref f) ∧ Binds K fd ps []
def Knows (P : Program) (w : World) (K : PySem.W.Frag) (mg : Str → Option Value) (base : Heap) (k : Nat) (x : Str) (ps : List Str) (sp : Sp) : Prop :=
  ∃ f fd, mg x = some (.ref f) ∧ PySem.W.keepIn K (.ref f) = true ∧ Binds K fd ps [] ∧ FnOk P w K mg base CX0 k f fd ps sp
section
variable {P : Program} {w : World} {K : PySem.W.Frag} {mg : Str → Option Value} {base : Heap}
/-- a def by its body: N its names, t the reading -/
theorem Def.ok {x : Str} {st : Stmt} {N ps : List Str} {k : Nat} {sp : Sp} (D : Def K mg x st ps) (S : FnScope N ps (defScope st)) (len : ∀ vs H Q E, sp vs H Q E → vs.length = ps.length)
    (hbody : ∀ (f : Addr) (cdv : Value) (A : Around) (outer : List Env) (s : Shared) (H : Hp) (vs : List V) (Q : VK) (E : XK), Room k (A.deeper (envOfC x (defScope st) s.heap.objs.size f cdv)) → sp vs H Q E →
      ∃ t, PSs (cxOf CX0 P w K mg base N x (defScope st) f cdv A outer s H E).nox (defBody st) t ∧ t { nx := fun _ H' => Q .non H', rt := Q } (start N vs) H) : Knows P w K mg base (k + 1) x ps sp := by
  obtain ⟨f, fd, F, hm, hb⟩ := D.ex
  exact ⟨f, fd, hm, F.kp, hb, F.ok S len fun cdv A outer s H vs Q E hr h => hbody f cdv A outer s H vs Q E hr h⟩
end
section
variable {X : Cx} {x : Str} {ps : List Str} {sp : Sp} {k : Nat} {e : Expr} {es : List Expr} {t : TA} {p pos : Pos}
theorem pe_callN (F : Knows X.prog X.w X.K X.mg X.base k x ps sp) (hr : Room k X.A) (ha : PA X (e :: es) t) (hg : Gl X x := by rfl) (hdb : (x == ("__debug__" : Str)) = false := by decide)
    (he : starEach (e :: es) X.env = (false, eval e X.env) :: starEach es X.env := by rfl) (hpl : (backTo pos (starEach es X.env)).any (·.1) = false := by rfl) : PE X (.Call (.Name x p) (e :: es) [] pos) (tCall sp [] E0 t) := by
  obtain ⟨f, fd, hm, hk, hb, F⟩ := F
  exact pe_call F hr hg hm hk hb .nil pass0 ha hdb he hpl
end

/-! built-in names -/
structure Bltn (mg : Str → Option Value) : Prop where
  isi : mg "isinstance" = none
  len : mg "len" = none
  all : mg "all" = none
  int : mg "int" = none
  bool : mg "bool" = none
  str : mg "str" = none
  list : mg "list" = none
  range : mg "range" = none
def rIsi (K : PySem.W.Frag) (n : String) : List V → Hp → VK → Prop := fun xs H Q => ∃ x t b, xs = [x, .ty n] ∧ TyOf K H x t ∧ PySem.W.kitOne K t (.type n) = some b ∧ Q (.bl b) H
section
variable {X : Cx} {a : Expr} {ta : TE} {p pos p2 : Pos}
theorem call_isiN (n : String) : CallR X (.builtin "isinstance") (rIsi X.K n) := by
  intro pins s σ H xs us Q I r h
  obtain ⟨x, t, b, rfl, ty, e, q⟩ := h
  exact call_isi pins s σ H _ us Q I r ⟨x, n, t, b, rfl, ty, e, q⟩
theorem pe_isi {T : Str} {n : String} (h : X.mg "isinstance" = none) (hT : X.mg T = none) (hv : bootBuiltins T = some (.type n)) (ha : PE X a ta) (hg : Gl X "isinstance" := by rfl) (hg2 : Gl X T := by rfl)
    (hn : T ≠ "__name__" := by decide) (hd : (T == ("__debug__" : Str)) = false := by decide)
    (he : starEach [a, .Name T p2] X.env = (false, eval a X.env) :: starEach [.Name T p2] X.env := by rfl) (he2 : starEach [.Name T p2] X.env = (false, eval (.Name T p2) X.env) :: starEach [] X.env := by rfl) (hpl : (backTo pos (starEach [.Name T p2] X.env)).any (·.1) = false := by rfl) :
    PE X (.Call (.Name "isinstance" p) [a, .Name T p2] [] pos) (tCB (rIsi X.K n) (tCons ta (tCons (tC (.ty n)) tNil))) :=
  pe_callB (call_isiN n) hg h boot_isinstance (pa_cons ha (pa_cons (pe_bltn (v := .ty n) hg2 hT hv rfl hn hd) pa_nil he2) he) (by decide) (by decide) he hpl
end
/-- a built-in type's kinds -/
def isI : V → Bool
  | .int _ => true
  | _ => false
def isIB : V → Bool
  | .int _ => true
  | .bl _ => true
  | _ => false
def isBl : V → Bool
  | .bl _ => true
  | _ => false
def isS : V → Bool
  | .str _ => true
  | _ => false
theorem isiI {K : PySem.W.Frag} {H : Hp} {x : V} {m : String} (ty : TyOf K H x (.type m)) : PySem.W.kitOne K (.type m) (.type "int") = some (isIB x) := by
  cases ty <;> kernel_rfl
theorem isiB {K : PySem.W.Frag} {H : Hp} {x : V} {m : String} (ty : TyOf K H x (.type m)) : PySem.W.kitOne K (.type m) (.type "bool") = some (isBl x) := by
  cases ty <;> kernel_rfl
theorem isiS {K : PySem.W.Frag} {H : Hp} {x : V} {m : String} (ty : TyOf K H x (.type m)) : PySem.W.kitOne K (.type m) (.type "str") = some (isS x) := by
  cases ty <;> kernel_rfl
/-! a comprehension of one own name -/
theorem pe_comp1 {X : Cx} {elt iter : Expr} {x : Str} {px pos : Pos} {ifs : List Expr} {scope : Scope} {wi : TI} {tc : TT} {te : TE} (js : List Nat) (N' : List Str) (hc : X.calm = true)
    (hi : PI X (.Name x px) iter wi)
    (ht : ∀ C s₀ H₀ ex, PTs (cxComp X scope N' C s₀ H₀ ex) ifs tc)
    (he : ∀ C s₀ H₀ ex, PE (cxComp X scope N' C s₀ H₀ ex) elt te)
    (nd : N'.Nodup := by decide +kernel)
    (hx : scope.names.lookup x = some .local := by rfl)
    (hN' : N' = [x] ++ js.map fun j => X.N.getD j Str.empty := by rfl)
    (hk : scope.kind = .function := by rfl)
    (hcell : ∀ y ∈ scope.names, y.2 ≠ .cell := by decide +kernel)
    (hnames : ∀ y ∈ scope.names, y.2 = .local → scope.names.lookup y.1 = some .local := by decide +kernel)
    (hfr : (scope.names.all fun y => y.2 != .free || X.env.scope.names.lookup y.1 == some .cell) = true := by rfl)
    (hjs : (js.all fun j => scope.names.lookup (X.N.getD j Str.empty) == some .free && (X.N[j]?).isSome) = true := by rfl)
    (hs : ∀ z, foldedSetIterable iter X.env z = pure z := by intro _; rfl) :
    PE X (.ListComp elt [⟨.Name x px, iter, ifs, 0⟩] scope pos) (tComp 1 js wi (gName 0) tc te) :=
  pe_comp [x] js N' hc hi (fun C s₀ H₀ ex => pg_name (X := cxComp X scope N' C s₀ H₀ ex) (i := 0) nd (by show N'[0]? = some x; rw [hN']; rfl) (Or.inl (lookup_relabel_local hx)) (.inr (lookup_relabel_local hx))) ht he hN' hk hcell hnames hfr hjs hs
/-! over a known row -/
theorem comp1_wk {js : List Nat} {J : It} {xs : List V} {Pp : Hp → Prop} {σ : St} {H1 : Hp} {tc : TT} {te : TE} {Q : VK} (wk : Wk J xs Pp) (Pv : Nat → List V → Hp → Prop) (h0 : Pv 0 [] H1) (hP : ∀ i ys H, i ≤ xs.length → Pv i ys H → Pp H ∧ ys.length ≤ i) (hsz : xs.length ≤ sizeLine)
    (hs : ∀ i x ys H (Nx : List V → Hp → Prop), xs[i]? = some x → Pv i ys H → (∀ ys' H', Pv (i + 1) ys' H' → Nx ys' H') → tc (some x :: caps σ js) H fun b H3 => if b = true then te (some x :: caps σ js) H3 fun y H4 => Nx (ys ++ [y]) H4 else Nx ys H3)
    (hd : ∀ ys H, Pv xs.length ys H → ∀ D, H D = none → Q (.ref D) (upd H D (.lst ys))) :
    tCompB 1 js (gName 0) tc te σ Q J H1 := by
  refine ⟨fun i m ys H => m = xs.length - i ∧ i ≤ xs.length ∧ Pv i ys H, ⟨xs.length, by simp, Nat.zero_le _, h0⟩, ?_⟩
  rintro i m ys H ⟨rfl, hi, p⟩
  obtain ⟨q, hl⟩ := hP i ys H hi p
  by_cases hlt : i < xs.length
  · refine .inr ⟨wk.go i H hlt q, by omega, fun x H' y os hos => ?_⟩
    obtain ⟨e, y2⟩ := wk.yld i H x H' q y
    subst e
    match os, hos with
    | [v0], _ =>
      exact ⟨⟨[some x], rfl, rfl⟩, hs i x ys _ (fun ys' H' => ∃ m', m' < xs.length - i ∧ m' = xs.length - (i + 1) ∧ i + 1 ≤ xs.length ∧ Pv (i + 1) ys' H') (y2 hlt) p fun ys' H' p' => ⟨xs.length - (i + 1), by omega, rfl, hlt, p'⟩⟩
  · have e : i = xs.length := by omega
    subst e
    exact .inl ⟨wk.stop H q, by omega, hd ys H p⟩
/-! an expression's value by what is true of it, then the rest -/
theorem tTrue_use {σ : St} {H : Hp} {A B : Hp → Prop} (h : A H) : tTrue σ H fun b H3 => if b = true then A H3 else B H3 := by
  show if true = true then A H else B H
  exact iteT h
end L2

set_option Elab.async false
set_option linter.all false
set_option maxRecDepth 100000
namespace L2
open PySem PySem.Spec PyProof.Rows
/-! no starred argument: told once -/
def notStar : Expr → Bool
  | .Starred _ _ => false
  | _ => true
theorem star_cons {e : Expr} {es : List Expr} {env : Env} (h : notStar e = true) : starEach (e :: es) env = (false, eval e env) :: starEach es env := by
  cases e <;> first | rfl | (exact absurd (show false = true from h) Bool.false_ne_true)
theorem star_none {pos : Pos} {env : Env} : ∀ {es : List Expr}, es.all notStar = true → (backTo pos (starEach es env)).any (·.1) = false
  | [], _ => rfl
  | e :: es, h => by
    rw [List.all_cons, Bool.and_eq_true] at h
    rw [star_cons h.1]
    show (false || (backTo pos (starEach es env)).any (·.1)) = false
    rw [star_none h.2]
    rfl
section
variable {X : Cx} {x : Str} {ps : List Str} {sp : Sp} {j k : Nat} {e : Expr} {es : List Expr} {te : TE} {t : TA} {p pos : Pos} {id T : String} {r : List V → Hp → VK → Prop}
theorem pa_c (ha : PE X e te) (hr : PA X es t) (hn : notStar e = true := by rfl) : PA X (e :: es) (tCons te t) := pa_cons ha hr (star_cons hn)
theorem pe_callM (F : Knows X.prog X.w X.K X.mg X.base j x ps sp) (hr : Room k X.A) (ha : PA X (e :: es) t) (hjk : j ≤ k := by decide) (hg : Gl X x := by rfl) (hdb : (x == ("__debug__" : Str)) = false := by decide)
    (he : notStar e = true := by rfl) (hpl : es.all notStar = true := by rfl) : PE X (.Call (.Name x p) (e :: es) [] pos) (tCall sp [] E0 t) :=
  pe_callN F (hr.mono hjk) ha hg hdb (star_cons he) (star_none hpl)
theorem pe_bcall (hc : CallR X (.builtin id) r) (hg : Gl X x) (hm : X.mg x = none) (hv : bootBuiltins x = some (.builtin id)) (ha : PA X (e :: es) t) (hn : x ≠ "__name__" := by decide) (hdb : (x == ("__debug__" : Str)) = false := by decide)
    (he : notStar e = true := by rfl) (hpl : es.all notStar = true := by rfl) : PE X (.Call (.Name x p) (e :: es) [] pos) (tCB r t) := pe_callB hc hg hm hv ha hn hdb (star_cons he) (star_none hpl)
theorem pe_tcall (hc : CallR X (.type T) r) (hg : Gl X x) (hm : X.mg x = none) (hv : bootBuiltins x = some (.type T)) (ha : PA X (e :: es) t) (hn : x ≠ "__name__" := by decide) (hdb : (x == ("__debug__" : Str)) = false := by decide)
    (he : notStar e = true := by rfl) (hpl : es.all notStar = true := by rfl) : PE X (.Call (.Name x p) (e :: es) [] pos) (tCB r t) := pe_callTy hc hg hm hv ha hn hdb (star_cons he) (star_none hpl)
end
section
variable {X : Cx} {o e : Expr} {es : List Expr} {to : TE} {t : TA} {name : Str} {apos cpos : Pos} {T id : String} {r : V → List V → Hp → VK → Prop}
theorem star_few {pos : Pos} {env : Env} : ∀ {es : List Expr}, es.all notStar = true → (backTo pos (starEach es env)).all (fun x => !x.1) = true
  | [], _ => rfl
  | e :: es, h => by
    rw [List.all_cons, Bool.and_eq_true] at h
    rw [star_cons h.1]
    show (true && (backTo pos (starEach es env)).all (fun x => !x.1)) = true
    rw [star_few h.2]
    rfl
theorem pe_mcall (pa : PlainAttrs T) (slot : Slot T name id) (hty : typeOf (.builtin id) = pure (.type "method_descriptor")) (hm : MtR X id r) (ho : PE X o to) (ha : PA X (e :: es) t)
    (hbase : attributeBase o name X.env (eval o X.env) = eval o X.env := by rfl) (he : notStar e = true := by rfl) (hpl : es.all notStar = true := by rfl) (hlen : (e :: es).length < 30 := by decide)
    (hline : (apos.endLine == cpos.line) = true := by rfl) : PE X (.Call (.Attribute o name apos) (e :: es) [] cpos) (tBM X.K T r to t) := by
  refine pe_bm pa slot hty hm ho ha hbase ?_ hline (star_cons he) (star_none hpl)
  rw [star_few (by rw [List.all_cons, he, hpl]; rfl)]
  show (true && true && decide ((e :: es).length + 0 + 0 < 30)) = true
  rw [decide_eq_true (by omega)]
  rfl
end
section
variable {X : Cx} {a : Expr} {ta : TE} {p pos p2 : Pos}
theorem pe_isiM {T : Str} {n : String} (h : X.mg "isinstance" = none) (hT : X.mg T = none) (hv : bootBuiltins T = some (.type n)) (ha : PE X a ta) (hg : Gl X "isinstance" := by rfl) (hg2 : Gl X T := by rfl)
    (hn : T ≠ "__name__" := by decide) (hd : (T == ("__debug__" : Str)) = false := by decide) (he : notStar a = true := by rfl) :
    PE X (.Call (.Name "isinstance" p) [a, .Name T p2] [] pos) (tCB (rIsi X.K n) (tCons ta (tCons (tC (.ty n)) tNil))) :=
  pe_isi h hT hv ha hg hg2 hn hd (star_cons he) (star_cons rfl) (star_none rfl)
end
theorem hu0 {A : Around} {k : Nat} (hr : Room k A) : A.units < cLine := hr.units0
theorem atI_mem {α : Type} {xs : List α} {i : Int} (h0 : 0 ≤ i) (h1 : i < xs.length) : ∃ v, atI xs i = some v ∧ v ∈ xs ∧ xs[i.toNat]? = some v := by
  have hj : i.toNat < xs.length := by omega
  refine ⟨xs[i.toNat], ?_, List.getElem_mem hj, by simp [hj]⟩
  have h := atI_nat (xs := xs) (j := i.toNat) (v := xs[i.toNat]) (by simp [hj])
  rwa [show ((i.toNat : Nat) : Int) = i by omega] at h
theorem ite_b {c : Bool} {A B : Prop} (h1 : c = true → A) (h2 : c = false → B) : if c = true then A else B := by
  cases c
  · exact iteF (h2 rfl)
  · exact iteT (h1 rfl)
theorem if_use {c : TT} {t u r : TS} {D : Ends} {σ : St} {H : Hp} (Post : Bool → Hp → Prop) (hc : ∀ Q', (∀ b H', Post b H' → Q' b H') → c σ H Q') (kt : ∀ H', Post true H' → t { D with nx := r D } σ H') (kf : ∀ H', Post false H' → u { D with nx := r D } σ H') : tSeq (tIfS c t u) r D σ H := hc _ fun b H' p => by
  cases b
  · exact iteF (kf H' p)
  · exact iteT (kt H' p)
theorem seq_use {te : TE} {g : TG} {u : TS} {D : Ends} {σ : St} {H : Hp} (Post : V → Hp → Prop) (hg : ∀ Q', (∀ v H', Post v H' → Q' v H') → te σ H Q') (k : ∀ v H', Post v H' → g v σ H' (u D)) : tSeq (tAsg te g) u D σ H := hg _ k
end L2

set_option Elab.async false
set_option linter.all false
set_option maxRecDepth 100000
namespace L2
open PySem PySem.Spec PyProof.Rows

/-! data: flat values, lists and tuples of data, as trees -/
section
variable {X : Cx} {pins : List (Addr × Obj)} {σ : St} {H : Hp} {s : Shared}
end
end L2
namespace L2
open PySem PySem.Spec PyProof.Rows
section
variable {X : Cx} {pins : List (Addr × Obj)} {σ : St} {H : Hp} {s : Shared} {A : Around} {x : V} {u : Value} {p : Addr} {items : Array Value}
end
end L2

set_option Elab.async false
set_option linter.all false
set_option maxRecDepth 100000
namespace L2
open PySem PySem.Spec PyProof.Rows

/-! ### exceptions: how one lies behind a call -/


section
variable {P : Program} {w : World} {K : PySem.W.Frag} {mg : Str → Option Value} {base : Heap} {N : List Str} {qual : Str} {scope : Scope} {f : Addr} {cd : Value} {A : Around} {outer : List Env} {s₀ : Shared} {H₀ : Hp} {E : XK}
  {pins : List (Addr × Obj)} {σ : St} {H : Hp} {s : Shared}
end
end L2

set_option Elab.async false
set_option linter.all false
set_option maxRecDepth 100000
namespace L2
open PySem PySem.Spec PyProof.Rows

/-! ### raise C(..) -/
section
variable {P : Program} {w : World} {K : PySem.W.Frag} {mg : Str → Option Value} {base : Heap} {N : List Str} {qual : Str} {scope : Scope} {f : Addr} {cd : Value} {A : Around} {outer : List Env} {s₀ : Shared} {H₀ : Hp} {E : XK}
end

/-! ### a def that may raise, and its contract -/
section
variable {P : Program} {w : World} {K : PySem.W.Frag} {mg : Str → Option Value} {base : Heap}
/-- a method of a class -/
def KnowsM (CX : CXT) (P : Program) (w : World) (K : PySem.W.Frag) (mg : Str → Option Value) (base : Heap) (k : Nat) (C : Addr) (m : Str) (ps : List Str) (sp : Sp) : Prop :=
  ∃ f fd, Meth K C m f ∧ Binds K fd ps [] ∧ FnOk P w K mg base CX k f fd ps sp
end
section
variable {X : Cx} {CX : CXT} {x m : Str} {ps : List Str} {sp : Sp} {j k : Nat} {e o : Expr} {es : List Expr} {ta : TE} {t : TA} {p pos apos : Pos} {E : XK} {C : Addr}
theorem pe_methM {pl : Sem Bool} (F : KnowsM CX X.prog X.w X.K X.mg X.base j C m ps sp) (c : Cls X.K C) (hr : Room k X.A) (hx : Passes CX X E) (ho : PE X o ta) (ha : PA X (e :: es) t) (hjk : j ≤ k := by decide)
    (he : notStar e = true := by rfl) (hpl : es.all notStar = true := by rfl)
    (ht : eval (.Call (.Attribute o m apos) (e :: es) [] pos) X.env = (do
      let ov ← eval o X.env
      standAt apos.atName
      let (f, first) ← holding [ov] (getMethod ov m pl)
      callWith pos f first (backTo pos (starEach (e :: es) X.env)) (backToKw pos (keywordEach [] X.env))) := by rfl) : PE X (.Call (.Attribute o m apos) (e :: es) [] pos) (tMeth C m sp [] E ta t) := by
  obtain ⟨f, fd, hm, hb, F⟩ := F
  exact pe_meth (pl := pl) ho c hm F (hr.mono hjk) hb .nil hx ha (star_cons he) (star_none hpl) ht
theorem pe_methM0 {pl : Sem Bool} (F : KnowsM CX X.prog X.w X.K X.mg X.base j C m ps sp) (c : Cls X.K C) (hr : Room k X.A) (hx : Passes CX X E) (ho : PE X o ta) (hjk : j ≤ k := by decide)
    (ht : eval (.Call (.Attribute o m apos) [] [] pos) X.env = (do
      let ov ← eval o X.env
      standAt apos.atName
      let (f, first) ← holding [ov] (getMethod ov m pl)
      callWith pos f first (backTo pos (starEach [] X.env)) (backToKw pos (keywordEach [] X.env))) := by rfl) : PE X (.Call (.Attribute o m apos) [] [] pos) (tMeth C m sp [] E ta tNil) := by
  obtain ⟨f, fd, hm, hb, F⟩ := F
  exact pe_meth0 (pl := pl) ho c hm F (hr.mono hjk) hb .nil hx ht
end
end L2

set_option Elab.async false
set_option linter.all false
set_option maxRecDepth 100000
namespace L2
open PySem PySem.Spec PyProof.Rows

/-! ### try: .. except NAME: .. -/
section
variable {X : Cx} {pins : List (Addr × Obj)} {σ : St} {H : Hp} {s : Shared} {xe : Value → Shared → Prop} {a : Addr}
end
section
variable {X : Cx} {x : Str} {np hpos pos : Pos} {body : List Stmt} {b₀ : Stmt} {suite : List Stmt} {Dc : Addr} {tb : (St → XK) → TS} {ts : TS}
end
end L2

set_option Elab.async false
set_option linter.all false
set_option maxRecDepth 100000
namespace L2
open PySem PySem.Spec PyProof.Rows

/-! ### calls within a try's suite -/
section
variable {X : Cx} {k j : Nat} {f C : Addr} {fd : FuncData} {ps : List Str} {sp : Sp} {Eb : St → XK} {x m : Str} {p pos apos : Pos} {e o : Expr} {es : List Expr} {ta : TE} {t : TA}
end
end L2

set_option Elab.async false
set_option linter.all false
set_option maxRecDepth 100000
namespace L2
open PySem PySem.Spec PyProof.Rows

/-! ### for k, x in enumerate(xs) -/
def Ite (K : PySem.W.Frag) (l : Addr) : It :=
  ⟨fun i H => ∃ xs x, SqL K H l xs ∧ xs[i]? = some x, fun i H v H' => ∃ T x, H T = none ∧ v = .ref T ∧ H' = upd H T (.tup [.int i, x]) ∧ ∀ xs, SqL K H l xs → xs[i]? = some x, fun i H => ∃ xs, SqL K H l xs ∧ xs.length ≤ i⟩
theorem turn_enum {P : Program} {w : World} {K : PySem.W.Frag} {elts : List Expr} {k : Nat} {tpos : Pos} (l e it : Addr) (hne : e ≠ it) :
    Turn P w K (.Tuple elts k tpos) (Ite K l) [e, it] e (fun i h => (∃ old, IsEnum h e it i old) ∧ h.IsListIter it l i) where
  mem := by simp
  obj := fun i h st b hb => by
    obtain ⟨⟨old, he⟩, o, ho, hc, hd⟩ := st
    rcases List.mem_cons.mp hb with rfl | hb
    · exact ⟨_, he, fun v z => by cases z⟩
    · rw [List.mem_singleton.mp hb]
      exact ⟨o, ho, fun v z => by rw [hd] at z; cases z⟩
  keep := fun i h h' st kk => by
    obtain ⟨⟨old, he⟩, hi⟩ := st
    exact ⟨⟨old, kk e (by simp) _ he⟩, hi.at fun o q => kk it (by simp) o q⟩
  item := by
    intro X hP hw hK hc i pins s σ H E I hf st hg
    subst hP hw hK
    obtain ⟨⟨old, he⟩, hi⟩ := st
    obtain ⟨xs, x, hq, hx⟩ := hg
    obtain ⟨its, rv, p, hz⟩ := I.list hq
    obtain ⟨u, hu, ru⟩ := rv.get hx
    have hfe := hf e (by simp)
    have hfi := hf it (by simp)
    refine wpAny_pyNext_enum_item he hi p.isList (x := u) (by simpa using hu) hne fun h1 heo hi1 hT hsz hk => ⟨_, rfl, ?_⟩
    refine wpAny_letOwnedTupleGo_enum heo fun h2 he2 hs2 => ?_
    have hTn : H s.heap.objs.size = none := I.fresh
    have hTe : s.heap.objs.size ≠ e := Nat.ne_of_gt (Heap.lt_size he)
    have keep : ∀ b o, b ≠ e → b ≠ it → s.heap.get? b = some o → h2.get? b = some o := fun b o h1' h2' q => (hs2.2 b h1').trans (hk b o h1' h2' q)
    have new : ∀ b o, s.heap.get? b = some o → b ≠ s.heap.objs.size := fun b o q => Nat.ne_of_lt (Heap.lt_size q)
    have trk : ∀ b o, H b = some o → b ≠ e ∧ b ≠ it := fun b o q => ⟨(fun z => by rw [z, hfe.1] at q; cases q), (fun z => by rw [z, hfi.1] at q; cases q)⟩
    have hT2 : h2.get? s.heap.objs.size = some { cls := .type "tuple", data := .seq #[.int i s.toks, u] } := (hs2.2 _ hTe).trans hT
    have ok2 : HOk X.prog X.w (upd H s.heap.objs.size (.tup [.int i, x])) h2 := fun b v q => by
      by_cases hb : b = s.heap.objs.size
      · subst hb
        rw [upd_same] at q; cases q
        exact ⟨by show 2 ≤ sizeLine; decide, [.int i s.toks, u], .cons ⟨_, rfl⟩ (.cons ru .nil), _, hT2, rfl, 0, rfl⟩
      · rw [upd_ne hb] at q
        refine (I.hok b v q).stay (fun c y hc' r => ?_) (fun c r => by rw [upd_ne (ne_of_none r hTn)]; exact r) fun c ys r => by rw [upd_ne (ne_of_none r hTn)]; exact r
        have : ∃ o, H c = some o := by
          rcases hc' with rfl | hc'
          · exact ⟨_, q⟩
          · exact ⟨_, hc'⟩
        obtain ⟨o, ho⟩ := this
        exact keep c y (trk c o ho).1 (trk c o ho).2 r
    have I2 : Inv X pins σ (upd H s.heap.objs.size (.tup [.int i, x])) { s with heap := h2, toks := s.toks + 1 } := by
      refine I.call (g' := s.gens) (d' := s.drawn) (t' := s.toks + 1) (ch := [e, it]) ⟨fun b o q n hb hx => ?_, fun b o q n hb hx => ?_, fun b o q n hx => ?_, fun b o q hx => ?_, fun b ys q => ?_, fun b o ys q => ?_, fun b ys q => ?_⟩ ok2 I.bare (fun b hb => ?_)
      · exact keep b o (fun z => hx (by simp [z])) (fun z => hx (by simp [z])) q
      · exact ⟨o.slots, keep b o (fun z => hx (by simp [z])) (fun z => hx (by simp [z])) q⟩
      · rw [upd_ne (new b o q)]; exact n
      · exact ⟨o, keep b o (fun z => hx (by simp [z])) (fun z => hx (by simp [z])) q⟩
      · rw [upd_ne (ne_of_none q hTn)]; exact q
      · rw [upd_ne (ne_of_none q hTn)]; exact q
      · exact ⟨#[], by rw [upd_ne (ne_of_none q hTn), q]; simp⟩
      · obtain ⟨f0, f1, f2, f3, f4, f5⟩ := hf b hb
        exact ⟨f3, f1, f4, f5⟩
    refine ⟨.ref s.heap.objs.size, _, I2, rfl, ⟨_, x, hTn, rfl, rfl, fun ys hy => by rw [I.list_inj hy hq]; exact hx⟩, ⟨⟨_, by simpa using he2⟩, ?_⟩, fun b hb => ?_⟩
    · obtain ⟨o, ho, hr⟩ := hi1
      exact ⟨o, (hs2.2 it (Ne.symm hne)).trans ho, hr⟩
    · rw [upd_ne (fun z => ?_)]
      · exact (hf b hb).1
      · rcases List.mem_cons.mp hb with rfl | hb
        · exact hTe z.symm
        · rw [List.mem_singleton.mp hb] at z
          obtain ⟨o, ho, _⟩ := hi
          exact new it o ho z
  done := by
    intro X hP hw hK hc i pins s σ H E I hf st hg
    subst hP hw hK
    obtain ⟨⟨old, he⟩, hi⟩ := st
    obtain ⟨xs, hq, hx⟩ := hg
    obtain ⟨its, rv, p, hz⟩ := I.list hq
    obtain ⟨f0, f1, f2, f3, f4, f5⟩ := hf it (by simp)
    have hl := rv.length
    exact wpAny_pyNext_enum_end (I.ok.hd hc) he hi p.isList (by simp; omega) fun h' eb => ⟨rfl, I.turned (t' := s.toks) (fun b o hb q => eb b o hb q) f0 f1 f3 f4 f5⟩
  self := fun _ _ _ _ _ st h => by
    obtain ⟨⟨old, he⟩, _⟩ := st
    exact wpAny_pyIter_enum he h
def iEnum (K : PySem.W.Frag) (tl : TE) : TI := fun σ H R => tl σ H fun x H1 => ∃ a, x = .ref a ∧ (∃ xs, SqL K H1 a xs) ∧ R (Ite K a) H1
theorem pi_enumC {X : Cx} {K0 : PySem.W.Frag} {elts : List Expr} {k : Nat} {tpos p pos : Pos} {l : Expr} {tl : TE} (hK : X.K = K0) (hm : X.mg "enumerate" = none) (hl : PE X l tl) (hg : Gl X "enumerate" := by rfl) (hs : notStar l = true := by rfl) :
    PI X (.Tuple elts k tpos) (.Call (.Name "enumerate" p) [l] [] pos) (iEnum K0 tl) := by
  subst hK
  intro pins s σ H R I h
  refine wpAny_Call_Name_kw (ld_blt I hg hm boot_enumerate ?_)
  have h' : (tCons tl tNil) σ H (fun vs H1 => match vs with | [x] => (∃ a, x = .ref a ∧ (∃ xs, SqL X.K H1 a xs) ∧ R (Ite X.K a) H1) | _ => False) := h
  refine PyProof.Rows.callWith_type1 (thn ((pa_c hl pa_nil hs) pos pins s σ H _ I h') fun us s1 ⟨vs, H1, I1, r1, q1⟩ => ?_) (star_cons hs) (star_none rfl)
  match vs, q1, r1 with
  | [x], q1, r1 =>
  obtain ⟨a, rfl, ⟨xs, hq⟩, q⟩ := q1
  obtain ⟨u, rfl, ru⟩ := r1.one
  cases ru
  obtain ⟨its, rv, pl, hz⟩ := I1.list hq
  refine call_enumerate_list pl.isList fun h2 he hi hsz hk => ?_
  refine wpAny_pyIter_enum he ?_
  have I2 : Inv X pins σ H1 { s1 with heap := h2 } := I1.kept (t' := s1.toks) hk
  have hne : s1.heap.objs.size + 1 ≠ s1.heap.objs.size := Nat.succ_ne_self _
  refine ⟨_, _, _, _, H1, rfl, I2, turn_enum a (s1.heap.objs.size + 1) s1.heap.objs.size hne, ⟨⟨_, he⟩, hi⟩, fun b hb => ?_, q⟩
  have hb2 : s1.heap.objs.size ≤ b := by
    rcases List.mem_cons.mp hb with rfl | hb
    · exact Nat.le_succ _
    · rw [List.mem_singleton.mp hb]; exact Nat.le_refl _
  have f := I1.fpOk hb2 (I1.hok.fresh hb2)
  exact f
theorem pi_enum {X : Cx} {elts : List Expr} {k : Nat} {tpos p pos : Pos} {l : Expr} {tl : TE} (hm : X.mg "enumerate" = none) (hl : PE X l tl) (hg : Gl X "enumerate" := by rfl) (hs : notStar l = true := by rfl) :
    PI X (.Tuple elts k tpos) (.Call (.Name "enumerate" p) [l] [] pos) (iEnum X.K tl) := pi_enumC rfl hm hl hg hs
theorem for_enum {K : PySem.W.Frag} {l : Addr} {xs : List V} {g : TG} {tb : TS} {D : Ends} {σ : St} {H : Hp} (Pv : Nat → St → Hp → Prop) (h0 : Pv 0 σ H) (hl : ∀ i σ H, i ≤ xs.length → Pv i σ H → SqL K H l xs)
    (hs : ∀ i x σ H T, xs[i]? = some x → Pv i σ H → H T = none → g (.ref T) σ (upd H T (.tup [.int i, x])) fun σ2 H2 => tb { D with nx := Pv (i + 1), ct := Pv (i + 1), bk := D.nx } σ2 H2) (hd : ∀ σ H, Pv xs.length σ H → D.nx σ H) :
    ∃ W : Nat → Nat → St → Hp → Prop, (∃ m, W 0 m σ H) ∧ ∀ i m σ H, W i m σ H →
      ((Ite K l).stop i H ∧ D.nx σ H) ∨ ((Ite K l).go i H ∧ ∃ N : St → Hp → Prop, (∀ σ' H', N σ' H' → ∃ m', m' < m ∧ W (i + 1) m' σ' H') ∧ ∀ x H', (Ite K l).yld i H x H' → g x σ H' fun σ2 H2 => tb { D with nx := N, ct := N, bk := D.nx } σ2 H2) := by
  refine ⟨fun i m σ H => m = xs.length - i ∧ i ≤ xs.length ∧ Pv i σ H, ⟨xs.length, by simp, Nat.zero_le _, h0⟩, ?_⟩
  rintro i m σ H ⟨rfl, hi, p⟩
  have q := hl i σ H hi p
  by_cases hlt : i < xs.length
  · refine .inr ⟨⟨xs, xs[i], q, by simp [hlt]⟩, Pv (i + 1), fun σ' H' p' => ⟨xs.length - (i + 1), by omega, rfl, hlt, p'⟩, fun x H' y => ?_⟩
    obtain ⟨T, x', hT, rfl, rfl, hx⟩ := y
    exact hs i x' σ H T (hx xs q) p hT
  · have e : i = xs.length := by omega
    subst e
    exact .inl ⟨⟨xs, q, Nat.le_refl _⟩, hd σ H p⟩
end L2

set_option Elab.async false
set_option linter.all false
set_option maxRecDepth 100000
namespace L2
open PySem PySem.Spec PyProof.Rows
open PySem.AutoSeq1 (wpAny_loadPart')
open PySem.MeetsSeq

/-! ### in, not in, != of data -/
section
variable {X : Cx}
/-! ### xs.insert(i, y), xs.remove(y), a ** n -/
end
end L2

set_option Elab.async false
set_option linter.all false
set_option maxRecDepth 100000
namespace L2
open PySem PySem.Spec PyProof.Rows
section
variable {X : Cx} {pos : Pos}
theorem pg_tupC {K0 : PySem.W.Frag} {es : List Expr} {k : Nat} {t : TGs} {n : Nat} (hK : X.K = K0) (hc : X.calm = true) (h : PGs X es t)
    (hn : (assignEach es X.env).length = n := by rfl) (hst : (assignEach es X.env).findIdx? (·.1) = none := by rfl) : PG X (.Tuple es k pos) (gTup K0 n t) := by
  subst hK
  exact pg_tup hc h hn hst
end

/-! ### the law's head, with the size of the script's ints -/
theorem weight_all {ns : List Int} : ∀ v ∈ ns, (PySem.W.WData.weight (.int v)) ≤ PySem.W.WData.weightAll (ns.map .int) := by
  intro v hv
  induction ns with
  | nil => cases hv
  | cons n r ih =>
    have e : PySem.W.WData.weightAll ((n :: r).map PySem.W.WData.int) = PySem.W.WData.weight (.int n) + 1 + PySem.W.WData.weightAll (r.map .int) := by
      rw [List.map_cons, PySem.W.WData.weightAll]
    rw [e]
    rcases List.mem_cons.mp hv with rfl | hv
    · omega
    · have := ih hv
      omega
end L2

set_option Elab.async false
set_option linter.all false
set_option maxRecDepth 100000
namespace Att
open PySem PySem.W PySem.Calls PyProof.Rows L2
theorem small_of {ns : List Int} (h : WData.layableAll [WData.list (ns.map WData.int)] = true) : ∀ v ∈ ns, Builtin.Int.intBits v ≤ 1048576 := by
  intro v hv
  unfold WData.layableAll at h
  rw [List.all_cons, Bool.and_eq_true] at h
  have h1 := h.1
  unfold WData.layable at h1
  rw [Bool.and_eq_true] at h1
  have h2 := of_decide_eq_true h1.2
  have e : WData.weight (WData.list (ns.map WData.int)) = WData.weightAll (ns.map WData.int) := by rw [WData.weight]
  rw [e] at h2
  have h3 := weight_all v hv
  have e2 : WData.weight (.int v) = Builtin.Int.intBits v := by
    rw [WData.weight]
    rfl
  rw [e2] at h3
  have : (2 : Nat) ^ 20 = 1048576 := by decide
  omega
theorem attach_callW {l : OpenLaw} {n : Nat} {q : Program} {loose : List Str} {XP : (Str → Option Value) → Heap → Prop} {YP : World → Heap → Prop} {d : DefRec}
    (hn : l.most = some n) (hdf : d.params.defaults = [])
    (call : ∀ (w : World) (s₀ s₁ : Shared) (mg mb : Str → Option Value) (fa : Addr) (o : Obj) (pm cd doc : Value) (a : Addr) (vs : List Value) (ns : List Int),
      Ground q loose [] XP w s₀ mg mb s₁.heap → YP w s₁.heap →
      s₁.heap.get? fa = some o → o.data = .func (docDef d.name d.params d.body d.scope pm cd doc) → s₁.heap.CodeRec cd d.name → mg d.name = some (.ref fa) →
      s₁.heap.get? a = some { cls := .type "list", data := .seq vs.toArray } → IntsAre vs ns → ns.length ≤ n → (∀ v ∈ ns, Builtin.Int.intBits v ≤ 1048576) → s₁.gens = #[] →
      codeAny (model l.prog w) callerA (.call (.ref fa) ⟨[.ref a], []⟩) (fun r s' => r = .ok (.ret (.bool true)) ∧ OldK s₁.heap s'.heap ∧ s'.os = s₁.os ∧ AllBare s'.gens) s₁) :
    WalkO q loose XP YP l.row.toRowW d [] (fun f vs => PySem.call f vs) := by
  intro w s₀ s₁ mg mb G Y fa o pm cd doc dV kV ho hd hcd hD hmg hg args vals as hpre hlay hrd hwl hlo
  obtain rfl : dV = .none := Dflts.none hD hdf
  obtain rfl : kV = .none := Dflts.noKw hD
  obtain ⟨a, vs, ns, rfl, rfl, hobj, hints, hlen⟩ := script_of hn hpre hwl
  refine enter_call (codeAny_mono (call w s₀ s₁ mg mb fa o pm cd doc a vs ns G Y ho (fd_plain hd) hcd hmg hobj hints hlen (small_of hlay) hg) fun r s' hq => ?_)
  obtain ⟨rfl, h2, h3, h4⟩ := hq
  exact ⟨.inl ⟨.bool true, .bool true, [], rfl, fun _ => rfl, .bool true, post_true l _, fun _ => ⟨List.Pairwise.nil, fun _ hm => (nomatch hm)⟩⟩, h2, h3, h4⟩
end Att
namespace L2
open PySem PySem.Spec PyProof.Rows
theorem walk_ofW {l : PySem.W.OpenLaw} {n k : Nat} {q : Program} {loose : List Str} {XP : (Str → Option Value) → Heap → Prop} {YP : World → Heap → Prop} {d : DefRec} {K : Params → PySem.W.Frag} {CX : World → CXT} {sp : World → Sp} {x : Str}
    (hn : l.most = some n) (hn2 : n ≤ sizeLine) (hdf : d.params.defaults = []) (hr : Room k callerA)
    (hY : ∀ (w : World) (h : Heap), YP w h → (K w.params).In h)
    (F : ∀ (w : World) (mg : Str → Option Value) (fa : Addr) (h : Heap), (K w.params).In h → h.Ns mainGlobals mg → mg d.name = some (.ref fa) →
      ∃ fd : FuncData, (∀ (s : Shared) (u : Value), BindsTo s fd ⟨[u], []⟩ [(x, u)]) ∧
        ∀ base : Heap, (K w.params).In base → base.Ns mainGlobals mg → FnOk l.prog w (K w.params) mg base (CX w) k fa fd [x] (sp w))
    (hsp : ∀ (w : World) (H : Hp) (a : Addr) (ns : List Int), ns.length ≤ n → (∀ v ∈ ns, Builtin.Int.intBits v ≤ 1048576) → Only H → SqL (K w.params) H a (ns.map V.int) → sp w [.ref a] H (fun v _ => v = .bl true) fun _ _ _ => False)
    (hCX : ∀ (w : World) (H : Hp) (s : Shared) (e : Value) (s' : Shared), CX w [] H s (fun _ _ _ => False) e s' → False) :
    PySem.W.WalkO q loose XP YP l.row.toRowW d [] (fun f vs => PySem.call f vs) := by
  refine Att.attach_callW hn hdf fun w s₀ s₁ mg mb fa o pm cd doc a vs ns G Y ho hd hcd hmg hobj hints hlen hsm hg => ?_
  have KX := hY w _ Y
  obtain ⟨fd, hb, hF⟩ := F w mg fa _ KX G.T.g hmg
  exact law_call KX G.T.g G.T.b G.T.builtins G.T.nolimit hg hobj hints (Nat.le_trans hlen hn2) hr hF hb (fun H hO hS => hsp w H a ns hlen hsm hO hS) fun H e s' => hCX w H s₁ e s'
end L2

set_option Elab.async false
set_option linter.all false
set_option maxRecDepth 100000
namespace L2
open PySem PySem.Spec PyProof.Rows
/-- a class of the text whose __init__ has a contract -/
def KnowsI (CX : CXT) (P : Program) (w : World) (K : PySem.W.Frag) (mg : Str → Option Value) (base : Heap) (k : Nat) (C : Addr) (ps : List Str) (sp : Sp) : Prop :=
  ∃ f fd, Mk K C f ∧ Binds K fd ps [] ∧ FnOk P w K mg base CX k f fd ps sp
section
variable {X : Cx} {CX : CXT} {x : Str} {ps : List Str} {sp : Sp} {j k : Nat} {e : Expr} {es : List Expr} {t : TA} {p pos : Pos} {E : XK} {C : Addr}
theorem pe_makeM (F : KnowsI CX X.prog X.w X.K X.mg X.base j C ps sp) (hr : Room k X.A) (hm : X.mg x = some (.ref C)) (hx : Passes CX X E) (ha : PA X (e :: es) t) (hjk : j + 1 ≤ k := by decide) (hg : Gl X x := by rfl)
    (hdb : (x == ("__debug__" : Str)) = false := by decide) (he : notStar e = true := by rfl) (hpl : es.all notStar = true := by rfl) : PE X (.Call (.Name x p) (e :: es) [] pos) (tMake C sp [] E t) := by
  obtain ⟨f, fd, M, hb, F⟩ := F
  exact pe_make M F (hr.mono hjk) hg hm hb .nil hx ha hdb (star_cons he) (star_none hpl)
end
end L2

set_option Elab.async false
set_option linter.all false
set_option maxRecDepth 100000
namespace L2
open PySem PySem.Spec PyProof.Rows
theorem def_mk {K : PySem.W.Frag} {h : Heap} {mg : Str → Option Value} (X : K.In h) (G : h.Ns mainGlobals mg) {x : Str} {st : Stmt} {ps : List Str} {f : Addr} {oc : Value} {od an : Option Addr} {osl : Array (Option Value)} {kV doc pm cdv ct : Value}
    (a : PySem.W.nsIn K mainGlobals x = some (some (.ref f))) (l : K.lookup f = some ⟨oc, od, .func (PySem.W.fnOf x x (defArgs st) (defBody st) (defScope st) .none kV doc pm an cdv ct), osl⟩) (c : PySem.W.codeIn K cdv x = true) (k : PySem.W.keepIn K (.ref f) = true)
    (b : ∀ (kV doc pm : Value) (an : Option Addr) (cdv ct : Value) (us : List Value), us.length = ps.length → bindArgs (PySem.W.fnOf x x (defArgs st) (defBody st) (defScope st) .none kV doc pm an cdv ct) ⟨us, []⟩ = pure (ps.zip us)) : Def K mg x st ps :=
  ⟨⟨_, _, fun_mk l c k, PySem.W.mg_of X G a, (fun_mk l c k).binds b⟩⟩
/-- a method's def -/
structure MDef (K : PySem.W.Frag) (C : Addr) (m qual : Str) (st : Stmt) (ps : List Str) : Prop where
  ex : ∃ f fd, Meth K C m f ∧ Fun K m qual st f fd ∧ Binds K fd ps []
/-- the def of __init__ of a class that is called -/
structure IDef (K : PySem.W.Frag) (C : Addr) (qual : Str) (st : Stmt) (ps : List Str) : Prop where
  ex : ∃ f fd, Mk K C f ∧ Fun K "__init__" qual st f fd ∧ Binds K fd ps []
theorem meth_mk {K : PySem.W.Frag} {C : Addr} {m qual : Str} {st : Stmt} {ps : List Str} {f : Addr} {oc : Value} {od an : Option Addr} {osl : Array (Option Value)} {kV doc pm cdv ct : Value}
    (a : PySem.W.findIn K (.ref C) m = some (some (.ref f))) (n : PySem.W.isFn K (.ref f) = true) (l : K.lookup f = some ⟨oc, od, .func (PySem.W.fnOf m qual (defArgs st) (defBody st) (defScope st) .none kV doc pm an cdv ct), osl⟩) (c : PySem.W.codeIn K cdv qual = true) (k : PySem.W.keepIn K (.ref f) = true)
    (b : ∀ (kV doc pm : Value) (an : Option Addr) (cdv ct : Value) (us : List Value), us.length = ps.length → bindArgs (PySem.W.fnOf m qual (defArgs st) (defBody st) (defScope st) .none kV doc pm an cdv ct) ⟨us, []⟩ = pure (ps.zip us)) : MDef K C m qual st ps :=
  ⟨⟨f, _, ⟨a, n, k⟩, fun_mk l c k, (fun_mk l c k).binds b⟩⟩
theorem init_mk {K : PySem.W.Frag} {C : Addr} {qual : Str} {st : Stmt} {ps : List Str} {f : Addr} {oc : Value} {od an : Option Addr} {osl : Array (Option Value)} {kV doc pm cdv ct : Value}
    (a : PySem.W.findIn K (.ref C) "__init__" = some (some (.ref f))) (n : PySem.W.isFn K (.ref f) = true) (l : K.lookup f = some ⟨oc, od, .func (PySem.W.fnOf "__init__" qual (defArgs st) (defBody st) (defScope st) .none kV doc pm an cdv ct), osl⟩) (c : PySem.W.codeIn K cdv qual = true) (k : PySem.W.keepIn K (.ref f) = true)
    (mk : PySem.W.makesIn K C = true) (kC : PySem.W.keepIn K (.ref C) = true)
    (b : ∀ (kV doc pm : Value) (an : Option Addr) (cdv ct : Value) (us : List Value), us.length = ps.length → bindArgs (PySem.W.fnOf "__init__" qual (defArgs st) (defBody st) (defScope st) .none kV doc pm an cdv ct) ⟨us, []⟩ = pure (ps.zip us)) : IDef K C qual st ps :=
  ⟨⟨f, _, ⟨mk, a, n, kC⟩, fun_mk l c k, (fun_mk l c k).binds b⟩⟩
section
variable {P : Program} {w : World} {K : PySem.W.Frag} {mg : Str → Option Value} {base : Heap} {C : Addr}
theorem MDef.knows {CX : CXT} {m qual : Str} {st : Stmt} {ps : List Str} {k : Nat} {sp : Sp} (D : MDef K C m qual st ps) (h : ∀ f fd, Fun K m qual st f fd → FnOk P w K mg base CX k f fd ps sp) : KnowsM CX P w K mg base k C m ps sp := by
  obtain ⟨f, fd, hm, F, hb⟩ := D.ex
  exact ⟨f, fd, hm, hb, h f fd F⟩
theorem IDef.knows {CX : CXT} {qual : Str} {st : Stmt} {ps : List Str} {k : Nat} {sp : Sp} (D : IDef K C qual st ps) (h : ∀ f fd, Fun K "__init__" qual st f fd → FnOk P w K mg base CX k f fd ps sp) : KnowsI CX P w K mg base k C ps sp := by
  obtain ⟨f, fd, hm, F, hb⟩ := D.ex
  exact ⟨f, fd, hm, hb, h f fd F⟩
end
end L2

set_option Elab.async false
set_option linter.all false
set_option maxRecDepth 100000
namespace L2
open PySem PySem.Spec PyProof.Rows
section
variable {X : Cx}
end
end L2

set_option Elab.async false
set_option linter.all false
set_option maxRecDepth 100000
namespace L2
open PySem PySem.Spec PyProof.Rows
set_option maxHeartbeats 1000000 in
/-- what is known of the block's own dict at its end -/
structure CEnd (X : Cx) (pins : List (Addr × Obj)) (H : Hp) (C : Addr) : Prop where
  no : H C = none
  ne : C ≠ X.env.locals
  new : X.s₀.heap.objs.size ≤ C
  cl : ∀ x c, X.env.cells.lookup x = some c → c ≠ C
  pn : ∀ p ∈ X.pn ++ pins, p.1 ≠ C
set_option maxHeartbeats 1000000 in
theorem comp_gen {X : Cx} {elt iter tg : Expr} {pos ppos : Pos} {ifs : List Expr} {scope : Scope} {wi : TI} {g : TG} {tc : TT} {te : TE} {use : Option (Value → Sem Unit)} {Qf : Value → Shared → Prop} (own : List Str) (js : List Nat) (N' : List Str) (hc : X.calm = true)
    (hi : PI X tg iter wi)
    (hg : ∀ C s₀ H₀ ex, PG (cxComp X scope N' C s₀ H₀ ex) tg g)
    (ht : ∀ C s₀ H₀ ex, PTs (cxComp X scope N' C s₀ H₀ ex) ifs tc)
    (he : ∀ C s₀ H₀ ex, PE (cxComp X scope N' C s₀ H₀ ex) elt te)
    (hN' : N' = own ++ js.map fun j => X.N.getD j Str.empty)
    (hk : scope.kind = .function)
    (hcell : ∀ y ∈ scope.names, y.2 ≠ .cell)
    (hnames : ∀ y ∈ scope.names, y.2 = .local → scope.names.lookup y.1 = some .local)
    (hfr : (scope.names.all fun y => y.2 != .free || X.env.scope.names.lookup y.1 == some .cell) = true)
    (hjs : (js.all fun j => scope.names.lookup (X.N.getD j Str.empty) == some .free && (X.N[j]?).isSome) = true)
    (hs : ∀ z, foldedSetIterable iter X.env z = pure z)
    {pins : List (Addr × Obj)} {s : Shared} {σ : St} {H : Hp} {Q : VK} (I : Inv X pins σ H s) (h : tComp own.length js wi g tc te σ H Q)
    (fin : ∀ (D C : Addr) (H' : Hp) (s4 : Shared) (m : Str → Option Value), Inv X pins σ H' s4 → Q (.ref D) H' → s4.heap.Ns C m → CEnd X pins H' C → compPost (model X.prog X.w) X.A X.xe use Qf (.ref D) C (.ok .next) s4) :
    wpAny (model X.prog X.w) X.A (comprehension (.ListComp elt [⟨tg, iter, ifs, 0⟩] scope pos) scope X.env ppos (newList []) false (eval iter X.env) use) Qf X.xe s := by
  have free_cell : ∀ y ∈ scope.names, y.2 = .free → X.env.kindOf y.1 = some .cell := fun y hy hf => by
    have := List.all_eq_true.mp hfr y hy
    rw [hf] at this
    simp at this
    exact this
  have hcl : ∀ y ∈ scope.names, y.2 = .free → ∃ c, X.env.cells.lookup y.1 = some c := fun y hy hf => I.ok.has y.1 (.inl (free_cell y hy hf))
  refine wpAny_comprehension_free (use := use) rfl hs (closureFor_eq hcl) hk hnames ?_
  refine thn (hi pins s σ H _ I h) fun v s1 h1 => thn h1 fun itv s2 h2 => ?_
  obtain ⟨it, fp, tn, J, H2, e, I2, T, st2, f2, W, ⟨m0, w0⟩, turn⟩ := h2
  subst e
  refine wpAny_newObj_type (wpAny_newFunctionEnv hcell (by intro y hy; simp at hy) (fun h₁ hns₁ hsb₁ => ?_) hk)
  dsimp only at hns₁ hsb₁ ⊢
  generalize hG : s2.heap.push { cls := .type "list", dict := none, data := .seq ([] : List Value).toArray } = G at hns₁ hsb₁ ⊢
  have hC : G.objs.size = s2.heap.objs.size + 1 := by rw [← hG, Heap.size_push]
  have hDC : s2.heap.objs.size ≠ G.objs.size := by rw [hC]; exact Nat.ne_of_lt (Nat.lt_succ_self _)
  have below : ∀ b, b < s2.heap.objs.size → b ≠ G.objs.size ∧ b ≠ s2.heap.objs.size := fun b hb => ⟨by rw [hC]; exact Nat.ne_of_lt (Nat.lt_succ_of_lt hb), Nat.ne_of_lt hb⟩
  have old : ∀ b o, s2.heap.get? b = some o → h₁.get? b = some o := fun b o e => hsb₁.extBut b o (below b (Heap.lt_size e)).1 (Heap.get?_push_of_some _ (hG ▸ Heap.get?_push_of_some _ e))
  have hacc : h₁.get? s2.heap.objs.size = some { cls := .type "list", data := .seq ([] : List Value).toArray 0 } := hsb₁.extBut _ _ hDC (Heap.get?_push_of_some _ (hG ▸ Heap.get?_push_size _ rfl))
  have fplt : ∀ b ∈ fp, b < s2.heap.objs.size := fun b hb => let ⟨_, e, _⟩ := T.obj _ _ st2 b hb; Heap.lt_size e
  have ok' : (cxComp X scope N' G.objs.size s2 H2 fp).Ok := by
    refine ⟨I2.ok.mod, hk, I2.ok.glob, I2.ok.blt, by show s2.heap.objs.size ≤ G.objs.size; rw [hC]; exact Nat.le_succ _, fun x y c e1 e2 => I2.ok.inj x y c (lookup_closOf hcl e1) (lookup_closOf hcl e2), fun x hx => ?_,
      fun x c hx _ => (nomatch hx), I2.ok.hd, I2.ok.frames, .inl rfl, fun b hb => ⟨(below b (fplt b hb)).1, fun x c e => (f2 b hb).2.2.2.2.1 x c (lookup_closOf hcl e)⟩, I2.bs, Nat.le_trans I2.ok.bsz I2.sz, fun b o e hb => ?_, fun b hb z => ?_, I2.stack, I2.stkFree⟩
    · have hx' : (relabel scope X.env).names.lookup x = some .cell ∨ (relabel scope X.env).names.lookup x = some .free := hx
      have : (x, NameKind.free) ∈ scope.names ∨ (x, NameKind.cell) ∈ scope.names := by
        rcases hx' with z | z
        · exact relabel_back z (.inl rfl)
        · exact relabel_back z (.inr rfl)
      rcases this with z | z
      · exact has_closOf z
      · exact absurd rfl (hcell _ z)
    · rcases (f2 b hb).2.2.2.1 with z | z
      · exact I2.ok.noex b o e z
      · have h1 : b < X.base.objs.size := Heap.lt_size e
        exact absurd (Nat.lt_of_lt_of_le h1 (Nat.le_trans I2.ok.bsz z)) (Nat.lt_irrefl _)
    · rcases List.mem_cons.mp (I2.stkSub b z) with e | e
      · exact (f2 b hb).2.1 e
      · exact (f2 b hb).2.2.1 e
  have kindCap : ∀ i y, (js.map fun j => X.N.getD j Str.empty)[i]? = some y → ∃ j, js[i]? = some j ∧ X.N[j]? = some y ∧ scope.names.lookup y = some .free := fun i y e => by
    rw [List.getElem?_map] at e
    cases q : js[i]? with
    | none => rw [q] at e; cases e
    | some j =>
      rw [q] at e
      have e' : X.N.getD j Str.empty = y := Option.some.inj e
      have hj := List.all_eq_true.mp hjs j (List.mem_of_getElem? q)
      rw [Bool.and_eq_true] at hj
      obtain ⟨hj1, hj2⟩ := hj
      rw [e'] at hj1
      obtain ⟨z, hz⟩ := Option.isSome_iff_exists.mp hj2
      rw [List.getD_eq_getElem?_getD, hz] at e'
      exact ⟨j, q, by rw [hz]; exact congrArg some e', by simpa using hj1⟩
  have I0 : ∀ tk : Nat, Inv (cxComp X scope N' G.objs.size s2 H2 fp) [(s2.heap.objs.size, { cls := .type "list", data := .seq ([] : List Value).toArray 0 })] (List.replicate own.length none ++ caps σ js) H2 { s2 with heap := h₁, toks := tk } := fun tk => by
    refine ⟨ok', rfl, I2.bare, Un.kept old, ⟨_, hns₁, fun i y v e1 e2 e3 => ?_⟩, fun x c e => ?_, I2.hok.fresh (by show s2.heap.objs.size ≤ G.objs.size; rw [hC]; exact Nat.le_succ _), fun x c e => I2.freeC x c (lookup_closOf hcl e), fun p hp => ?_, I2.hok.kept old, ?_⟩
    · by_cases hlt : i < own.length
      · rw [List.getElem?_append_left (by simpa using hlt), List.getElem?_replicate] at e2
        split at e2 <;> cases e2
      · have e1' : N'[i]? = some y := e1
        rw [hN', List.getElem?_append_right (by omega)] at e1'
        rw [List.getElem?_append_right (by simpa using hlt), List.length_replicate] at e2
        obtain ⟨j, hj, hs2⟩ := caps_get e2
        obtain ⟨j', hj', hN, hfree⟩ := kindCap _ _ e1'
        rw [hj] at hj'; cases hj'
        obtain ⟨m, hm, hl⟩ := I2.loc
        have hcell' : X.env.kindOf y = some .cell := free_cell (y, .free) (PySem.mem_of_lookup hfree) rfl
        obtain ⟨u, r, l⟩ := hl j y v hN hs2 (.inr (.inl hcell'))
        refine ⟨u, r, ?_⟩
        rcases l with ⟨hk', _⟩ | ⟨hk', c, hc', z⟩
        · rw [hcell'] at hk'; cases hk'
        · obtain ⟨c', e'⟩ := has_closOf (env := X.env) (PySem.mem_of_lookup hfree)
          have := lookup_closOf hcl e'
          rw [hc'] at this; cases this
          refine .inr ⟨.inl (lookup_relabel_free I2.ok.kind hfree hcell'), c, e', ?_⟩
          obtain ⟨o, ho, hd⟩ := z
          exact ⟨o, old _ _ ho, hd⟩
    · obtain ⟨v, o, ho, hd⟩ := I2.cell x c (lookup_closOf hcl e)
      exact ⟨v, o, old _ _ ho, hd⟩
    · have hp' : p = (s2.heap.objs.size, { cls := .type "list", data := .seq ([] : List Value).toArray 0 }) := by
        rcases List.mem_append.mp hp with z | z
        · exact absurd (show p ∈ ([] : List (Addr × Obj)) from z) (by simp)
        · simpa using z
      subst hp'
      refine ⟨hacc, I2.hok.fresh (Nat.le_refl _), hDC, fun z => ?_, fun v z => by cases z⟩
      exact absurd (show s2.heap.objs.size ∈ frs X.stack from z) fun z => by
        rcases List.mem_cons.mp (I2.stkSub _ z) with e | e
        · have := I2.lt
          rw [← e] at this
          exact Nat.lt_irrefl _ this
        · exact I2.nofs (Nat.le_refl _) e
    · show _ = N'.length
      rw [hN']
      simp [caps]
  have stat : ∀ {H' : Hp} {ob : Obj}, (∀ b ∈ fp, H' b = none) → ∀ b ∈ fp, FpOk (cxComp X scope N' G.objs.size s2 H2 fp) [(s2.heap.objs.size, ob)] H' b := fun {H' ob} hn b hb =>
    ⟨hn b hb, (below b (fplt b hb)).1, fun z => ok'.exfs b hb z, .inl hb, fun x c e => (f2 b hb).2.2.2.2.1 x c (lookup_closOf hcl e), fun p hp => by
      have hp' : p = (s2.heap.objs.size, ob) := by
        rcases List.mem_append.mp hp with z | z
        · exact absurd (show p ∈ ([] : List (Addr × Obj)) from z) (by simp)
        · simpa using z
      subst hp'
      exact Ne.symm (below b (fplt b hb)).2⟩
  have loop : ∀ s₃ : Shared, s₃ = { s2 with heap := h₁, toks := s2.toks + ([] : List (Str × Value)).length } →
      codeAny (model X.prog X.w) X.A (.compLoop (.ListComp elt [⟨tg, iter, ifs, 0⟩] scope pos) 0 (.ref it) (.ref s2.heap.objs.size) (compEnvC scope (closOf scope X.env) G.objs.size X.env))
        (compPost (model X.prog X.w) X.A X.xe use Qf (.ref s2.heap.objs.size) G.objs.size) s₃ := by
    rintro s₃ rfl
    refine comp_loop (fun n s' => ∃ (i : Nat) (os : St) (H' : Hp) (ys : List V) (its : List Value) (k : Nat), os.length = own.length ∧
      Inv (cxComp X scope N' G.objs.size s2 H2 fp) [(s2.heap.objs.size, { cls := .type "list", data := .seq its.toArray k })] (os ++ caps σ js) H' s' ∧ tn i s'.heap ∧ (∀ b ∈ fp, H' b = none) ∧ Vals ys its ∧ W i n ys H') ?_ m0
      ⟨0, _, H2, [], [], 0, by simp, I0 _, T.keep _ _ _ st2 fun b _ o e => old b o e, fun b hb => (f2 b hb).1, .nil, w0⟩
    rintro n s3 ⟨i, os, H3, ys, its, k, hos, I3, st3, fr3, rv3, w3⟩
    have pinD : ∀ {σ' : St} {H' : Hp} {s' : Shared}, Inv (cxComp X scope N' G.objs.size s2 H2 fp) [(s2.heap.objs.size, { cls := .type "list", data := .seq its.toArray k })] σ' H' s' → s'.heap.get? s2.heap.objs.size = some { cls := .type "list", data := .seq its.toArray k } ∧ H' s2.heap.objs.size = none :=
      fun I => let q := I.pin (s2.heap.objs.size, { cls := .type "list", data := .seq its.toArray k }) (List.mem_append_right _ (by simp)); ⟨q.1, q.2.1⟩
    rcases turn i n ys H3 w3 with ⟨stop, hz, qn⟩ | ⟨go, hz, step⟩
    · refine thn (T.done (cxComp X scope N' G.objs.size s2 H2 fp) rfl rfl rfl hc i _ s3 _ H3 _ I3 (stat fr3) st3 stop) fun r s4 ⟨hr, I4⟩ => ?_
      subst hr
      obtain ⟨hD4, hn4⟩ := pinD I4
      obtain ⟨m, hm, _⟩ := I4.loc
      have hsb : Heap.SameBut G.objs.size s4.heap s4.heap := ⟨rfl, fun _ _ => rfl⟩
      have b4 := I4.base
      have nC : ∀ b o, s2.heap.get? b = some o → b ≠ G.objs.size := fun b o e => (below b (Heap.lt_size e)).1
      have nD : ∀ b o, s2.heap.get? b = some o → b ≠ s2.heap.objs.size := fun b o e => (below b (Heap.lt_size e)).2
      have hok' : HOk X.prog X.w H3 s4.heap := fun b ob e => by
        refine (I4.hok b ob e).stay (fun c w' hc' q => (hsb.2 c ?_).trans q) (fun _ q => q) fun _ _ q => q
        rintro rfl
        rcases hc' with hc' | hc'
        · rw [← hc', show H3 G.objs.size = none from I4.free] at e; cases e
        · rw [show H3 G.objs.size = none from I4.free] at hc'; cases hc'
      have hD' : s4.heap.get? s2.heap.objs.size = some { cls := .type "list", data := .seq its.toArray k } := (hsb.2 _ hDC).trans hD4
      have hCn : H3 G.objs.size = none := I4.free
      have hC2 : s2.heap.objs.size ≤ G.objs.size := by rw [hC]; exact Nat.le_succ _
      refine fin s2.heap.objs.size G.objs.size (upd H3 s2.heap.objs.size (.lst ys)) s4 m ?_ (qn _ hn4) hm ⟨by rw [upd_ne (Ne.symm hDC)]; exact hCn, fun z => ?_, Nat.le_trans I2.sz hC2, fun x c e z => ?_, fun p hp z => ?_⟩
      rotate_left
      · have h9 := I2.lt
        rw [← z] at h9
        exact Nat.lt_irrefl _ (Nat.lt_of_lt_of_le h9 hC2)
      · obtain ⟨v, o, ho, _⟩ := I2.cell x c e
        have h9 := Heap.lt_size ho
        rw [z] at h9
        exact Nat.lt_irrefl _ (Nat.lt_of_lt_of_le h9 hC2)
      · have h9 := Heap.lt_size (I2.pin p hp).1
        rw [z] at h9
        exact Nat.lt_irrefl _ (Nat.lt_of_lt_of_le h9 hC2)
      refine I2.call' (ch := fp) I4.os ⟨fun b o e n hb hx => ?_, fun b o e n hb hx => ?_, fun b o e n hx => ?_, fun b o e hx => ?_, fun b xs q => ?_, fun b o u q => ?_, fun b ps q => ?_⟩ (hok'.track hn4 ⟨hz, its, k, rv3, hD'⟩) I4.bare fun b hb => ⟨(f2 b hb).2.2.2.1, (f2 b hb).2.1, (f2 b hb).2.2.2.2.1, (f2 b hb).2.2.2.2.2⟩
      · exact (hsb.2 b (nC b o e)).trans (b4.keep b o e n hb hx)
      · obtain ⟨sl, e1⟩ := b4.slot b o e n hb hx
        exact ⟨sl, (hsb.2 b (nC b o e)).trans e1⟩
      · rw [upd_ne (nD b o e)]; exact b4.free b o e n hx
      · obtain ⟨o', e1⟩ := b4.there b o e hx
        exact ⟨o', (hsb.2 b (nC b o e)).trans e1⟩
      · have z := b4.tups b xs q
        rw [upd_ne (ne_of_none z hn4)]; exact z
      · have z := b4.frzs b o u q
        rw [upd_ne (ne_of_none z hn4)]; exact z
      · obtain ⟨more, z⟩ := b4.tbls b ps q
        exact ⟨more, by rw [upd_ne (ne_of_none z hn4)]; exact z⟩
    · refine thn (T.item (cxComp X scope N' G.objs.size s2 H2 fp) rfl rfl rfl hc i _ s3 _ H3 _ I3 (stat fr3) st3 go) fun r s4 ⟨u, hr, h4⟩ => ?_
      subst hr
      refine thn h4 fun _ s5 ⟨x, H5, I5, r5, y5, st5, fr5⟩ => ?_
      have fpo := T.obj _ _ st5
      have I5' := I5.pinned (stat fr5) fpo
      refine wpAny_mono (hg _ _ _ _ _ s5 _ H5 x u _ I5' r5 (step x H5 y5 os hos)) (fun _ s6 ⟨σ6, H6, I6, ⟨os', hos', e6⟩, q6⟩ => ?_) fun _ _ z => False.elim z
      subst e6
      refine wpAny_mono (ht _ _ _ _ _ s6 _ H6 _ I6 q6) (fun ok s7 ⟨H7, I7, q7⟩ => ?_) fun _ _ z => False.elim z
      have keepFp : ∀ {σ' : St} {H' : Hp} {s' : Shared}, Inv (cxComp X scope N' G.objs.size s2 H2 fp) ([(s2.heap.objs.size, { cls := .type "list", data := .seq its.toArray k })] ++ pinsAt fp s5.heap) σ' H' s' → tn (i + 1) s'.heap ∧ ∀ b ∈ fp, H' b = none := fun I => by
        refine ⟨T.keep _ _ _ st5 fun b hb o e => (I.pin (b, o) (List.mem_append_right _ (List.mem_append_right _ (mem_pinsAt hb e)))).1, fun b hb => ?_⟩
        obtain ⟨o, e, d⟩ := fpo b hb
        exact (I.pin (b, o) (List.mem_append_right _ (List.mem_append_right _ (mem_pinsAt hb e)))).2.1
      cases ok with
      | false =>
        obtain ⟨m', hm', w'⟩ := q7
        obtain ⟨k1, k2⟩ := keepFp I7
        exact ⟨m', hm', i + 1, os', H7, ys, its, k, hos', I7.unpinned, k1, k2, rv3, w'⟩
      | true =>
        rw [if_pos rfl]
        refine wpAny_mono (he _ _ _ _ _ s7 _ H7 _ I7 q7) (fun yv s8 ⟨y, H8, I8, r8, q8⟩ => ?_) fun _ _ z => False.elim z
        obtain ⟨m', hm', w'⟩ := q8
        obtain ⟨k1, k2⟩ := keepFp I8
        have I8' := I8.unpinned
        obtain ⟨hD8, hn8⟩ := pinD I8'
        have hil : its.length < sizeLine := by rw [← rv3.length]; exact hz
        refine call_meets F.slot_list_append ⟨_, hD8, rfl⟩ F.entry_list_append (F.args_list_append_2 _ _) (PySem.list_append _ its.toArray k yv (by rw [List.size_toArray]; omega)) ⟨hD8, ?_⟩
        have q : (s8.heap.update s2.heap.objs.size (Obj.mapSeq fun a => a.push yv)).get? s2.heap.objs.size = some { cls := .type "list", data := .seq (its ++ [yv]).toArray (if (its.toArray.push yv).size == its.toArray.size then k else k + 1) } := by
          have q0 := PySem.IsL.update hD8 (fun a : Array Value => a.push yv)
          have ea : its.toArray.push yv = (its ++ [yv]).toArray := by simp
          rw [← ea]
          exact q0
        refine ⟨m', hm', i + 1, os', H8, ys ++ [y], its ++ [yv], (if (its.toArray.push yv).size == its.toArray.size then k else k + 1), hos', ?_, T.keep _ _ _ k1 fun b hb o e => (Heap.get?_update_other s8.heap _ (below b (fplt b hb)).2.symm).trans e, k2, rv3.append (.cons r8 .nil), w'⟩
        have In : Inv (cxComp X scope N' G.objs.size s2 H2 fp) [] (os' ++ caps σ js) H8 s8 := I8'.pins_of fun p hp => absurd hp (by simp)
        have It : Inv (cxComp X scope N' G.objs.size s2 H2 fp) [] (os' ++ caps σ js) H8 { s8 with heap := s8.heap.update s2.heap.objs.size (Obj.mapSeq fun a => a.push yv) } :=
          In.turned (it := s2.heap.objs.size) (t' := s8.toks) (fun b o hb e => (Heap.get?_update_other s8.heap _ (Ne.symm hb)).trans e) hn8 hDC (.inr (Nat.le_refl _)) (fun x c e z => by
            obtain ⟨v, o, ho, hd⟩ := I8'.cell x c e
            rw [z, hD8] at ho
            cases ho
            cases hd) fun p hp => absurd hp (by simp [cxComp])
        refine It.pins_of fun p hp => ?_
        have hp' : p = (s2.heap.objs.size, { cls := .type "list", data := .seq (its ++ [yv]).toArray (if (its.toArray.push yv).size == its.toArray.size then k else k + 1) }) := List.mem_singleton.mp hp
        subst hp'
        exact ⟨q, hn8, hDC, (I8'.pin _ (List.mem_append_right _ (List.mem_singleton.mpr rfl))).2.2.2.1, fun v z => by cases z⟩
  exact codeAny_compStart_list (loop _ rfl) (T.self _ 0 _ _ _ (T.keep _ _ _ st2 fun b _ o e => old b o e) (loop _ rfl))
/-- y = [elt for x in iter if ..], y a local name of the def: it is stored ahead of the block's own names' end -/
theorem ps_setC {X : Cx} {elt iter : Expr} {x y : Str} {px py pos spos : Pos} {ifs : List Expr} {scope : Scope} {wi : TI} {tc : TT} {te : TE} {i : Nat} (js : List Nat) (N' : List Str) (hN : X.N.Nodup) (hy : X.N[i]? = some y) (hl : Loc X.env.scope y) (hc : X.calm = true)
    (hi : PI X (.Name x px) iter wi)
    (ht : ∀ C s₀ H₀ ex, PTs (cxComp X scope N' C s₀ H₀ ex) ifs tc)
    (he : ∀ C s₀ H₀ ex, PE (cxComp X scope N' C s₀ H₀ ex) elt te)
    (hsw : swapsWith (.ListComp elt [⟨.Name x px, iter, ifs, 0⟩] scope pos) (some (.Name y py)) spos.line X.env = pure true := by rfl)
    (hf : X.fn y = true ∨ X.env.scope.names.lookup y = some .local := by first | exact .inl rfl | exact .inr rfl | assumption)
    (nd : N'.Nodup := by decide +kernel)
    (hx : scope.names.lookup x = some .local := by rfl)
    (hN' : N' = [x] ++ js.map fun j => X.N.getD j Str.empty := by rfl)
    (hk : scope.kind = .function := by rfl)
    (hcell : ∀ y ∈ scope.names, y.2 ≠ .cell := by decide +kernel)
    (hnames : ∀ y ∈ scope.names, y.2 = .local → scope.names.lookup y.1 = some .local := by decide +kernel)
    (hfr : (scope.names.all fun y => y.2 != .free || X.env.scope.names.lookup y.1 == some .cell) = true := by rfl)
    (hjs : (js.all fun j => scope.names.lookup (X.N.getD j Str.empty) == some .free && (X.N[j]?).isSome) = true := by rfl)
    (hs : ∀ z, foldedSetIterable iter X.env z = pure z := by intro _; rfl) :
    PS X (.Assign [.Name y py] (.ListComp elt [⟨.Name x px, iter, ifs, 0⟩] scope pos) spos) (tAsg (tComp 1 js wi (gName 0) tc te) (gName i)) := by
  intro pins s σ H D I h
  rw [exec_Assign_Name_used _ _ _ _ hsw]
  refine wpAny_bind (wpAny_standAt (wpAny_bind ?_))
  show wpAny _ _ (do let _ ← comprehension (.ListComp elt [⟨.Name x px, iter, ifs, 0⟩] scope pos) scope X.env _ (newList []) false (eval iter X.env) (some (assign (.Name y py) X.env))) _ _ s
  refine wpAny_bind (wpAny_mono (comp_gen (use := some (assign (.Name y py) X.env)) (Qf := fun _ s' => SP X pins D .next s') [x] js N' hc hi (fun C s₀ H₀ ex => pg_name (X := cxComp X scope N' C s₀ H₀ ex) (i := 0) nd (by show N'[0]? = some x; rw [hN']; rfl) (Or.inl (lookup_relabel_local hx)) (.inr (lookup_relabel_local hx)))
    ht he hN' hk hcell hnames hfr hjs hs I h ?_) (fun _ s' hq => wpAny_pure (wpAny_pure hq)) fun _ _ e => e)
  intro B C H' s4 m I4 q hn ce
  refine wpAny_assign_Name (store_ok2 I4 hN hy hl (v := .ref B) rfl (fun s5 I5 ⟨a, sb, ha⟩ => ?_) hf)
  have hne : C ≠ a := by
    rcases ha with rfl | ha
    · exact ce.ne
    · exact Ne.symm (ce.cl _ _ ha)
  refine ⟨m, hn.sameBut sb hne, fun h' hsb => ⟨_, H', I5.turned (t' := s5.toks) (it := C) (fun b o hb e => (hsb.2 b hb).trans e) ce.no ce.ne (.inr ce.new) ce.cl ce.pn, q⟩⟩
end L2

set_option Elab.async false
set_option linter.all false
set_option maxRecDepth 100000
set_option maxHeartbeats 1000000
namespace L2
open PySem PySem.Spec PyProof.Rows
/-! ### for x, y in zip(t, u), t and u tuples -/
section
variable {P : Program} {w : World} {A : Around} {E : Value → Shared → Prop} {s : Shared}
theorem nextT_item {it t : Addr} {i : Nat} {its : Array Value} {v : Value} {R : Value → Shared → Prop} (g : IsTupIter s.heap it t i) (ht : IsTup s.heap t its) (hv : its[i]? = some v)
    (k : ∀ h', IsTupIter h' it t (i + 1) → Heap.SameBut it s.heap h' → R v { s with heap := h' }) : wpAny (model P w) A (Builtin.SmallTypes.nextOf (.ref it)) R E s := by
  obtain ⟨ob, e1, c1, d1⟩ := id g
  obtain ⟨ot, e2, _, m, d2⟩ := ht
  unfold Builtin.SmallTypes.nextOf
  refine wpAny_bind (wpAny_callSpecial?_slot (name := Str.ofString "__next__") g.typeIs slot_tupleiter_next (wpAny_call_entry slot_tupleiter_next g.typeIs entry_tupleiter_next (?_ : wpAny _ _ (field (.ref it) 0 >>= _) _ _ s) (args_tupleiter_next _)))
  refine wpAny_bind (wpAny_field e1 d1 (x := .ref t) rfl (?_ : wpAny _ _ (if (Value.ref t == Value.none) = true then _ else _) _ _ s))
  rw [if_neg (fun q => Bool.false_ne_true q : ¬ ((Value.ref t == Value.none) = true))]
  refine wpAny_bind (wpAny_field e1 d1 (x := .int i 0) rfl (wpAny_bind (wpAny_seqItems e2 d2 ?_)))
  simp only [Int.toNat_natCast, hv]
  exact wpAny_bind (wpAny_setField e1 d1 (by simp) (wpAny_pure ⟨v, rfl, wpAny_pure (k _ ⟨_, Heap.get?_update_self _ e1 (Obj.isFreed_of_fields (Obj.data_mapFields d1 _)), (Obj.cls_mapFields ..).trans c1, by rw [Obj.data_mapFields d1]; simp [rawInt]⟩ (Heap.SameBut.update ..))⟩))
theorem nextT_end {it t : Addr} {i : Nat} {its : Array Value} {R : Value → Shared → Prop} (hh : A.handled = none) (g : IsTupIter s.heap it t i) (ht : IsTup s.heap t its) (hv : its[i]? = none)
    (k : ∀ h' e, Heap.ExtBut it s.heap h' → (∃ o, h'.get? e = some o ∧ o.cls = .type "StopIteration") → E (.ref e) { s with heap := h' }) : wpAny (model P w) A (Builtin.SmallTypes.nextOf (.ref it)) R E s := by
  obtain ⟨ob, e1, c1, d1⟩ := id g
  obtain ⟨ot, e2, _, m, d2⟩ := ht
  unfold Builtin.SmallTypes.nextOf
  refine wpAny_bind (wpAny_callSpecial?_slot (name := Str.ofString "__next__") g.typeIs slot_tupleiter_next (wpAny_call_entry slot_tupleiter_next g.typeIs entry_tupleiter_next (?_ : wpAny _ _ (field (.ref it) 0 >>= _) _ _ s) (args_tupleiter_next _)))
  refine wpAny_bind (wpAny_field e1 d1 (x := .ref t) rfl (?_ : wpAny _ _ (if (Value.ref t == Value.none) = true then _ else _) _ _ s))
  rw [if_neg (fun q => Bool.false_ne_true q : ¬ ((Value.ref t == Value.none) = true))]
  refine wpAny_bind (wpAny_field e1 d1 (x := .int i 0) rfl (wpAny_bind (wpAny_seqItems e2 d2 ?_)))
  simp only [Int.toNat_natCast, hv]
  refine wpAny_bind (wpAny_rule (wpAny_bind (wpAny_setField e1 d1 (by simp) (?_ : wpAny _ _ (newExc (.type "StopIteration") [] >>= _) _ _ _))))
  refine wpAny_bind ?_
  simp only [newExc, newTuple]
  refine wpAny_bind (wpAny_newObj_type (wpAny_bind (m := firstArgMember _ _) (wpAny_of_eq (a := Value.none) (by first | rfl | (simp only [firstArgMember]; rfl)) (wpAny_newObj_type ?_ (by size_fits)))) (by size_fits))
  simp only [raiseNew]
  refine wpAny_bind (wpAny_handled ?_)
  have hh' : A.in1.handled = none := hh
  first | rw [hh'] | rw [hh]
  exact wpAny_bind (wpAny_pure (wpAny_throw (k _ _ (((Heap.SameBut.update ..).extBut.push _).push _) ⟨_, Heap.get?_push_size _ rfl, rfl⟩)))
/-- what the five objects of a zip are -/
structure ZAt (h : Heap) (z TI TO i1 i2 t1 t2 : Addr) (f : Value) (i : Nat) : Prop where
  hz : IsZip h z TI TO f
  ti : IsPair h TI (.ref i1) (.ref i2)
  to : ∃ a b, IsPair h TO a b
  j1 : IsTupIter h i1 t1 i
  j2 : IsTupIter h i2 t2 i
theorem zipT_item {z TI TO i1 i2 t1 t2 : Addr} {i : Nat} {xs ys : Array Value} {x y : Value} {R : Option Value → Shared → Prop} (D : ZipApart z TI TO i1 i2 t1 t2) (Z : ZAt s.heap z TI TO i1 i2 t1 t2 .none i)
    (h1 : IsTup s.heap t1 xs) (h2 : IsTup s.heap t2 ys) (hx : xs[i]? = some x) (hy : ys[i]? = some y)
    (k : ∀ h', ZAt h' z TI TO i1 i2 t1 t2 (rawInt s.heap.objs.size) (i + 1) → IsPair h' s.heap.objs.size x y → (∀ c o, c ≠ z → c ≠ TO → c ≠ i1 → c ≠ i2 → s.heap.get? c = some o → h'.get? c = some o) → R (some (.ref s.heap.objs.size)) { s with heap := h' }) :
    wpAny (model P w) A (pyNext (.ref z)) R E s := by
  obtain ⟨hz, hTI, ⟨a, b, hTO⟩, j1, j2⟩ := Z
  have ty : s.TypeIs (.ref z) "zip" := ⟨_, hz, rfl⟩
  unfold pyNext
  refine wpAny_bind (wpAny_attempt (wpAny_callSpecial?_slot (name := Str.ofString "__next__") ty F.slot_zip_next (wpAny_call_entry F.slot_zip_next ty F.entry_zip_next (?_ : wpAny _ _ (field (.ref z) 2 >>= _) _ _ _) (F.args_zip_next_1 _))))
  refine wpAny_bind (wpAny_field hz rfl (x := .bool false) rfl (?_ : wpAny _ _ (field (.ref z) 3 >>= _) _ _ _))
  refine wpAny_bind (wpAny_field hz rfl (x := .ref TI) rfl (wpAny_bind (wpAny_seqItems hTI rfl (?_ : wpAny _ _ (Builtin.SmallTypes.ownedTupleIsFree (.ref z) >>= _) _ _ _))))
  refine wpAny_bind ?_
  unfold Builtin.SmallTypes.ownedTupleIsFree
  refine wpAny_bind (wpAny_field hz rfl (x := .none) rfl (wpAny_pure ?_))
  simp only [if_true]
  refine wpAny_bind (wpAny_rule (wpAny_bind (wpAny_field hz rfl (x := .ref TO) rfl (wpAny_bind (wpAny_setField_rec hz (by simp) fun g1 hz1 q1 => ?_)))))
  have z1 : IsZip g1 z TI TO .ellipsis := hz1
  refine wpAny_bind ?_
  simp only [List.zipIdx_cons, List.zipIdx_nil, List.forIn_cons, List.forIn_nil]
  refine wpAny_bind (wpAny_bind (wpAny_onRaise (?_ : wpAny _ _ (Builtin.SmallTypes.nextOf (.ref i1) >>= _) _ _ _)))
  refine wpAny_bind (nextT_item (j1.extBut q1.extBut D.i1z) (h1.extBut q1.extBut D.l1z) hx fun g2 n1 q2 => wpAny_pure ?_)
  have p2 : IsPair g2 TO a b := q2.extBut _ _ D.TOi1 (q1.extBut _ _ D.TOz hTO)
  refine wpAny_bind (wpAny_seqItems p2 rfl (wpAny_bind (wpAny_updateSeq_pair p2 fun g3 r3 q3 => wpAny_bind (wpAny_letGo (wpAny_pure ?_)))))
  have p3 : IsPair g3 TO x b := r3
  refine wpAny_bind (wpAny_bind (wpAny_onRaise (?_ : wpAny _ _ (Builtin.SmallTypes.nextOf (.ref i2) >>= _) _ _ _)))
  refine wpAny_bind (nextT_item (((j2.extBut q1.extBut D.i2z).extBut q2.extBut D.i12.symm).extBut q3.extBut D.TOi2.symm) (((h2.extBut q1.extBut D.l2z).extBut q2.extBut D.l2i1).extBut q3.extBut D.l2TO) hy fun g4 n2 q4 => wpAny_pure ?_)
  have p4 : IsPair g4 TO x b := q4.extBut _ _ D.TOi2 p3
  refine wpAny_bind (wpAny_seqItems p4 rfl (wpAny_bind (wpAny_updateSeq_pair p4 fun g5 r5 q5 => wpAny_bind (wpAny_letGo (wpAny_pure (wpAny_pure ?_))))))
  have p5 : IsPair g5 TO x y := r5
  refine wpAny_bind (wpAny_seqItems p5 rfl (wpAny_bind (wpAny_newTuple (?_ : wpAny _ _ (Builtin.SmallTypes.ownedTupleHandOut (.ref z) (.ref g5.objs.size) >>= _) _ _ _))))
  have sz : g5.objs.size = s.heap.objs.size := by rw [q5.1, q4.1, q3.1, q2.1, q1.1]
  have z5 : IsZip g5 z TI TO .ellipsis := q5.extBut _ _ D.TOz.symm (q4.extBut _ _ D.i2z.symm (q3.extBut _ _ D.TOz.symm (q2.extBut _ _ D.i1z.symm z1)))
  have kp : ∀ c o, c ≠ z → c ≠ TO → c ≠ i1 → c ≠ i2 → s.heap.get? c = some o → g5.get? c = some o := fun c o c1 c2 c3 c4 e => q5.extBut _ _ c2 (q4.extBut _ _ c4 (q3.extBut _ _ c2 (q2.extBut _ _ c3 (q1.extBut _ _ c1 e))))
  have m1 : IsTupIter g5 i1 t1 (i + 1) := ((n1.extBut q3.extBut D.TOi1.symm).extBut q4.extBut D.i12).extBut q5.extBut D.TOi1.symm
  have m2 : IsTupIter g5 i2 t2 (i + 1) := n2.extBut q5.extBut D.TOi2.symm
  have lz : z < g5.objs.size := Heap.lt_size z5
  refine wpAny_bind ?_
  unfold Builtin.SmallTypes.ownedTupleHandOut
  have z6 : IsZip (g5.push { cls := .type "tuple", data := .seq #[x, y] }) z TI TO .ellipsis := Heap.get?_push_of_some _ z5
  refine wpAny_bind (wpAny_setField_rec z6 (by simp) fun g7 r7 q7 => ?_)
  have z7 : IsZip g7 z TI TO (rawInt g5.objs.size) := r7
  refine wpAny_setField_rec z7 (by simp) fun g8 r8 q8 => ?_
  have z8 : IsZip g8 z TI TO (rawInt g5.objs.size) := r8
  have up : ∀ c o, c ≠ z → g5.get? c = some o → g8.get? c = some o := fun c o c1 e => q8.extBut _ _ c1 (q7.extBut _ _ c1 (Heap.get?_push_of_some _ e))
  have p8 : IsPair g8 g5.objs.size x y := q8.extBut _ _ (Nat.ne_of_gt lz) (q7.extBut _ _ (Nat.ne_of_gt lz) (Heap.get?_push_size _ rfl))
  rw [sz] at z8 p8
  refine wpAny_pure ⟨_, rfl, wpAny_pure ?_⟩
  show R (some (.ref g5.objs.size)) _
  rw [sz]
  refine k g8 ⟨z8, ?_, ⟨_, _, up _ _ D.TOz p5⟩, ?_, ?_⟩ p8 fun c o c1 c2 c3 c4 e => up c o c1 (kp c o c1 c2 c3 c4 e)
  · exact up _ _ D.TIz (kp _ _ D.TIz D.TITO D.TIi1 D.TIi2 hTI)
  · obtain ⟨o, e, r⟩ := m1
    exact ⟨o, up _ _ D.i1z e, r⟩
  · obtain ⟨o, e, r⟩ := m2
    exact ⟨o, up _ _ D.i2z e, r⟩
theorem zipT_end {z TI TO i1 i2 t1 t2 : Addr} {i : Nat} {xs ys : Array Value} {R : Option Value → Shared → Prop} (hh : A.handled = none) (D : ZipApart z TI TO i1 i2 t1 t2) (Z : ZAt s.heap z TI TO i1 i2 t1 t2 .none i)
    (h1 : IsTup s.heap t1 xs) (h2 : IsTup s.heap t2 ys) (hend : xs[i]? = none ∨ ys[i]? = none)
    (k : ∀ h', (∀ c o, c ≠ z → c ≠ TO → c ≠ i1 → c ≠ i2 → s.heap.get? c = some o → h'.get? c = some o) → R none { s with heap := h' }) :
    wpAny (model P w) A (pyNext (.ref z)) R E s := by
  obtain ⟨hz, hTI, ⟨a, b, hTO⟩, j1, j2⟩ := Z
  have ty : s.TypeIs (.ref z) "zip" := ⟨_, hz, rfl⟩
  have stp : ∀ h' e, (∀ c o, c ≠ z → c ≠ TO → c ≠ i1 → c ≠ i2 → s.heap.get? c = some o → h'.get? c = some o) → (∃ o, h'.get? e = some o ∧ o.cls = .type "StopIteration") →
      wpAny (model P w) A (do if (← isInstance (.ref e) (.type "StopIteration")) then pure none else throw (.ref e)) R E { s with heap := h' } := by
    rintro h' e kk ⟨o, ho, hc⟩
    exact wpAny_bind (wpAny_isInstance (T := "StopIteration") (b := true) ⟨o, ho, hc⟩ isSubtype_stop (wpAny_pure (k _ kk)))
  unfold pyNext
  refine wpAny_bind (wpAny_attempt (wpAny_callSpecial?_slot (name := Str.ofString "__next__") ty F.slot_zip_next (wpAny_call_entry F.slot_zip_next ty F.entry_zip_next (?_ : wpAny _ _ (field (.ref z) 2 >>= _) _ _ _) (F.args_zip_next_1 _))))
  refine wpAny_bind (wpAny_field hz rfl (x := .bool false) rfl (?_ : wpAny _ _ (field (.ref z) 3 >>= _) _ _ _))
  refine wpAny_bind (wpAny_field hz rfl (x := .ref TI) rfl (wpAny_bind (wpAny_seqItems hTI rfl (?_ : wpAny _ _ (Builtin.SmallTypes.ownedTupleIsFree (.ref z) >>= _) _ _ _))))
  refine wpAny_bind ?_
  unfold Builtin.SmallTypes.ownedTupleIsFree
  refine wpAny_bind (wpAny_field hz rfl (x := .none) rfl (wpAny_pure ?_))
  simp only [if_true]
  refine wpAny_bind (wpAny_rule (wpAny_bind (wpAny_field hz rfl (x := .ref TO) rfl (wpAny_bind (wpAny_setField_rec hz (by simp) fun g1 hz1 q1 => ?_)))))
  have z1 : IsZip g1 z TI TO .ellipsis := hz1
  refine wpAny_bind ?_
  simp only [List.zipIdx_cons, List.zipIdx_nil, List.forIn_cons, List.forIn_nil]
  refine wpAny_bind (wpAny_bind (wpAny_onRaise (?_ : wpAny _ _ (Builtin.SmallTypes.nextOf (.ref i1) >>= _) _ _ _)))
  have fin : ∀ (h2 h' : Heap) (e : Addr), IsZip h2 z TI TO .ellipsis → (∃ o, h2.get? e = some o ∧ o.cls = .type "StopIteration") → e ≠ z := by
    rintro h2 h' e hz2 ⟨o, ho, hc⟩ rfl
    rw [hz2] at ho
    cases ho
    simp at hc
  cases hx : xs[i]? with
  | none =>
    refine wpAny_bind (nextT_end hh (j1.extBut q1.extBut D.i1z) (h1.extBut q1.extBut D.l1z) hx fun g2 e q2 he => ?_)
    have z2 : IsZip g2 z TI TO .ellipsis := q2 _ _ D.i1z.symm z1
    have ne := fin g2 g2 e z2 he
    obtain ⟨oe, he1, he2⟩ := he
    exact wpAny_setField_rec z2 (by simp) fun g3 _ q3 => stp g3 e (fun c o c1 _ c3 _ x => q3.extBut _ _ c1 (q2 _ _ c3 (q1.extBut _ _ c1 x))) ⟨oe, q3.extBut _ _ ne he1, he2⟩
  | some x =>
    have hy : ys[i]? = none := by
      rcases hend with q | q
      · rw [hx] at q; cases q
      · exact q
    refine wpAny_bind (nextT_item (j1.extBut q1.extBut D.i1z) (h1.extBut q1.extBut D.l1z) hx fun g2 n1 q2 => wpAny_pure ?_)
    have p2 : IsPair g2 TO a b := q2.extBut _ _ D.TOi1 (q1.extBut _ _ D.TOz hTO)
    refine wpAny_bind (wpAny_seqItems p2 rfl (wpAny_bind (wpAny_updateSeq_pair p2 fun g3 r3 q3 => wpAny_bind (wpAny_letGo (wpAny_pure ?_)))))
    refine wpAny_bind (wpAny_bind (wpAny_onRaise (?_ : wpAny _ _ (Builtin.SmallTypes.nextOf (.ref i2) >>= _) _ _ _)))
    refine wpAny_bind (nextT_end hh (((j2.extBut q1.extBut D.i2z).extBut q2.extBut D.i12.symm).extBut q3.extBut D.TOi2.symm) (((h2.extBut q1.extBut D.l2z).extBut q2.extBut D.l2i1).extBut q3.extBut D.l2TO) hy fun g4 e q4 he => ?_)
    have z4 : IsZip g4 z TI TO .ellipsis := q4 _ _ D.i2z.symm (q3.extBut _ _ D.TOz.symm (q2.extBut _ _ D.i1z.symm z1))
    have ne := fin g4 g4 e z4 he
    obtain ⟨oe, he1, he2⟩ := he
    exact wpAny_setField_rec z4 (by simp) fun g5 _ q5 => stp g5 e (fun c o c1 c2 c3 c4 x => q5.extBut _ _ c1 (q4 _ _ c4 (q3.extBut _ _ c2 (q2.extBut _ _ c3 (q1.extBut _ _ c1 x))))) ⟨oe, q5.extBut _ _ ne he1, he2⟩
/-- the heap behind zip(t, u) -/
def zH (h : Heap) (t1 t2 : Addr) : Heap :=
  ((((h.push { cls := .type "tuple_iterator", data := .fields #[.ref t1, .int 0 0] }).push { cls := .type "tuple_iterator", data := .fields #[.ref t2, .int 0 0] }).push { cls := .type "tuple", data := .seq #[.ref h.objs.size, .ref (h.objs.size + 1)] }).push { cls := .type "tuple", data := .seq #[.none, .none] }).push { cls := .type "zip", data := .fields #[.none, .bool false, .bool false, .ref (h.objs.size + 2), .ref (h.objs.size + 3)] }
theorem zT_new (t1 t2 : Addr) (xs ys : Array Value) :
    Meets (Builtin.«zip.__new__» ⟨[.type "zip", .ref t1, .ref t2], []⟩) (fun _ R s => IsTup s.heap t1 xs ∧ IsTup s.heap t2 ys ∧ R (.ok (.ret (.ref (s.heap.objs.size + 4)))) { s with heap := zH s.heap t1 t2 }) :=
  .of_wp fun prog w A R s h => by
    obtain ⟨hp, g, d, tk, os⟩ := s
    obtain ⟨k1, k2, h⟩ := h
    have hsub := sub_zip
    have T1 : IsTup (Shared.heap ⟨hp, g, d, tk, os⟩) t1 xs := k1
    have T2 : IsTup (Shared.heap ⟨hp.push { cls := .type "tuple_iterator", data := .fields #[.ref t1, .int 0 0] }, g, d, tk, os⟩) t2 ys := IsTup.push k2 _
    have e1 : (hp.push { cls := .type "tuple_iterator", data := .fields #[.ref t1, .int 0 0] }).objs.size = hp.objs.size + 1 := Heap.size_push ..
    have e2 : ((hp.push { cls := .type "tuple_iterator", data := .fields #[.ref t1, .int 0 0] }).push { cls := .type "tuple_iterator", data := .fields #[.ref t2, .int 0 0] }).objs.size = hp.objs.size + 2 := by rw [Heap.size_push, e1]
    have e3 : (((hp.push { cls := .type "tuple_iterator", data := .fields #[.ref t1, .int 0 0] }).push { cls := .type "tuple_iterator", data := .fields #[.ref t2, .int 0 0] }).push { cls := .type "tuple", data := .seq #[.ref hp.objs.size, .ref (hp.objs.size + 1)] }).objs.size = hp.objs.size + 3 := by rw [Heap.size_push, e2]
    have e4 : ((((hp.push { cls := .type "tuple_iterator", data := .fields #[.ref t1, .int 0 0] }).push { cls := .type "tuple_iterator", data := .fields #[.ref t2, .int 0 0] }).push { cls := .type "tuple", data := .seq #[.ref hp.objs.size, .ref (hp.objs.size + 1)] }).push { cls := .type "tuple", data := .seq #[.none, .none] }).objs.size = hp.objs.size + 4 := by rw [Heap.size_push, e3]
    unfold zH at h
    simp only [← e1, ← e2, ← e3, ← e4] at h
    wp_walk using iter_tuple T1, iter_tuple T2
    exact ⟨_, rfl, h⟩
theorem zT_call {t1 t2 : Addr} {xs ys : Array Value} {R : Value → Shared → Prop} (h1 : IsTup s.heap t1 xs) (h2 : IsTup s.heap t2 ys)
    (k : ∀ h', ZAt h' (s.heap.objs.size + 4) (s.heap.objs.size + 2) (s.heap.objs.size + 3) s.heap.objs.size (s.heap.objs.size + 1) t1 t2 .none 0 → (∀ c o, s.heap.get? c = some o → h'.get? c = some o) → R (.ref (s.heap.objs.size + 4)) { s with heap := h' }) :
    wpAny (model P w) A (call (.type "zip") [.ref t1, .ref t2]) R E s := by
  refine callType_new F.called_zip (by decide) (F.typeCall_zip_2 _ _) (F.newCall_zip_2 _ _) (fun obj => F.args_object_init_3 obj _ _) F.entry_zip_new (zT_new t1 t2 xs ys) ⟨h1, h2, ?_⟩
  have e1 : (s.heap.push { cls := .type "tuple_iterator", data := .fields #[.ref t1, .int 0 0] }).objs.size = s.heap.objs.size + 1 := Heap.size_push ..
  have e2 : ((s.heap.push { cls := .type "tuple_iterator", data := .fields #[.ref t1, .int 0 0] }).push { cls := .type "tuple_iterator", data := .fields #[.ref t2, .int 0 0] }).objs.size = s.heap.objs.size + 2 := by rw [Heap.size_push, e1]
  have e3 : (((s.heap.push { cls := .type "tuple_iterator", data := .fields #[.ref t1, .int 0 0] }).push { cls := .type "tuple_iterator", data := .fields #[.ref t2, .int 0 0] }).push { cls := .type "tuple", data := .seq #[.ref s.heap.objs.size, .ref (s.heap.objs.size + 1)] }).objs.size = s.heap.objs.size + 3 := by rw [Heap.size_push, e2]
  have e4 : ((((s.heap.push { cls := .type "tuple_iterator", data := .fields #[.ref t1, .int 0 0] }).push { cls := .type "tuple_iterator", data := .fields #[.ref t2, .int 0 0] }).push { cls := .type "tuple", data := .seq #[.ref s.heap.objs.size, .ref (s.heap.objs.size + 1)] }).push { cls := .type "tuple", data := .seq #[.none, .none] }).objs.size = s.heap.objs.size + 4 := by rw [Heap.size_push, e3]
  have a5 : (zH s.heap t1 t2).get? (s.heap.objs.size + 4) = some { cls := .type "zip", data := .fields #[.none, .bool false, .bool false, .ref (s.heap.objs.size + 2), .ref (s.heap.objs.size + 3)] } := by
    unfold zH
    have q := Heap.get?_push_size ((((s.heap.push { cls := .type "tuple_iterator", data := .fields #[.ref t1, .int 0 0] }).push { cls := .type "tuple_iterator", data := .fields #[.ref t2, .int 0 0] }).push { cls := .type "tuple", data := .seq #[.ref s.heap.objs.size, .ref (s.heap.objs.size + 1)] }).push { cls := .type "tuple", data := .seq #[.none, .none] }) (o := { cls := .type "zip", data := .fields #[.none, .bool false, .bool false, .ref (s.heap.objs.size + 2), .ref (s.heap.objs.size + 3)] }) rfl
    rw [e4] at q
    exact q
  have a4 : (zH s.heap t1 t2).get? (s.heap.objs.size + 3) = some { cls := .type "tuple", data := .seq #[.none, .none] } := by
    unfold zH
    have q := Heap.get?_push_size (((s.heap.push { cls := .type "tuple_iterator", data := .fields #[.ref t1, .int 0 0] }).push { cls := .type "tuple_iterator", data := .fields #[.ref t2, .int 0 0] }).push { cls := .type "tuple", data := .seq #[.ref s.heap.objs.size, .ref (s.heap.objs.size + 1)] }) (o := { cls := .type "tuple", data := .seq #[.none, .none] }) rfl
    rw [e3] at q
    exact Heap.get?_push_of_some _ q
  have a3 : (zH s.heap t1 t2).get? (s.heap.objs.size + 2) = some { cls := .type "tuple", data := .seq #[.ref s.heap.objs.size, .ref (s.heap.objs.size + 1)] } := by
    unfold zH
    have q := Heap.get?_push_size ((s.heap.push { cls := .type "tuple_iterator", data := .fields #[.ref t1, .int 0 0] }).push { cls := .type "tuple_iterator", data := .fields #[.ref t2, .int 0 0] }) (o := { cls := .type "tuple", data := .seq #[.ref s.heap.objs.size, .ref (s.heap.objs.size + 1)] }) rfl
    rw [e2] at q
    exact Heap.get?_push_of_some _ (Heap.get?_push_of_some _ q)
  have a2 : (zH s.heap t1 t2).get? (s.heap.objs.size + 1) = some { cls := .type "tuple_iterator", data := .fields #[.ref t2, .int 0 0] } := by
    unfold zH
    have q := Heap.get?_push_size (s.heap.push { cls := .type "tuple_iterator", data := .fields #[.ref t1, .int 0 0] }) (o := { cls := .type "tuple_iterator", data := .fields #[.ref t2, .int 0 0] }) rfl
    rw [e1] at q
    exact Heap.get?_push_of_some _ (Heap.get?_push_of_some _ (Heap.get?_push_of_some _ q))
  have a1 : (zH s.heap t1 t2).get? s.heap.objs.size = some { cls := .type "tuple_iterator", data := .fields #[.ref t1, .int 0 0] } := by
    unfold zH
    exact Heap.get?_push_of_some _ (Heap.get?_push_of_some _ (Heap.get?_push_of_some _ (Heap.get?_push_of_some _ (Heap.get?_push_size _ rfl))))
  have kp : ∀ c o, s.heap.get? c = some o → (zH s.heap t1 t2).get? c = some o := fun c o q => by
    unfold zH
    exact Heap.get?_push_of_some _ (Heap.get?_push_of_some _ (Heap.get?_push_of_some _ (Heap.get?_push_of_some _ (Heap.get?_push_of_some _ q))))
  exact ⟨⟨_, a5, rfl⟩, k _ ⟨a5, a3, ⟨_, _, a4⟩, ⟨_, a1, rfl, rfl⟩, ⟨_, a2, rfl, rfl⟩⟩ kp⟩
end
def Itz (K : PySem.W.Frag) (t1 t2 : Addr) : It :=
  ⟨fun i H => ∃ xs ys x y, SqT K H t1 xs ∧ SqT K H t2 ys ∧ xs[i]? = some x ∧ ys[i]? = some y,
   fun i H v H' => ∃ T x y, H T = none ∧ v = .ref T ∧ H' = upd H T (.tup [x, y]) ∧ (∀ xs, SqT K H t1 xs → xs[i]? = some x) ∧ ∀ ys, SqT K H t2 ys → ys[i]? = some y,
   fun i H => ∃ xs ys, SqT K H t1 xs ∧ SqT K H t2 ys ∧ (xs.length ≤ i ∨ ys.length ≤ i)⟩
theorem turn_zipT {P : Program} {w : World} {K : PySem.W.Frag} {elts : List Expr} {k : Nat} {tpos : Pos} {z TI TO i1 i2 t1 t2 : Addr} (D : ZipApart z TI TO i1 i2 t1 t2) :
    Turn P w K (.Tuple elts k tpos) (Itz K t1 t2) [z, TI, TO, i1, i2] z (fun i h => ZAt h z TI TO i1 i2 t1 t2 .none i) where
  mem := by simp
  obj := fun i h st b hb => by
    obtain ⟨hz, hTI, ⟨a, c, hTO⟩, ⟨o1, e1, _, d1⟩, ⟨o2, e2, _, d2⟩⟩ := st
    have hb' : b = z ∨ b = TI ∨ b = TO ∨ b = i1 ∨ b = i2 := by simpa using hb
    rcases hb' with rfl | rfl | rfl | rfl | rfl
    · exact ⟨_, hz, fun v q => by cases q⟩
    · exact ⟨_, hTI, fun v q => by cases q⟩
    · exact ⟨_, hTO, fun v q => by cases q⟩
    · exact ⟨o1, e1, fun v q => by rw [d1] at q; cases q⟩
    · exact ⟨o2, e2, fun v q => by rw [d2] at q; cases q⟩
  keep := fun i h h' st kk => by
    obtain ⟨hz, hTI, ⟨a, c, hTO⟩, ⟨o1, e1, r1⟩, ⟨o2, e2, r2⟩⟩ := st
    exact ⟨kk z (by simp) _ hz, kk TI (by simp) _ hTI, ⟨a, c, kk TO (by simp) _ hTO⟩, ⟨o1, kk i1 (by simp) _ e1, r1⟩, ⟨o2, kk i2 (by simp) _ e2, r2⟩⟩
  item := by
    intro X hP hw hK hc i pins s σ H E I hf st hg
    subst hP hw hK
    obtain ⟨xs, ys, x, y, g1, g2, hx, hy⟩ := hg
    obtain ⟨its1, rv1, p1, _⟩ := I.tuple g1
    obtain ⟨its2, rv2, p2, _⟩ := I.tuple g2
    obtain ⟨u1, hu1, ru1⟩ := rv1.get hx
    obtain ⟨u2, hu2, ru2⟩ := rv2.get hy
    refine zipT_item D st p1 p2 (x := u1) (y := u2) (by simpa using hu1) (by simpa using hu2) fun h1 Z1 hT kp => ⟨_, rfl, ?_⟩
    refine wpAny_letOwnedTupleGo_zip Z1.hz fun h2 hz2 q2 => ?_
    have hTn : H s.heap.objs.size = none := I.fresh
    have new : ∀ b o, s.heap.get? b = some o → b ≠ s.heap.objs.size := fun b o q => Nat.ne_of_lt (Heap.lt_size q)
    have hTz : s.heap.objs.size ≠ z := fun e => new _ _ st.hz e.symm
    have keep : ∀ b o, b ≠ z → b ≠ TO → b ≠ i1 → b ≠ i2 → s.heap.get? b = some o → h2.get? b = some o := fun b o c1 c2 c3 c4 q => (q2.2 b c1).trans (kp b o c1 c2 c3 c4 q)
    have trk : ∀ b o, H b = some o → b ≠ z ∧ b ≠ TO ∧ b ≠ i1 ∧ b ≠ i2 := fun b o q => by
      refine ⟨?_, ?_, ?_, ?_⟩ <;> (intro e; subst e)
      · rw [(hf b (by simp)).1] at q; cases q
      · rw [(hf b (by simp)).1] at q; cases q
      · rw [(hf b (by simp)).1] at q; cases q
      · rw [(hf b (by simp)).1] at q; cases q
    have T2 : h2.get? s.heap.objs.size = some { cls := .type "tuple", data := .seq #[u1, u2] } := (q2.2 _ hTz).trans hT
    have ok2 : HOk X.prog X.w (upd H s.heap.objs.size (.tup [x, y])) h2 := fun b v q => by
      by_cases hb : b = s.heap.objs.size
      · subst hb
        rw [upd_same] at q; cases q
        exact ⟨by show 2 ≤ sizeLine; decide, [u1, u2], .cons ru1 (.cons ru2 .nil), _, T2, rfl, 0, rfl⟩
      · rw [upd_ne hb] at q
        refine (I.hok b v q).stay (fun c o hc' r => ?_) (fun c r => by rw [upd_ne (ne_of_none r hTn)]; exact r) fun c ys r => by rw [upd_ne (ne_of_none r hTn)]; exact r
        have : ∃ o, H c = some o := by
          rcases hc' with rfl | hc'
          · exact ⟨_, q⟩
          · exact ⟨_, hc'⟩
        obtain ⟨o', ho⟩ := this
        obtain ⟨n1, n2, n3, n4⟩ := trk c o' ho
        exact keep c o n1 n2 n3 n4 r
    have nin : ∀ {b : Addr}, b ∉ [z, TI, TO, i1, i2] → b ≠ z ∧ b ≠ TO ∧ b ≠ i1 ∧ b ≠ i2 := fun {b} q => ⟨fun e => q (by simp [e]), fun e => q (by simp [e]), fun e => q (by simp [e]), fun e => q (by simp [e])⟩
    have I2 : Inv X pins σ (upd H s.heap.objs.size (.tup [x, y])) { s with heap := h2, toks := s.toks } := by
      refine I.call (g' := s.gens) (d' := s.drawn) (t' := s.toks) (ch := [z, TI, TO, i1, i2]) ⟨fun b o q n hb hx => ?_, fun b o q n hb hx => ?_, fun b o q n hx => ?_, fun b o q hx => ?_, fun b ys q => ?_, fun b o ys q => ?_, fun b ys q => ?_⟩ ok2 I.bare (fun b hb => ?_)
      · obtain ⟨n1, n2, n3, n4⟩ := nin hx
        exact keep b o n1 n2 n3 n4 q
      · obtain ⟨n1, n2, n3, n4⟩ := nin hx
        exact ⟨o.slots, keep b o n1 n2 n3 n4 q⟩
      · rw [upd_ne (new b o q)]; exact n
      · obtain ⟨n1, n2, n3, n4⟩ := nin hx
        exact ⟨o, keep b o n1 n2 n3 n4 q⟩
      · rw [upd_ne (ne_of_none q hTn)]; exact q
      · rw [upd_ne (ne_of_none q hTn)]; exact q
      · exact ⟨#[], by rw [upd_ne (ne_of_none q hTn), q]; simp⟩
      · obtain ⟨f0, f1, f2, f3, f4, f5⟩ := hf b hb
        exact ⟨f3, f1, f4, f5⟩
    refine ⟨.ref s.heap.objs.size, _, I2, rfl, ⟨_, x, y, hTn, rfl, rfl, fun zs hz' => by rw [I.tuple_inj hz' g1]; exact hx, fun zs hz' => by rw [I.tuple_inj hz' g2]; exact hy⟩, ?_, fun b hb => ?_⟩
    · obtain ⟨_, hTI, ⟨a, c, hTO⟩, ⟨o1, e1, r1⟩, ⟨o2, e2, r2⟩⟩ := Z1
      exact ⟨hz2, (q2.2 _ D.TIz).trans hTI, ⟨a, c, (q2.2 _ D.TOz).trans hTO⟩, ⟨o1, (q2.2 _ D.i1z).trans e1, r1⟩, ⟨o2, (q2.2 _ D.i2z).trans e2, r2⟩⟩
    · rw [upd_ne (fun e => ?_)]
      · exact (hf b hb).1
      · obtain ⟨hz, hTI, ⟨a, c, hTO⟩, ⟨o1, e1, _⟩, ⟨o2, e2, _⟩⟩ := st
        have hb' : b = z ∨ b = TI ∨ b = TO ∨ b = i1 ∨ b = i2 := by simpa using hb
        rcases hb' with rfl | rfl | rfl | rfl | rfl
        · exact new _ _ hz e
        · exact new _ _ hTI e
        · exact new _ _ hTO e
        · exact new _ _ e1 e
        · exact new _ _ e2 e
  done := by
    intro X hP hw hK hc i pins s σ H E I hf st hg
    subst hP hw hK
    obtain ⟨xs, ys, g1, g2, hle⟩ := hg
    obtain ⟨its1, rv1, p1, _⟩ := I.tuple g1
    obtain ⟨its2, rv2, p2, _⟩ := I.tuple g2
    have l1 := rv1.length
    have l2 := rv2.length
    have hend : its1.toArray[i]? = none ∨ its2.toArray[i]? = none := by
      rcases hle with q | q
      · exact .inl (by simp; omega)
      · exact .inr (by simp; omega)
    refine zipT_end (I.ok.hd hc) D st p1 p2 hend fun h' kp => ⟨rfl, ?_⟩
    have nin : ∀ {b : Addr}, b ∉ [z, TI, TO, i1, i2] → b ≠ z ∧ b ≠ TO ∧ b ≠ i1 ∧ b ≠ i2 := fun {b} q => ⟨fun e => q (by simp [e]), fun e => q (by simp [e]), fun e => q (by simp [e]), fun e => q (by simp [e])⟩
    have trk : ∀ b o, H b = some o → b ≠ z ∧ b ≠ TO ∧ b ≠ i1 ∧ b ≠ i2 := fun b o q => by
      refine ⟨?_, ?_, ?_, ?_⟩ <;> (intro e; subst e)
      · rw [(hf b (by simp)).1] at q; cases q
      · rw [(hf b (by simp)).1] at q; cases q
      · rw [(hf b (by simp)).1] at q; cases q
      · rw [(hf b (by simp)).1] at q; cases q
    have ok2 : HOk X.prog X.w H h' := fun b v q => by
      refine (I.hok b v q).stay (fun c o hc' r => ?_) (fun c r => r) fun c ys r => r
      have : ∃ o, H c = some o := by
        rcases hc' with rfl | hc'
        · exact ⟨_, q⟩
        · exact ⟨_, hc'⟩
      obtain ⟨o', ho⟩ := this
      obtain ⟨n1, n2, n3, n4⟩ := trk c o' ho
      exact kp c o n1 n2 n3 n4 r
    refine I.call (g' := s.gens) (d' := s.drawn) (t' := s.toks) (ch := [z, TI, TO, i1, i2]) ⟨fun b o q n hb hx => ?_, fun b o q n hb hx => ?_, fun b o q n hx => n, fun b o q hx => ?_, fun b ys q => q, fun b o ys q => q, fun b ys q => ⟨#[], by rw [q]; simp⟩⟩ ok2 I.bare (fun b hb => ?_)
    · obtain ⟨n1, n2, n3, n4⟩ := nin hx
      exact kp b o n1 n2 n3 n4 q
    · obtain ⟨n1, n2, n3, n4⟩ := nin hx
      exact ⟨o.slots, kp b o n1 n2 n3 n4 q⟩
    · obtain ⟨n1, n2, n3, n4⟩ := nin hx
      exact ⟨o, kp b o n1 n2 n3 n4 q⟩
    · obtain ⟨f0, f1, f2, f3, f4, f5⟩ := hf b hb
      exact ⟨f3, f1, f4, f5⟩
  self := fun _ _ _ _ _ st h => wpAny_pyIter_zip st.hz h
theorem zapart {n a b : Nat} (la : a < n) (lb : b < n) : ZipApart (n + 4) (n + 2) (n + 3) n (n + 1) a b := by
  have ne : ∀ {i j : Nat}, i < j ∨ j < i → ¬ @Eq Addr i j := fun {i j} h e => by
    have e' : @Eq Nat i j := e
    omega
  exact ⟨ne (by omega), ne (by omega), ne (by omega), ne (by omega), ne (by omega), ne (by omega), ne (by omega), ne (by omega), ne (by omega), ne (by omega), ne (by omega), ne (by omega), ne (by omega), ne (by omega), ne (by omega), ne (by omega), ne (by omega), ne (by omega)⟩
theorem zle {n c : Nat} (h : c = n + 4 ∨ c = n + 2 ∨ c = n + 3 ∨ c = n ∨ c = n + 1) : n ≤ c := by omega
def iZipT (K : PySem.W.Frag) (t1 t2 : TE) : TI := fun σ H R => t1 σ H fun x H1 => t2 σ H1 fun y H2 => ∃ a b, x = .ref a ∧ y = .ref b ∧ (∃ xs, SqT K H2 a xs) ∧ (∃ ys, SqT K H2 b ys) ∧ R (Itz K a b) H2
theorem boot_zip' : bootBuiltins "zip" = some (.type "zip") := by kernel_rfl
theorem pi_zipT {X : Cx} {elts : List Expr} {k : Nat} {tpos p pos : Pos} {l m : Expr} {tl tm : TE} (hm : X.mg "zip" = none) (hl : PE X l tl) (hl2 : PE X m tm) (hg : Gl X "zip" := by rfl) (hs : notStar l = true := by rfl) (hs2 : notStar m = true := by rfl) :
    PI X (.Tuple elts k tpos) (.Call (.Name "zip" p) [l, m] [] pos) (iZipT X.K tl tm) := by
  intro pins s σ H R I h
  refine wpAny_Call_Name_kw (ld_blt I hg hm boot_zip' ?_)
  have h' : (tCons tl (tCons tm tNil)) σ H (fun vs H1 => match vs with | [x, y] => (∃ a b, x = .ref a ∧ y = .ref b ∧ (∃ xs, SqT X.K H1 a xs) ∧ (∃ ys, SqT X.K H1 b ys) ∧ R (Itz X.K a b) H1) | _ => False) := h
  refine PyProof.Rows.callWith_type1 (thn ((pa_c hl (pa_c hl2 pa_nil hs2) hs) pos pins s σ H _ I h') fun us s1 ⟨vs, H1, I1, r1, q1⟩ => ?_) (star_cons hs) (star_none (by simp [hs2]))
  match vs, q1, r1 with
  | [x, y], q1, r1 =>
  obtain ⟨a, b, rfl, rfl, ⟨xs, g1⟩, ⟨ys, g2⟩, q⟩ := q1
  cases r1 with
  | cons ra rest =>
  obtain ⟨u, rfl, rb⟩ := Vals.one rest
  cases ra
  cases rb
  obtain ⟨its1, rv1, p1, _⟩ := I1.tuple g1
  obtain ⟨its2, rv2, p2, _⟩ := I1.tuple g2
  have la := p1.lt
  have lb := p2.lt
  refine zT_call p1 p2 fun h2 Z kp => ?_
  refine wpAny_pyIter_zip Z.hz ?_
  have I2 : Inv X pins σ H1 { s1 with heap := h2 } := I1.kept (t' := s1.toks) kp
  have D : ZipApart (s1.heap.objs.size + 4) (s1.heap.objs.size + 2) (s1.heap.objs.size + 3) s1.heap.objs.size (s1.heap.objs.size + 1) a b := zapart la lb
  refine ⟨_, _, _, _, H1, rfl, I2, turn_zipT D, Z, fun c hc => ?_, q⟩
  have hc2 : s1.heap.objs.size ≤ c := by
    have hc' : c = s1.heap.objs.size + 4 ∨ c = s1.heap.objs.size + 2 ∨ c = s1.heap.objs.size + 3 ∨ c = s1.heap.objs.size ∨ c = s1.heap.objs.size + 1 := by simpa using hc
    exact zle hc'
  exact I1.fpOk hc2 (I1.hok.fresh hc2)
theorem for_zipT {K : PySem.W.Frag} {t1 t2 : Addr} {xs ys : List V} {n : Nat} {g : TG} {tb : TS} {D : Ends} {σ : St} {H : Hp} (hn : n = min xs.length ys.length) (Pv : Nat → St → Hp → Prop) (h0 : Pv 0 σ H) (hl : ∀ i σ H, i ≤ n → Pv i σ H → SqT K H t1 xs ∧ SqT K H t2 ys)
    (hs : ∀ i x y σ H T, xs[i]? = some x → ys[i]? = some y → Pv i σ H → H T = none → g (.ref T) σ (upd H T (.tup [x, y])) fun σ2 H2 => tb { D with nx := Pv (i + 1), ct := Pv (i + 1), bk := D.nx } σ2 H2) (hd : ∀ σ H, Pv n σ H → D.nx σ H) :
    ∃ W : Nat → Nat → St → Hp → Prop, (∃ m, W 0 m σ H) ∧ ∀ i m σ H, W i m σ H →
      ((Itz K t1 t2).stop i H ∧ D.nx σ H) ∨ ((Itz K t1 t2).go i H ∧ ∃ N : St → Hp → Prop, (∀ σ' H', N σ' H' → ∃ m', m' < m ∧ W (i + 1) m' σ' H') ∧ ∀ x H', (Itz K t1 t2).yld i H x H' → g x σ H' fun σ2 H2 => tb { D with nx := N, ct := N, bk := D.nx } σ2 H2) := by
  refine ⟨fun i m σ H => m = n - i ∧ i ≤ n ∧ Pv i σ H, ⟨n, by simp, Nat.zero_le _, h0⟩, ?_⟩
  rintro i m σ H ⟨rfl, hi, p⟩
  obtain ⟨q1, q2⟩ := hl i σ H hi p
  by_cases hlt : i < n
  · have a1 : i < xs.length := by omega
    have a2 : i < ys.length := by omega
    refine .inr ⟨⟨xs, ys, xs[i], ys[i], q1, q2, by simp [a1], by simp [a2]⟩, Pv (i + 1), fun σ' H' p' => ⟨n - (i + 1), by omega, rfl, hlt, p'⟩, fun v H' y => ?_⟩
    obtain ⟨T, x', y', hT, rfl, rfl, hx, hy⟩ := y
    exact hs i x' y' σ H T (hx xs q1) (hy ys q2) p hT
  · have e : i = n := by omega
    subst e
    exact .inl ⟨⟨xs, ys, q1, q2, by omega⟩, hd σ H p⟩
end L2

set_option Elab.async false
set_option linter.all false
set_option maxRecDepth 100000
set_option maxHeartbeats 3200000
namespace L2
open PySem PySem.Spec PyProof.Rows
/-! ### the unlike ones of a row of keys -/
@[reducible] def keyBEq : BEq Key := instBEqOfDecidableEq
local instance (priority := 10000) keyBEqI : BEq Key := keyBEq
local instance (priority := 10000) keyLaw : @LawfulBEq Key keyBEq := inferInstanceAs (@LawfulBEq Key instBEqOfDecidableEq)
def addK (σ : List Key) (k : Key) : List Key := if k ∈ σ then σ else σ ++ [k]
def metK (val : Nat → Key) : Nat → List Key
  | 0 => []
  | i + 1 => addK (metK val i) (val i)
theorem metK_le (val : Nat → Key) : ∀ i, (metK val i).length ≤ i
  | 0 => Nat.le_refl _
  | i + 1 => by
    have := metK_le val i
    show (addK (metK val i) (val i)).length ≤ i + 1
    unfold addK
    split
    · omega
    · rw [List.length_append]; simp; omega
def uniqK (ks : List Key) : List Key := metK (fun i => ks.getD i (.inl 0)) ks.length
section
variable {P : Program} {w : World} {A : Around} {R : Result → Shared → Prop} {I : Addr} {fp wr : List Addr} {G : Array GenState → Array GenState → Prop} {n : Nat} {Pr : Nat → Value → Prop} {St : Nat → Shared → Prop}
theorem setFill (W : WalksS P w A.in1 I fp wr G n Pr St) (D : Addr) (hD : D ∉ fp) (val : Nat → Key) (hval : ∀ i v, Pr i v → (mixKind P w).is (val i) v = true ∧ v.scannable = true) (hb : n + 1 < scanBound) :
    ∀ (k i : Nat) (s : Shared), n - i = k → i ≤ n → St i s → s.heap.SetOf (mixKind P w) D (fun q => decide (q ∈ metK val i)) (metK val i).length →
      (∀ s', Moved (D :: wr) G s s' → s'.heap.SetOf (mixKind P w) D (fun q => decide (q ∈ metK val n)) (metK val n).length → R (.ok (.ret .none)) s') →
      codeAny (model P w) A (.builtin "set.update.loop" ⟨[.ref D, .ref I], []⟩) R s := by
  have hDw : D ∉ wr := fun h => hD (W.sub _ h)
  have sub : ∀ b ∈ wr, b ∈ D :: wr := fun b h => List.mem_cons_of_mem _ h
  have mv : ∀ {s s' : Shared} {T : Key → Bool} {m : Nat}, Moved wr G s s' → s.heap.SetOf (mixKind P w) D T m → s'.heap.SetOf (mixKind P w) D T m := fun hm h => by
    obtain ⟨o, es, ep, tb, ho, rest⟩ := h
    exact ⟨o, es, ep, tb, hm.heap D _ hDw ho, rest⟩
  intro k
  induction k with
  | zero =>
    intro i s hk hi hst hS hR
    obtain rfl : i = n := by omega
    refine codeAny_builtin F.entry_set_update_loop ?_
    rw [Around.under_plainId F.plain_set_update_loop _]
    exact wpAny_bind (m := pyNext (.ref I)) (W.done s _ _ hst fun s' hm => wpAny_pure (hR s' (hm.mono sub) (mv hm hS)))
  | succ k ih =>
    intro i s hk hi hst hS hR
    have lt : i < n := by omega
    refine codeAny_builtin F.entry_set_update_loop ?_
    rw [Around.under_plainId F.plain_set_update_loop _]
    refine wpAny_bind (m := pyNext (.ref I)) (W.item i s _ _ lt hst fun v s' hP hst' hm => ?_)
    obtain ⟨hi1, hi2⟩ := hval i v hP
    have hS' := mv hm hS
    refine wpAny_bind (m := holding [v] (setAdd D v)) (wpAny_holding ?_)
    unfold setAdd
    refine wpAny_holding (wpAny_bind ((mixKind P w).pyHash (k := val i) hi1 ?_))
    have room : (metK val i).length + 1 < scanBound := by have := metK_le val i; omega
    refine wpAny_setAddHashed_of (knd := mixKind P w) (s := { s' with toks := s'.toks + 1 }) hi1 hi2 hS' room fun h' sb S2 => ?_
    have Sn : h'.SetOf (mixKind P w) D (fun q => decide (q ∈ metK val (i + 1))) (metK val (i + 1)).length := by
      refine SetOf_congr S2 (fun q => ?_) ?_
      · show (decide (q ∈ metK val i) || decide (q = val i)) = decide (q ∈ addK (metK val i) (val i))
        unfold addK
        by_cases h1 : val i ∈ metK val i
        · rw [if_pos h1]
          by_cases e : q = val i
          · subst e; simp [h1]
          · simp [e]
        · rw [if_neg h1]
          simp
      · show (if decide (val i ∈ metK val i) = true then _ else _) = (addK (metK val i) (val i)).length
        unfold addK
        by_cases h1 : val i ∈ metK val i
        · rw [if_pos h1, if_pos (decide_eq_true h1)]
        · rw [if_neg h1, if_neg (by simpa using h1)]
          simp
    refine wpAny_pure ⟨plainId_quiet F.plain_set_update_loop _, ih (i + 1) _ (by omega) lt (W.frame _ s' _ _ hst' (Nat.le_succ _) fun b hb' o e => ?_) Sn fun s'' m2 T2 => ?_⟩
    · rw [sb.2 b (fun h => hD (h ▸ hb'))]; exact e
    · refine hR s'' (Moved.trans W.gtrans ((hm.mono sub).then_heap (Nat.le_succ _) fun b o hb' e => ?_) m2) T2
      rw [sb.2 b (fun h => hb' (h ▸ List.mem_cons_self))]; exact e
end
section
variable {P : Program} {w : World} {A : Around} {E : Value → Shared → Prop} {s : Shared}
theorem call_set_keys {l : Addr} {items : Array Value} {ks : List Key} {Q : Value → Shared → Prop} (hh : A.handled = none) (hl : s.heap.IsList l items) (hlen : items.size = ks.length) (hi : ∀ i v, items[i]? = some v → (mixKind P w).is (ks.getD i (.inl 0)) v = true ∧ v.scannable = true) (hb : items.size + 1 < scanBound)
    (h : ∀ (h' : Heap) (tk : Nat), h'.SetOf (mixKind P w) s.heap.objs.size (fun q => decide (q ∈ uniqK ks)) (uniqK ks).length → (∀ b o, b < s.heap.objs.size → s.heap.get? b = some o → h'.get? b = some o) → Q (.ref s.heap.objs.size) { s with heap := h', toks := tk }) :
    wpAny (model P w) A (call (.type "set") [.ref l]) Q E s := by
  obtain ⟨c, tl, hmro⟩ := F.called_set.mro
  have hmade := F.called_set.made
  have hsub := F.called_set.sub
  refine wpAny_call (codeAny_of_tree (?_ : wpAny _ _ (callAny (.type "set") _) _ _ _))
  refine wpAny_pure ⟨Code.quiet_builtin _ (by decide +kernel), codeAny_builtin F.entry_type_call ?_⟩
  rw [Around.under_plain (weight_type_call_type "set" [.ref l] []) rfl]
  have k1 := F.called_set.notType
  have k2 := F.called_set.canCreate
  have hct := F.typeCall_set_1 (.ref l)
  repeat (any_goals (first | assumption | wp_step))
  refine codeAny_mono (code_set_new_1 (.ref l) (E := E) (Q₁ := fun obj s₁ => ∃ led : Bool, obj = .ref s.heap.objs.size ∧ s₁ = { s with heap := s.heap.push ⟨.type "set", none, .set #[] 0 (.fresh 0 0 led), #[]⟩ }) fun led => ⟨led, rfl, rfl⟩) fun r s₁ hr => ?_
  cases r with
  | error e => exact hr
  | ok fl =>
    cases fl with
    | ret obj =>
      obtain ⟨led, rfl, rfl⟩ := hr
      have hS : (s.heap.push ⟨.type "set", none, .set #[] 0 (.fresh 0 0 led), #[]⟩).get? s.heap.objs.size = some ⟨.type "set", none, .set #[] 0 (.fresh 0 0 led), #[]⟩ := Heap.get?_push_size _ rfl
      have hT : Shared.TypeIs { s with heap := s.heap.push ⟨.type "set", none, .set #[] 0 (.fresh 0 0 led), #[]⟩ } (.ref s.heap.objs.size) "set" := ⟨_, hS, rfl⟩
      have hli := F.called_set.init.lookup
      have hbi := F.called_set.init.bind (.ref s.heap.objs.size)
      repeat (any_goals (first | assumption | wp_step))
      refine codeAny_mono (codeAny_call_builtin (R := wants (fun r s₂ => r = .none ∧ ∃ h' tk, s₂ = { s with heap := h', toks := tk } ∧ h'.SetOf (mixKind P w) s.heap.objs.size (fun q => decide (q ∈ uniqK ks)) (uniqK ks).length ∧ (∀ b o, b < s.heap.objs.size → s.heap.get? b = some o → h'.get? b = some o)) E) F.called_set.init.plain F.entry_set_init (check_set_init_1 hT ?_)) fun r₂ s₂ hr₂ => ?_
      · obtain ⟨ol, hol, hcl, nl, hdl⟩ := hl
        obtain ⟨ocls, odict, odata, oslots⟩ := ol
        simp only at hcl hdl
        subst hcl; subst hdl
        have hol' : (s.heap.push ⟨.type "set", none, .set #[] 0 (.fresh 0 0 led), #[]⟩).get? l = some { cls := .type "list", dict := odict, data := .seq items nl, slots := oslots } := Heap.get?_push_of_some _ hol
        have hsls := F.sub_list_set
        have hslf := F.sub_list_frozenset
        have hne : (Value.type "list" == Value.type "dict") = false := by decide
        have hl1 : (s.heap.push ⟨.type "set", none, .set #[] 0 (.fresh 0 0 led), #[]⟩).IsList l items := ⟨_, hol', rfl, nl, rfl⟩
        unfold Builtin.«set.__init__» noKeywords Builtin.Frozenset.updateFrom
        generalize hPI : pyIter = PI
        wp_walk
        subst hPI
        refine wpAny_pyIter_list hl1 (wpAny_bind (wpAny_runValue ?_))
        have hlS : l < s.heap.objs.size := Heap.lt_size hol
        have hh3 : A.in1.in1.in1.handled = none := by simp [hh]
        have hneI : l ≠ (s.heap.push ⟨.type "set", none, .set #[] 0 (.fresh 0 0 led), #[]⟩).objs.size := by rw [Heap.size_push]; exact Nat.ne_of_lt (Nat.lt_succ_of_lt hlS)
        have hSf : s.heap.objs.size ∉ [(s.heap.push ⟨.type "set", none, .set #[] 0 (.fresh 0 0 led), #[]⟩).objs.size, l] := by
          rw [Heap.size_push]
          intro q
          rcases List.mem_cons.mp q with q | q
          · exact Nat.ne_of_lt (Nat.lt_succ_self _) q
          · exact Nat.ne_of_gt hlS (List.mem_singleton.mp q)
        refine setFill ((Walks.list hh3 _ l hneI items).toS) s.heap.objs.size hSf (fun i => ks.getD i (.inl 0)) hi hb (items.size - 0) 0 _ (by omega) (Nat.zero_le _) ⟨⟨_, Heap.get?_push_size _ rfl, rfl, rfl⟩, (hl1.push _)⟩ ?hS0 ?hR
        case hS0 =>
          have hget : ((s.heap.push ⟨.type "set", none, .set #[] 0 (.fresh 0 0 led), #[]⟩).push { cls := .type "list_iterator", data := .fields #[.ref l, .int 0 0] }).get? s.heap.objs.size = some ⟨.type "set", none, .set #[] 0 (.fresh 0 0 led), #[]⟩ := Heap.get?_push_of_some _ hS
          exact SetOf_congr ((setObjOf_fresh (knd := mixKind P w) led).setOf hget (by unfold scanBound; omega)) (fun q => by show false = decide (q ∈ ([] : List Key)); simp) rfl
        case hR =>
          intro s' hm hS'
          obtain ⟨h', g', d', tk', os'⟩ := s'
          obtain rfl : g' = s.gens := hm.gens
          obtain rfl : d' = s.drawn := hm.drawn
          obtain rfl : os' = s.os := hm.os
          show wpAny _ _ _ _ _ _
          refine wpAny_pure (?_ : wpAny _ _ (ret Value.none) _ _ _)
          rw [hlen] at hS'
          refine wpAny_pure ⟨rfl, h', tk', rfl, hS', fun b o hb' e => ?_⟩
          have n1 : b ≠ s.heap.objs.size := Nat.ne_of_lt hb'
          have n2 : b ≠ (s.heap.push ⟨.type "set", none, .set #[] 0 (.fresh 0 0 led), #[]⟩).objs.size := by rw [Heap.size_push]; exact Nat.ne_of_lt (Nat.lt_succ_of_lt hb')
          refine hm.heap b o (fun q => ?_) (Heap.get?_push_of_some _ (Heap.get?_push_of_some _ e))
          rcases List.mem_cons.mp q with q | q
          · exact n1 q
          · exact n2 (List.mem_singleton.mp q)
      · cases r₂ with
        | error e => exact hr₂
        | ok fl₂ =>
          cases fl₂ with
          | ret r =>
            obtain ⟨rfl, h', tk, rfl, hS', hk'⟩ := hr₂
            repeat (any_goals (first | assumption | wp_step))
            exact h _ _ hS' hk'
          | _ => exact hr₂.elim
    | _ => exact hr.elim
end
end L2

set_option Elab.async false
set_option linter.all false
set_option maxRecDepth 100000
set_option maxHeartbeats 1000000
namespace L2
open PySem PySem.Spec PyProof.Rows
/-! ### len(set(l)), sum(l), list(range(n)), l[a:b:c] -/
section
variable {X : Cx} {e l : Expr} {te tl : TE} {p pos p2 pos2 : Pos}
def tLenSet (K : PySem.W.Frag) (tl : TE) : TE := fun σ H Q => tl σ H fun x H1 => ∃ a ks, x = .ref a ∧ SqL K H1 a (ks.map kV) ∧ ks.length + 1 < scanBound ∧ Q (.int ((uniqK ks).length : Int)) H1
theorem boot_set : bootBuiltins "set" = some (.type "set") := by kernel_rfl
theorem kV_scan {k : Key} {u : Value} (r : RelV (kV k) u) : u.scannable = true := by
  cases k with
  | inl i => obtain ⟨t, rfl⟩ := (show ∃ t, u = Value.int i t from r); rfl
  | inr x => obtain ⟨t, rfl⟩ := (show ∃ t, u = Value.str x t from r); rfl
theorem pe_lenset (hc : X.calm = true) (h1 : X.mg "len" = none) (h2 : X.mg "set" = none) (hl : PE X l tl) (hg1 : Gl X "len" := by rfl) (hg2 : Gl X "set" := by rfl) (hs : notStar l = true := by rfl) :
    PE X (.Call (.Name "len" p) [.Call (.Name "set" p2) [l] [] pos2] [] pos) (tLenSet X.K tl) := by
  intro pins s σ H Q I h
  refine wpAny_Call_Name_kw (ld_blt I hg1 h1 boot_len ?_)
  refine PyProof.Rows.callWith_builtin1 ?_ (star_cons rfl) (star_none rfl)
  rw [star_cons rfl]
  refine (Calls.spliced_cons ?_ : wpAny _ _ (spliced ((false, eval (.Call (.Name "set" p2) [l] [] pos2) X.env) :: backTo pos (starEach [] X.env))) _ _ s)
  refine wpAny_Call_Name_kw (ld_blt I hg2 h2 boot_set ?_)
  have h' : (tCons tl tNil) σ H (fun vs H1 => match vs with | [x] => (∃ a ks, x = .ref a ∧ SqL X.K H1 a (ks.map kV) ∧ ks.length + 1 < scanBound ∧ Q (.int ((uniqK ks).length : Int)) H1) | _ => False) := h
  refine PyProof.Rows.callWith_type1 (thn ((pa_c hl pa_nil hs) pos2 pins s σ H _ I h') fun us s1 ⟨vs, H1, I1, r1, q1⟩ => ?_) (star_cons hs) (star_none rfl)
  match vs, q1, r1 with
  | [x], q1, r1 =>
  obtain ⟨a, ks, rfl, hq, hb, q⟩ := q1
  obtain ⟨u, rfl, ru⟩ := r1.one
  cases ru
  obtain ⟨its, rv, pl, hz⟩ := I1.list hq
  have hlen := rv.length
  rw [List.length_map] at hlen
  refine call_set_keys (ks := ks) (I1.ok.hd hc) pl.isList (by simpa using hlen.symm) (fun i v hv => ?_) (by rw [List.size_toArray, ← hlen]; exact hb) fun h' tk so k => Calls.spliced_nil ?_
  · have hv' : its[i]? = some v := by simpa using hv
    have hi : i < ks.length := by have := (List.getElem?_eq_some_iff.mp hv').1; omega
    obtain ⟨u', e', r'⟩ := rv.get (i := i) (x := kV ks[i]) (by simp [hi])
    rw [e'] at hv'
    cases hv'
    have e2 : ks.getD i (.inl 0) = ks[i] := by simp [List.getD_eq_getElem?_getD, hi]
    rw [e2]
    exact ⟨kV_is r', kV_scan r'⟩
  · obtain ⟨o, es, ep, t, ho, hex, hd, _, _, hsz, hf, hn⟩ := so
    have hbig : scanBound ≤ 2 ^ 62 := by decide
    refine call_len_set ho hex hd hf (by omega) ⟨.int ((uniqK ks).length : Int), H1, ?_, ⟨_, by rw [hn]⟩, q⟩
    exact I1.kept fun b o e => k b o (Heap.lt_size e) e
variable {lo hi : Option Expr} {st : Expr} {t1 t2 t3 : TO}
end
/-! ### isinstance(x, (T, ..)) -/
section
variable {X : Cx} {pins : List (Addr × Obj)} {σ : St} {H : Hp} {s : Shared}
theorem tyKit {x : V} {u t : Value} (I : Inv X pins σ H s) (rx : RelV x u) (ty : TyOf X.K H x t) : ∃ G : Heap → Prop, PySem.W.KitX X.K u t G ∧ G s.heap ∧ u ≠ .builtin "__main__.__loader__#opaque" := by
  cases ty with
  | non => cases (show u = Value.none from rx); exact ⟨_, PySem.W.kitx_none, True.intro, fun z => nomatch z⟩
  | bl y => cases (show u = Value.bool y from rx); exact ⟨_, PySem.W.kitx_bool, True.intro, fun z => nomatch z⟩
  | int i => obtain ⟨t, rfl⟩ := (show ∃ t, u = Value.int i t from rx); exact ⟨_, PySem.W.kitx_int, True.intro, fun z => nomatch z⟩
  | str y => obtain ⟨t, rfl⟩ := (show ∃ t, u = Value.str y t from rx); exact ⟨_, PySem.W.kitx_str, True.intro, fun z => nomatch z⟩
  | flt y => obtain ⟨t, rfl⟩ := (show ∃ t, u = Value.float y t from rx); exact ⟨_, PySem.W.kitx_float, True.intro, fun z => nomatch z⟩
  | @lst a xs ea =>
    cases (show u = Value.ref a from rx)
    obtain ⟨_, _, n, _, g⟩ := (show ObjOk X.prog X.w H s.heap a (.lst xs) from I.hok a _ ea)
    exact ⟨_, PySem.W.kitx_list, ⟨_, g, rfl⟩, fun z => nomatch z⟩
  | @frz a ob xs ea =>
    cases (show u = Value.ref a from rx)
    obtain ⟨_, _, _, n, _, g⟩ := (show ObjOk X.prog X.w H s.heap a (.frz ob (.lst xs)) from I.hok a _ ea)
    exact ⟨_, PySem.W.kitx_list, ⟨_, g, rfl⟩, fun z => nomatch z⟩
  | @tup a xs ea =>
    cases (show u = Value.ref a from rx)
    obtain ⟨_, _, _, o, g1, g2, _⟩ := (show ObjOk X.prog X.w H s.heap a (.tup xs) from I.hok a _ ea)
    exact ⟨_, PySem.W.kitx_tuple, ⟨o, g1, g2⟩, fun z => nomatch z⟩
  | @dK a kvs ea =>
    cases (show u = Value.ref a from rx)
    obtain ⟨_, _, vs, _, o, es, ep, g1, g2, _⟩ := (show ObjOk X.prog X.w H s.heap a (.dK kvs) from I.hok a _ ea)
    exact ⟨_, PySem.W.kitx_dict, ⟨o, g1, g2.1⟩, fun z => nomatch z⟩
  | @dT a kvs ea =>
    cases (show u = Value.ref a from rx)
    obtain ⟨_, _, xs, _, o, es, ep, g1, g2, _⟩ := (show ObjOk X.prog X.w H s.heap a (.dT kvs) from I.hok a _ ea)
    exact ⟨_, PySem.W.kitx_dict, ⟨o, g1, g2.1⟩, fun z => nomatch z⟩
  | @ins a C dx fs ea cl ha hn htk hm =>
    cases (show u = Value.ref a from rx)
    obtain ⟨mA, O, _⟩ := ins_get I.hok ea
    obtain ⟨od, J, _⟩ := O.look
    exact ⟨_, PySem.W.kitx_own (cl.get _) cl.hd ha hn htk hm, J, fun z => nomatch z⟩
def rIsiT (K : PySem.W.Frag) (ns : List String) : List V → Hp → VK → Prop := fun xs H Q => ∃ x T t b, xs = [x, .ref T] ∧ H T = some (.tup (ns.map V.ty)) ∧ TyOf K H x t ∧ PySem.W.kitAny K t (ns.map Value.type) = some b ∧ Q (.bl b) H
theorem vals_ty : ∀ {ns : List String} {us : List Value}, Vals (ns.map V.ty) us → us = ns.map Value.type
  | [], _, .nil => rfl
  | n :: ns, _, .cons r t => by
    rw [vals_ty t]
    cases (show _ = Value.type n from r)
    rfl
theorem call_isiT (ns : List String) : CallR X (.builtin "isinstance") (rIsiT X.K ns) := by
  intro pins s σ H xs us Q I r h
  obtain ⟨x, T, t, b, rfl, hT, ty, e, q⟩ := h
  cases r with
  | cons rx rest =>
  obtain ⟨u, rfl, ru⟩ := Vals.one rest
  cases ru
  obtain ⟨G, Z, g, ne⟩ := tyKit I rx ty
  obtain ⟨_, its, rv, ⟨cl, dd, dt, sl⟩, g1, g2, n, g3⟩ := (show ObjOk X.prog X.w H s.heap T (.tup (ns.map V.ty)) from I.hok T _ hT)
  have g2' : cl = .type "tuple" := g2
  have g3' : dt = .seq its.toArray n := g3
  subst g2' g3'
  exact PySem.W.kia_tup Z I.kIn g g1 (by rw [vals_ty rv]; exact e) ne fun tk => ⟨.bl b, H, I.tok _, rfl, q⟩
end
end L2

set_option Elab.async false
set_option linter.all false
set_option maxRecDepth 100000
set_option maxHeartbeats 1000000
namespace L2
open PySem PySem.Spec PyProof.Rows
/-! ### a class of the text that is called with keywords, defaults left out -/
/-- where a parameter's value comes from: the i-th argument, the j-th keyword, the j-th default -/
inductive Bi where
  | p (i : Nat)
  | k (j : Nat)
  | d (j : Nat) (v : V)
def Bi.val (ds us ws : List Value) : Bi → Value
  | .p i => us.getD i .none
  | .k j => ws.getD j .none
  | .d j _ => ds.getD j .none
def Bi.vv (vs zs : List V) : Bi → V
  | .p i => vs.getD i .non
  | .k j => zs.getD j .non
  | .d _ v => v
def Bi.ok (ds : List Value) : Bi → Prop
  | .d j v => RelV v (ds.getD j .none)
  | _ => True
theorem vals_getD {vs : List V} {us : List Value} (r : Vals vs us) (i : Nat) : RelV (vs.getD i .non) (us.getD i .none) := by
  rw [List.getD_eq_getElem?_getD, List.getD_eq_getElem?_getD]
  cases h : vs[i]? with
  | none =>
    have : us[i]? = none := by
      rw [List.getElem?_eq_none_iff] at h ⊢
      have := r.length
      omega
    rw [this]
    rfl
  | some x =>
    obtain ⟨u, hu, ru⟩ := r.get h
    rw [hu]
    exact ru
theorem bi_vals {ds us ws : List Value} {vs zs : List V} (r : Vals vs us) (rz : Vals zs ws) : ∀ {T : List Bi}, (∀ b ∈ T, b.ok ds) → Vals (T.map (Bi.vv vs zs)) (T.map (Bi.val ds us ws))
  | [], _ => .nil
  | b :: T, h => by
    refine .cons ?_ (bi_vals r rz fun c hc => h c (List.mem_cons_of_mem _ hc))
    have hb := h b List.mem_cons_self
    cases b with
    | p i => exact vals_getD r i
    | k j => exact vals_getD rz j
    | d j v => exact hb
/-- np arguments behind self, the keywords ks: the parameters get T -/
structure BT (K : PySem.W.Frag) (fd : FuncData) (ps : List Str) (np : Nat) (ks : List Str) (T : List Bi) : Prop where
  ex : ∃ ds : List Value, (∀ b ∈ T, b.ok ds) ∧ ∀ (s : Shared) (self : Value) (us ws : List Value), K.In s.heap → us.length = np → ws.length = ks.length → BindsTo s fd ⟨self :: us, ks.zip ws⟩ (ps.zip (self :: T.map (Bi.val ds us ws)))
theorem bt_mk {K : PySem.W.Frag} {fd : FuncData} {ps : List Str} {np : Nat} {ks : List Str} {T : List Bi} {A : Addr} {o : Obj} {items : List Value} {n : Nat} (hd : fd.defaults = .ref A) (ho : K.lookup A = some o) (hs : o.data = .seq items.toArray n) (hok : ∀ b ∈ T, b.ok items)
    (hb : ∀ (self : Value) (us ws : List Value), us.length = np → ws.length = ks.length → ∃ k, bindArgs fd ⟨self :: us, ks.zip ws⟩ = seqItems? fd.defaults >>= k ∧ k (some items.toArray) = pure (ps.zip (self :: T.map (Bi.val items us ws)))) : BT K fd ps np ks T :=
  ⟨items, hok, fun s self us ws X h1 h2 => let ⟨_, a, b⟩ := hb self us ws h1 h2; PySem.W.binds_K X hd ho hs a b⟩
def okAll (ds : List Value) : List Bi → Prop
  | [] => True
  | b :: T => b.ok ds ∧ okAll ds T
theorem okAll_mem {ds : List Value} : ∀ {T : List Bi}, okAll ds T → ∀ b ∈ T, b.ok ds
  | [], _, b, hb => by cases hb
  | c :: T, h, b, hb => by
    rcases List.mem_cons.mp hb with rfl | hb
    · exact h.1
    · exact okAll_mem h.2 b hb
theorem bt_mk' {K : PySem.W.Frag} {fd : FuncData} {ps : List Str} {np : Nat} {ks : List Str} {T : List Bi} {A : Addr} {o : Obj} {items : List Value} {n : Nat} (hd : fd.defaults = .ref A) (ho : K.lookup A = some o) (hs : o.data = .seq items.toArray n) (hok : okAll items T)
    (hb : ∀ (self : Value) (us ws : List Value), us.length = np → ws.length = ks.length → ∃ k, bindArgs fd ⟨self :: us, ks.zip ws⟩ = seqItems? fd.defaults >>= k ∧ k (some items.toArray) = pure (ps.zip (self :: T.map (Bi.val items us ws)))) : BT K fd ps np ks T :=
  bt_mk hd ho hs (okAll_mem hok) hb
structure FunD (K : PySem.W.Frag) (x qual : Str) (st : Stmt) (f : Addr) (fd : FuncData) : Prop where
  ex : ∃ (oc : Value) (od : Option Addr) (dV kV doc pm : Value) (an : Option Addr) (cdv ct : Value) (osl : Array (Option Value)),
    fd = PySem.W.fnOf x qual (defArgs st) (defBody st) (defScope st) dV kV doc pm an cdv ct ∧ K.lookup f = some ⟨oc, od, .func fd, osl⟩ ∧ PySem.W.codeIn K cdv qual = true
section
variable {P : Program} {w : World} {K : PySem.W.Frag} {mg : Str → Option Value} {base : Heap}
theorem FunD.ok {x qual : Str} {st : Stmt} {f : Addr} {fd : FuncData} {N ps : List Str} {k : Nat} {sp : Sp} (F : FunD K x qual st f fd) (S : FnScope N ps (defScope st)) (len : ∀ vs H Q E, sp vs H Q E → vs.length = ps.length)
    (hbody : ∀ (cdv : Value) (A : Around) (outer : List Env) (s : Shared) (H : Hp) (vs : List V) (Q : VK) (E : XK), Room k (A.deeper (envOfC qual (defScope st) s.heap.objs.size f cdv)) → sp vs H Q E →
      ∃ t, PSs (cxOf CX0 P w K mg base N qual (defScope st) f cdv A outer s H E).nox (defBody st) t ∧ t { nx := fun _ H' => Q .non H', rt := Q } (start N vs) H) : FnOk P w K mg base CX0 (k + 1) f fd ps sp := by
  obtain ⟨oc, od, dV, kV, doc, pm, an, cdv, ct, osl, rfl, lk, hcd⟩ := F.ex
  refine fn_of lk hcd S len fun A outer s H vs Q E hr hsp => ?_
  obtain ⟨t, h, q⟩ := hbody cdv A outer s H vs Q E hr hsp
  exact ⟨t, h.nox, q⟩
end
/-- the __init__ of a class that is called, and how its calls bind -/
structure IDefB (K : PySem.W.Frag) (C : Addr) (qual : Str) (st : Stmt) (Bs : PySem.W.Frag → FuncData → Prop) : Prop where
  ex : ∃ f fd, Mk K C f ∧ FunD K "__init__" qual st f fd ∧ Bs K fd
theorem initB_mk {K : PySem.W.Frag} {C : Addr} {qual : Str} {st : Stmt} {Bs : PySem.W.Frag → FuncData → Prop} {f : Addr} {oc : Value} {od an : Option Addr} {osl : Array (Option Value)} {dV kV doc pm cdv ct : Value}
    (a : PySem.W.findIn K (.ref C) "__init__" = some (some (.ref f))) (n : PySem.W.isFn K (.ref f) = true) (l : K.lookup f = some ⟨oc, od, .func (PySem.W.fnOf "__init__" qual (defArgs st) (defBody st) (defScope st) dV kV doc pm an cdv ct), osl⟩) (c : PySem.W.codeIn K cdv qual = true)
    (mk : PySem.W.makesIn K C = true) (kC : PySem.W.keepIn K (.ref C) = true) (b : Bs K (PySem.W.fnOf "__init__" qual (defArgs st) (defBody st) (defScope st) dV kV doc pm an cdv ct)) : IDefB K C qual st Bs :=
  ⟨⟨f, _, ⟨mk, a, n, kC⟩, ⟨⟨oc, od, dV, kV, doc, pm, an, cdv, ct, osl, rfl, l, c⟩⟩, b⟩⟩
def KnowsIB (CX : CXT) (P : Program) (w : World) (K : PySem.W.Frag) (mg : Str → Option Value) (base : Heap) (k : Nat) (C : Addr) (ps : List Str) (sp : Sp) (Bs : PySem.W.Frag → FuncData → Prop) : Prop :=
  ∃ f fd, Mk K C f ∧ Bs K fd ∧ FnOk P w K mg base CX k f fd ps sp
theorem IDefB.knows {P : Program} {w : World} {K : PySem.W.Frag} {mg : Str → Option Value} {base : Heap} {C : Addr} {CX : CXT} {qual : Str} {st : Stmt} {ps : List Str} {k : Nat} {sp : Sp} {Bs : PySem.W.Frag → FuncData → Prop} (D : IDefB K C qual st Bs)
    (h : ∀ f fd, FunD K "__init__" qual st f fd → FnOk P w K mg base CX k f fd ps sp) : KnowsIB CX P w K mg base k C ps sp Bs := by
  obtain ⟨f, fd, hm, F, hb⟩ := D.ex
  exact ⟨f, fd, hm, hb, h f fd F⟩
def tMakeB (C : Addr) (sp : Sp) (np nk : Nat) (T : List Bi) (E : XK) (t tk : TA) : TE := fun σ H Q => t σ H fun vs H1 => tk σ H1 fun zs H2 => vs.length = np ∧ zs.length = nk ∧
  ∀ x dx, H2 x = none → H2 dx = none → dx ≠ x → sp (.ref x :: T.map (Bi.vv vs zs)) (upd (upd H2 dx (.own x)) x (.ins C dx [])) (fun v H3 => v = .non ∧ Q (.ref x) H3) E
section
variable {X : Cx} {CX : CXT} {x : Str} {ps ks : List Str} {sp : Sp} {j k np : Nat} {T : List Bi} {e : Expr} {es : List Expr} {kws : List Keyword} {t tk : TA} {p pos : Pos} {E : XK} {C f : Addr} {fd : FuncData} {Bs : PySem.W.Frag → FuncData → Prop}
theorem run_makeB {pins : List (Addr × Obj)} {σ : St} {H : Hp} {s : Shared} {Q : VK} {us ws : List Value} {vs zs : List V} (M : Mk X.K C f) (F : FnOk X.prog X.w X.K X.mg X.base CX k f fd ps sp) (hr : Room (k + 1) X.A) (hb : BT X.K fd ps np ks T)
    (hx : Passes CX X E) (I : Inv X pins σ H s) (r : Vals vs us) (rz : Vals zs ws) (l1 : vs.length = np) (l2 : zs.length = ks.length)
    (h : ∀ x dx, H x = none → H dx = none → dx ≠ x → sp (.ref x :: T.map (Bi.vv vs zs)) (upd (upd H dx (.own x)) x (.ins C dx [])) (fun v H2 => v = .non ∧ Q (.ref x) H2) E) :
    wpAny (model X.prog X.w) X.A (call (.ref C) us (ks.zip ws)) (EP X pins σ Q) X.xe s := by
  have hq := h (s.heap.objs.size + 1) s.heap.objs.size (I.hok.fresh (Nat.le_succ _)) (I.hok.fresh (Nat.le_refl _)) (Nat.ne_of_lt (Nat.lt_succ_self _))
  have I2 := Inv.made (C := C) I
  obtain ⟨ds, ok, bt⟩ := hb.ex
  have r2 : Vals (V.ref (s.heap.objs.size + 1) :: T.map (Bi.vv vs zs)) (Value.ref (s.heap.objs.size + 1) :: T.map (Bi.val ds us ws)) := .cons rfl (bi_vals r rz ok)
  refine wpAny_call (make_map (f := f) (vs := us) (kw := ks.zip ws) I.kIn M.makes M.init (beq_iff_eq.mp M.fn) (codeAny_mono (F.run _ X.stack _ _ ⟨Value.ref (s.heap.objs.size + 1) :: us, ks.zip ws⟩ (Value.ref (s.heap.objs.size + 1) :: T.map (Bi.val ds us ws)) _ _ E (hr.make C us _)
    (I2.env0.make C us _) (bt _ _ us ws I2.kIn (by rw [← r.length]; exact l1) (by rw [← rz.length]; exact l2)) r2 hq) fun r s' hq' => ?_))
  cases r with
  | error e => exact hx pins σ _ _ e s' I2 hq'
  | ok fl =>
    cases fl with
    | ret u =>
      obtain ⟨v, H', I3, rv, ev, q3⟩ := I2.after hq'
      subst ev
      exact ⟨rv, ⟨V.ref (s.heap.objs.size + 1), H', I3, rfl, q3⟩⟩
    | next => exact False.elim hq'
    | brk => exact False.elim hq'
    | cont => exact False.elim hq'
theorem pe_makeB (F : KnowsIB CX X.prog X.w X.K X.mg X.base j C ps sp Bs) (sel : ∀ fd, Bs X.K fd → BT X.K fd ps np ks T) (hr : Room k X.A) (hm : X.mg x = some (.ref C)) (hx : Passes CX X E) (ha : PA X (e :: es) t) (hkw : PK X kws tk) (hjk : j + 1 ≤ k := by decide) (hg : Gl X x := by rfl)
    (hall : (backToKw pos (keywordEach kws X.env)).all (·.1.isSome) = true := by rfl) (hks : (backToKw pos (keywordEach kws X.env)).filterMap (·.1) = ks := by rfl) (hdb : (x == ("__debug__" : Str)) = false := by decide) (he : notStar e = true := by rfl)
    (hpl : ((backTo pos (starEach (e :: es) X.env)).any (·.1) || (backToKw pos (keywordEach kws X.env)).any (·.1.isNone)) = false := by rfl) :
    PE X (.Call (.Name x p) (e :: es) kws pos) (tMakeB C sp np ks.length T E t tk) := by
  obtain ⟨f, fd, M, hB, F⟩ := F
  have hb := sel fd hB
  intro pins s σ H Q I h
  refine wpAny_Call_Name_kw (ld_glob I hg hm ?_ hdb)
  refine PySem.W.callWith_KW (h₀ := X.base) I.ok.mod.kin M.kp hall (thn (ha pos pins s σ H _ I h) fun us s1 ⟨vs, H1, I1, r, q⟩ => ?_) hpl (star_cons he)
  refine thn (hkw pos pins s1 σ H1 _ I1 q) fun ws s2 ⟨zs, H2, I2, rz, l1, l2, q2⟩ => ⟨I2.kIn, ?_⟩
  rw [hks]
  exact run_makeB M F (hr.mono hjk) hb hx I2 r rz l1 l2 q2
end
end L2

set_option Elab.async false
set_option linter.all false
set_option maxRecDepth 100000
set_option maxHeartbeats 3200000
namespace L2
open PySem PySem.Spec PyProof.Rows
/-! ### dict(l), l a list of pairs -/
section
variable {P : Program} {w : World} {A : Around} {E : Value → Shared → Prop} {s : Shared}
end
namespace F
end F
section
variable {P : Program} {w : World} {A : Around} {R : Result → Shared → Prop} {I : Addr} {fp wr : List Addr} {G : Array GenState → Array GenState → Prop} {n : Nat} {Pr : Nat → Value → Prop} {St : Nat → Shared → Prop}
end
section
variable {P : Program} {w : World} {A : Around} {E : Value → Shared → Prop} {s : Shared}
end
section
variable {X : Cx}
end
end L2

set_option Elab.async false
set_option linter.all false
set_option maxRecDepth 100000
set_option maxHeartbeats 1000000
namespace L2
open PySem PySem.Spec PyProof.Rows
section
variable {X : Cx}
end
/-! ### isinstance(x, C), C a class of the text -/
section
variable {X : Cx} {pins : List (Addr × Obj)} {σ : St} {H : Hp} {s : Shared}
def rIsiO (K : PySem.W.Frag) (C : Addr) : List V → Hp → VK → Prop := fun xs H Q => ∃ x t b, xs = [x, .ref C] ∧ TyOf K H x t ∧ PySem.W.kitOne K t (.ref C) = some b ∧ Q (.bl b) H
theorem call_isiO (C : Addr) : CallR X (.builtin "isinstance") (rIsiO X.K C) := by
  intro pins s σ H xs us Q I r h
  obtain ⟨x, t, b, rfl, ty, e, q⟩ := h
  cases r with
  | cons rx rest =>
  obtain ⟨u, rfl, ru⟩ := Vals.one rest
  cases ru
  exact isinst_ok I rx ty e fun tk => ⟨.bl b, H, I.tok _, rfl, q⟩
end
end L2

set_option Elab.async false
set_option linter.all false
set_option maxRecDepth 100000
namespace L2
open PySem PySem.Spec PyProof.Rows
end L2

set_option Elab.async false
set_option linter.all false
set_option maxRecDepth 100000
namespace L2
open PySem PySem.Spec PyProof.Rows
/-! ### a method of an object whose class is one of some -/
def KnowsD (CX : CXT) (P : Program) (w : World) (K : PySem.W.Frag) (mg : Str → Option Value) (base : Heap) {ι : Type} (k : Nat) (c : ι → Addr) (m : Str) (ps : List Str) (sp : ι → Sp) : Prop :=
  ∀ i, KnowsM CX P w K mg base k (c i) m ps (sp i) ∧ Cls K (c i)
def tMethD {ι : Type} (c : ι → Addr) (m : Str) (sp : ι → Sp) (E : XK) (ta : TE) (t : TA) : TE := fun σ H Q => ta σ H fun x H1 => ∃ a i dx fs, x = .ref a ∧ H1 a = some (.ins (c i) dx fs) ∧ fs.lookup m = none ∧ t σ H1 fun vs H2 => sp i (x :: vs) H2 Q E
section
variable {X : Cx} {CX : CXT} {ι : Type} {c : ι → Addr} {m : Str} {ps : List Str} {sp : ι → Sp} {j k : Nat} {o e : Expr} {es : List Expr} {ta : TE} {t : TA} {apos pos : Pos} {E : XK}
theorem pe_methD0 {pl : Sem Bool} (F : KnowsD CX X.prog X.w X.K X.mg X.base j c m ps sp) (hr : Room k X.A) (hx : Passes CX X E) (ho : PE X o ta) (hjk : j ≤ k := by decide)
    (ht : eval (.Call (.Attribute o m apos) [] [] pos) X.env = (do
      let ov ← eval o X.env
      standAt apos.atName
      let (f, first) ← holding [ov] (getMethod ov m pl)
      callWith pos f first (backTo pos (starEach [] X.env)) (backToKw pos (keywordEach [] X.env))) := by rfl) : PE X (.Call (.Attribute o m apos) [] [] pos) (tMethD c m sp E ta tNil) := by
  intro pins s σ H Q I h
  refine PySem.W.methodCall_KW (pl := pl) (thn (ho pins s σ H _ I h) fun u s1 ⟨x, H1, I1, rx, a, i, dx, fs, ex, ea, l, q⟩ => ?_) ht
  subst ex
  obtain rfl : u = Value.ref a := rx
  obtain ⟨⟨f, fd, hm, hb, G⟩, cl⟩ := F i
  refine getmeth_ok I1 ea cl hm l ?_
  exact PySem.W.callWith_K0 (first := [.ref a]) I1.kIn hm.kp (run_fn (us := [.ref a]) (vs := [.ref a]) (dvs := []) (ds := []) G (hr.mono hjk) hb .nil hx I1 (.cons rfl .nil) q)
end
/-! ### a comprehension over a list of pairs, with a test -/
theorem pe_comp2F {X : Cx} {elt iter : Expr} {x y : Str} {px py ptt pos : Pos} {kk : Nat} {ifs : List Expr} {scope : Scope} {wi : TI} {tc : TT} {te : TE} (js : List Nat) (N' : List Str) (hc : X.calm = true)
    (hi : PI X (.Tuple [.Name x px, .Name y py] kk ptt) iter wi)
    (ht : ∀ C s₀ H₀ ex, PTs (cxComp X scope N' C s₀ H₀ ex) ifs tc)
    (he : ∀ C s₀ H₀ ex, PE (cxComp X scope N' C s₀ H₀ ex) elt te)
    (nd : N'.Nodup := by decide +kernel)
    (hx : scope.names.lookup x = some .local := by rfl) (hy : scope.names.lookup y = some .local := by rfl)
    (hN' : N' = [x, y] ++ js.map fun j => X.N.getD j Str.empty := by rfl)
    (hk : scope.kind = .function := by rfl)
    (hcell : ∀ y ∈ scope.names, y.2 ≠ .cell := by decide +kernel)
    (hnames : ∀ y ∈ scope.names, y.2 = .local → scope.names.lookup y.1 = some .local := by decide +kernel)
    (hfr : (scope.names.all fun y => y.2 != .free || X.env.scope.names.lookup y.1 == some .cell) = true := by rfl)
    (hjs : (js.all fun j => scope.names.lookup (X.N.getD j Str.empty) == some .free && (X.N[j]?).isSome) = true := by rfl)
    (hs : ∀ z, foldedSetIterable iter X.env z = pure z := by intro _; rfl) :
    PE X (.ListComp elt [⟨.Tuple [.Name x px, .Name y py] kk ptt, iter, ifs, 0⟩] scope pos) (tComp 2 js wi (gTup X.K 2 (gCons (gName 0) (gCons (gName 1) gNil))) tc te) :=
  pe_comp [x, y] js N' hc hi (fun C s₀ H₀ ex => pg_tupC (X := cxComp X scope N' C s₀ H₀ ex) rfl hc
      (pgs_cons (pg_name (X := cxComp X scope N' C s₀ H₀ ex) (i := 0) nd (by show N'[0]? = some x; rw [hN']; rfl) (Or.inl (lookup_relabel_local hx)) (.inr (lookup_relabel_local hx)))
        (pgs_cons (pg_name (X := cxComp X scope N' C s₀ H₀ ex) (i := 1) nd (by show N'[1]? = some y; rw [hN']; rfl) (Or.inl (lookup_relabel_local hy)) (.inr (lookup_relabel_local hy))) pgs_nil)))
    ht he hN' hk hcell hnames hfr hjs hs
theorem comp2_list {K : PySem.W.Frag} {l : Addr} {js : List Nat} {xs : List V} {σ : St} {H1 : Hp} {tc : TT} {te : TE} {Q : VK} (Pv : Nat → List V → Hp → Prop) (h0 : Pv 0 [] H1) (hP : ∀ i ys H, i ≤ xs.length → Pv i ys H → SqL K H l xs ∧ ys.length ≤ i) (hsz : xs.length ≤ sizeLine)
    (hs : ∀ i x ys H (Nx : List V → Hp → Prop), xs[i]? = some x → Pv i ys H → (∀ ys' H', Pv (i + 1) ys' H' → Nx ys' H') → ∃ T u v, x = .ref T ∧ SqT K H T [u, v] ∧ tc (some u :: some v :: caps σ js) H fun b H3 => if b = true then te (some u :: some v :: caps σ js) H3 fun y H4 => Nx (ys ++ [y]) H4 else Nx ys H3)
    (hd : ∀ ys H, Pv xs.length ys H → ∀ D, H D = none → Q (.ref D) (upd H D (.lst ys))) :
    tCompB 2 js (gTup K 2 (gCons (gName 0) (gCons (gName 1) gNil))) tc te σ Q (Itl K l) H1 := by
  have wk := wk_list K l xs
  refine ⟨fun i m ys H => m = xs.length - i ∧ i ≤ xs.length ∧ Pv i ys H, ⟨xs.length, by simp, Nat.zero_le _, h0⟩, ?_⟩
  rintro i m ys H ⟨rfl, hi, p⟩
  obtain ⟨q, hl⟩ := hP i ys H hi p
  by_cases hlt : i < xs.length
  · refine .inr ⟨wk.go i H hlt q, by omega, fun x H' y os hos => ?_⟩
    obtain ⟨e, y2⟩ := wk.yld i H x H' q y
    subst e
    obtain ⟨T, u, v, rfl, ht, hh⟩ := hs i x ys _ (fun ys' H' => ∃ m', m' < xs.length - i ∧ m' = xs.length - (i + 1) ∧ i + 1 ≤ xs.length ∧ Pv (i + 1) ys' H') (y2 hlt) p fun ys' H' p' => ⟨xs.length - (i + 1), by omega, rfl, hlt, p'⟩
    match os, hos with
    | [o0, o1], _ =>
      exact ⟨T, _, rfl, ht, rfl, _, _, rfl, _, _, rfl, rfl, ⟨[some u, some v], rfl, rfl⟩, hh⟩
  · have e : i = xs.length := by omega
    subst e
    exact .inl ⟨wk.stop H q, by omega, hd ys H p⟩
end L2

set_option Elab.async false
set_option linter.all false
set_option maxRecDepth 100000
namespace WM
open PySem PySem.StrLaws

end WM

set_option Elab.async false
set_option linter.all false
set_option maxRecDepth 100000
namespace K12
open PySem L2
def top (i : Nat) : Stmt := PySem.Challenge.pw_buildhall_k12_states_step_by_step.main.body.getD i (.Pass ⟨0, 0, 0, 0⟩)
abbrev s_is_whole : Stmt := top 9
abbrev n_is_whole : List Str := ["thing"]
theorem sc_is_whole : FnScope n_is_whole ["thing"] (defScope s_is_whole) := ⟨rfl, rfl, rfl, by decide +kernel, rfl, by decide +kernel, by decide +kernel⟩
abbrev s_is_among : Stmt := top 10
abbrev n_is_among : List Str := ["thing", "least", "most"]
theorem sc_is_among : FnScope n_is_among ["thing", "least", "most"] (defScope s_is_among) := ⟨rfl, rfl, rfl, by decide +kernel, rfl, by decide +kernel, by decide +kernel⟩
abbrev s_is_made_of : Stmt := top 11
abbrev n_is_made_of : List Str := ["thing", "signs", "most"]
theorem sc_is_made_of : FnScope n_is_made_of ["thing", "signs", "most"] (defScope s_is_made_of) := ⟨rfl, rfl, rfl, by decide +kernel, rfl, by decide +kernel, by decide +kernel⟩
abbrev s_is_name : Stmt := top 12
abbrev n_is_name : List Str := ["thing"]
theorem sc_is_name : FnScope n_is_name ["thing"] (defScope s_is_name) := ⟨rfl, rfl, rfl, by decide +kernel, rfl, by decide +kernel, by decide +kernel⟩
abbrev s_wait_after : Stmt := top 15
abbrev n_wait_after : List Str := ["job", "fails", "wait", "behind"]
theorem sc_wait_after : FnScope n_wait_after ["job", "fails"] (defScope s_wait_after) := ⟨rfl, rfl, rfl, by decide +kernel, rfl, by decide +kernel, by decide +kernel⟩
abbrev s_grown : Stmt := top 16
abbrev n_grown : List Str := ["job", "wait"]
theorem sc_grown : FnScope n_grown ["job", "wait"] (defScope s_grown) := ⟨rfl, rfl, rfl, by decide +kernel, rfl, by decide +kernel, by decide +kernel⟩
abbrev s_State_word : Stmt := inClass (top 18) 0
abbrev n_State_word : List Str := ["self"]
theorem sc_State_word : FnScope n_State_word ["self"] (defScope s_State_word) := ⟨rfl, rfl, rfl, by decide +kernel, rfl, by decide +kernel, by decide +kernel⟩
abbrev s_State_is_over : Stmt := inClass (top 18) 1
abbrev n_State_is_over : List Str := ["self"]
theorem sc_State_is_over : FnScope n_State_is_over ["self"] (defScope s_State_is_over) := ⟨rfl, rfl, rfl, by decide +kernel, rfl, by decide +kernel, by decide +kernel⟩
abbrev s_State_count_fails : Stmt := inClass (top 18) 2
abbrev n_State_count_fails : List Str := ["self"]
theorem sc_State_count_fails : FnScope n_State_count_fails ["self"] (defScope s_State_count_fails) := ⟨rfl, rfl, rfl, by decide +kernel, rfl, by decide +kernel, by decide +kernel⟩
abbrev s_Over_is_over : Stmt := inClass (top 20) 0
abbrev n_Over_is_over : List Str := ["self"]
theorem sc_Over_is_over : FnScope n_Over_is_over ["self"] (defScope s_Over_is_over) := ⟨rfl, rfl, rfl, by decide +kernel, rfl, by decide +kernel, by decide +kernel⟩
abbrev s_Blocked___init__ : Stmt := inClass (top 21) 0
abbrev n_Blocked___init__ : List Str := ["self", "left"]
theorem sc_Blocked___init__ : FnScope n_Blocked___init__ ["self", "left"] (defScope s_Blocked___init__) := ⟨rfl, rfl, rfl, by decide +kernel, rfl, by decide +kernel, by decide +kernel⟩
abbrev s_Blocked_told : Stmt := inClass (top 21) 1
abbrev n_Blocked_told : List Str := ["self"]
theorem sc_Blocked_told : FnScope n_Blocked_told ["self"] (defScope s_Blocked_told) := ⟨rfl, rfl, rfl, by decide +kernel, rfl, by decide +kernel, by decide +kernel⟩
abbrev s_Blocked_freed : Stmt := inClass (top 21) 2
abbrev n_Blocked_freed : List Str := ["self"]
theorem sc_Blocked_freed : FnScope n_Blocked_freed ["self"] (defScope s_Blocked_freed) := ⟨rfl, rfl, rfl, by decide +kernel, rfl, by decide +kernel, by decide +kernel⟩
abbrev s_Blocked_cut_off : Stmt := inClass (top 21) 3
abbrev n_Blocked_cut_off : List Str := ["self", "need"]
theorem sc_Blocked_cut_off : FnScope n_Blocked_cut_off ["self", "need"] (defScope s_Blocked_cut_off) := ⟨rfl, rfl, rfl, by decide +kernel, rfl, by decide +kernel, by decide +kernel⟩
abbrev s_Ready___init__ : Stmt := inClass (top 22) 0
abbrev n_Ready___init__ : List Str := ["self", "fails"]
theorem sc_Ready___init__ : FnScope n_Ready___init__ ["self", "fails"] (defScope s_Ready___init__) := ⟨rfl, rfl, rfl, by decide +kernel, rfl, by decide +kernel, by decide +kernel⟩
abbrev s_Ready_count_fails : Stmt := inClass (top 22) 1
abbrev n_Ready_count_fails : List Str := ["self"]
theorem sc_Ready_count_fails : FnScope n_Ready_count_fails ["self"] (defScope s_Ready_count_fails) := ⟨rfl, rfl, rfl, by decide +kernel, rfl, by decide +kernel, by decide +kernel⟩
abbrev s_Ready_told : Stmt := inClass (top 22) 2
abbrev n_Ready_told : List Str := ["self"]
theorem sc_Ready_told : FnScope n_Ready_told ["self"] (defScope s_Ready_told) := ⟨rfl, rfl, rfl, by decide +kernel, rfl, by decide +kernel, by decide +kernel⟩
abbrev s_Ready_leased : Stmt := inClass (top 22) 3
abbrev n_Ready_leased : List Str := ["self", "number"]
theorem sc_Ready_leased : FnScope n_Ready_leased ["self", "number"] (defScope s_Ready_leased) := ⟨rfl, rfl, rfl, by decide +kernel, rfl, by decide +kernel, by decide +kernel⟩
abbrev s_Leased___init__ : Stmt := inClass (top 23) 0
abbrev n_Leased___init__ : List Str := ["self", "fails", "number"]
theorem sc_Leased___init__ : FnScope n_Leased___init__ ["self", "fails", "number"] (defScope s_Leased___init__) := ⟨rfl, rfl, rfl, by decide +kernel, rfl, by decide +kernel, by decide +kernel⟩
abbrev s_Leased_count_fails : Stmt := inClass (top 23) 1
abbrev n_Leased_count_fails : List Str := ["self"]
theorem sc_Leased_count_fails : FnScope n_Leased_count_fails ["self"] (defScope s_Leased_count_fails) := ⟨rfl, rfl, rfl, by decide +kernel, rfl, by decide +kernel, by decide +kernel⟩
abbrev s_Leased_told : Stmt := inClass (top 23) 2
abbrev n_Leased_told : List Str := ["self"]
theorem sc_Leased_told : FnScope n_Leased_told ["self"] (defScope s_Leased_told) := ⟨rfl, rfl, rfl, by decide +kernel, rfl, by decide +kernel, by decide +kernel⟩
abbrev s_Leased_ended : Stmt := inClass (top 23) 3
abbrev n_Leased_ended : List Str := ["self", "turn"]
theorem sc_Leased_ended : FnScope n_Leased_ended ["self", "turn"] (defScope s_Leased_ended) := ⟨rfl, rfl, rfl, by decide +kernel, rfl, by decide +kernel, by decide +kernel⟩
abbrev s_Leased_failed : Stmt := inClass (top 23) 4
abbrev n_Leased_failed : List Str := ["self", "job", "turn", "why", "fails", "wait"]
theorem sc_Leased_failed : FnScope n_Leased_failed ["self", "job", "turn", "why"] (defScope s_Leased_failed) := ⟨rfl, rfl, rfl, by decide +kernel, rfl, by decide +kernel, by decide +kernel⟩
abbrev s_Resting___init__ : Stmt := inClass (top 24) 0
abbrev n_Resting___init__ : List Str := ["self", "fails", "until"]
theorem sc_Resting___init__ : FnScope n_Resting___init__ ["self", "fails", "until"] (defScope s_Resting___init__) := ⟨rfl, rfl, rfl, by decide +kernel, rfl, by decide +kernel, by decide +kernel⟩
abbrev s_Resting_count_fails : Stmt := inClass (top 24) 1
abbrev n_Resting_count_fails : List Str := ["self"]
theorem sc_Resting_count_fails : FnScope n_Resting_count_fails ["self"] (defScope s_Resting_count_fails) := ⟨rfl, rfl, rfl, by decide +kernel, rfl, by decide +kernel, by decide +kernel⟩
abbrev s_Resting_told : Stmt := inClass (top 24) 2
abbrev n_Resting_told : List Str := ["self"]
theorem sc_Resting_told : FnScope n_Resting_told ["self"] (defScope s_Resting_told) := ⟨rfl, rfl, rfl, by decide +kernel, rfl, by decide +kernel, by decide +kernel⟩
abbrev s_Resting_rested : Stmt := inClass (top 24) 3
abbrev n_Resting_rested : List Str := ["self"]
theorem sc_Resting_rested : FnScope n_Resting_rested ["self"] (defScope s_Resting_rested) := ⟨rfl, rfl, rfl, by decide +kernel, rfl, by decide +kernel, by decide +kernel⟩
abbrev s_Done___init__ : Stmt := inClass (top 25) 0
abbrev n_Done___init__ : List Str := ["self", "fails", "number", "turn"]
theorem sc_Done___init__ : FnScope n_Done___init__ ["self", "fails", "number", "turn"] (defScope s_Done___init__) := ⟨rfl, rfl, rfl, by decide +kernel, rfl, by decide +kernel, by decide +kernel⟩
abbrev s_Done_count_fails : Stmt := inClass (top 25) 1
abbrev n_Done_count_fails : List Str := ["self"]
theorem sc_Done_count_fails : FnScope n_Done_count_fails ["self"] (defScope s_Done_count_fails) := ⟨rfl, rfl, rfl, by decide +kernel, rfl, by decide +kernel, by decide +kernel⟩
abbrev s_Done_told : Stmt := inClass (top 25) 2
abbrev n_Done_told : List Str := ["self"]
theorem sc_Done_told : FnScope n_Done_told ["self"] (defScope s_Done_told) := ⟨rfl, rfl, rfl, by decide +kernel, rfl, by decide +kernel, by decide +kernel⟩
abbrev s_Broken___init__ : Stmt := inClass (top 26) 0
abbrev n_Broken___init__ : List Str := ["self", "fails", "why"]
theorem sc_Broken___init__ : FnScope n_Broken___init__ ["self", "fails", "why"] (defScope s_Broken___init__) := ⟨rfl, rfl, rfl, by decide +kernel, rfl, by decide +kernel, by decide +kernel⟩
abbrev s_Broken_count_fails : Stmt := inClass (top 26) 1
abbrev n_Broken_count_fails : List Str := ["self"]
theorem sc_Broken_count_fails : FnScope n_Broken_count_fails ["self"] (defScope s_Broken_count_fails) := ⟨rfl, rfl, rfl, by decide +kernel, rfl, by decide +kernel, by decide +kernel⟩
abbrev s_Broken_told : Stmt := inClass (top 26) 2
abbrev n_Broken_told : List Str := ["self"]
theorem sc_Broken_told : FnScope n_Broken_told ["self"] (defScope s_Broken_told) := ⟨rfl, rfl, rfl, by decide +kernel, rfl, by decide +kernel, by decide +kernel⟩
abbrev s_Cut___init__ : Stmt := inClass (top 27) 0
abbrev n_Cut___init__ : List Str := ["self", "need"]
theorem sc_Cut___init__ : FnScope n_Cut___init__ ["self", "need"] (defScope s_Cut___init__) := ⟨rfl, rfl, rfl, by decide +kernel, rfl, by decide +kernel, by decide +kernel⟩
abbrev s_Cut_told : Stmt := inClass (top 27) 1
abbrev n_Cut_told : List Str := ["self"]
theorem sc_Cut_told : FnScope n_Cut_told ["self"] (defScope s_Cut_told) := ⟨rfl, rfl, rfl, by decide +kernel, rfl, by decide +kernel, by decide +kernel⟩
abbrev s_first_state : Stmt := top 28
abbrev n_first_state : List Str := ["job"]
theorem sc_first_state : FnScope n_first_state ["job"] (defScope s_first_state) := ⟨rfl, rfl, rfl, by decide +kernel, rfl, by decide +kernel, by decide +kernel⟩
abbrev s_Job___init__ : Stmt := inClass (top 32) 0
abbrev n_Job___init__ : List Str := ["self", "name", "needs", "rank", "span", "tries", "wait", "grow"]
theorem sc_Job___init__ : FnScope n_Job___init__ ["self", "name", "needs", "rank", "span", "tries", "wait", "grow"] (defScope s_Job___init__) := ⟨rfl, rfl, rfl, by decide +kernel, rfl, by decide +kernel, by decide +kernel⟩
abbrev s_check_name : Stmt := top 33
abbrev n_check_name : List Str := ["name"]
theorem sc_check_name : FnScope n_check_name ["name"] (defScope s_check_name) := ⟨rfl, rfl, rfl, by decide +kernel, rfl, by decide +kernel, by decide +kernel⟩
abbrev s_check_needs : Stmt := top 34
abbrev n_check_needs : List Str := ["needs", "name"]
theorem sc_check_needs : FnScope n_check_needs ["needs", "name"] (defScope s_check_needs) := ⟨rfl, rfl, rfl, by decide +kernel, rfl, by decide +kernel, by decide +kernel⟩
abbrev s_are_needs : Stmt := top 35
abbrev n_are_needs : List Str := ["needs", "name"]
theorem sc_are_needs : FnScope n_are_needs ["needs", "name"] (defScope s_are_needs) := ⟨rfl, rfl, rfl, by decide +kernel, rfl, by decide +kernel, by decide +kernel⟩
abbrev s_check_numbers : Stmt := top 36
abbrev n_check_numbers : List Str := ["numbers", "part", "number", "word", "least", "most"]
theorem sc_check_numbers : FnScope n_check_numbers ["numbers"] (defScope s_check_numbers) := ⟨rfl, rfl, rfl, by decide +kernel, rfl, by decide +kernel, by decide +kernel⟩
abbrev s__law_cell_at : Stmt := top 38
abbrev n__law_cell_at : List Str := ["_law_script", "_law_k"]
theorem sc__law_cell_at : FnScope n__law_cell_at ["_law_script", "_law_k"] (defScope s__law_cell_at) := ⟨rfl, rfl, rfl, by decide +kernel, rfl, by decide +kernel, by decide +kernel⟩
abbrev s__law_mixed : Stmt := top 39
abbrev n__law_mixed : List Str := ["_law_cell", "_law_k", "_law_number"]
theorem sc__law_mixed : FnScope n__law_mixed ["_law_cell", "_law_k"] (defScope s__law_mixed) := ⟨rfl, rfl, rfl, by decide +kernel, rfl, by decide +kernel, by decide +kernel⟩
abbrev s__law_whole : Stmt := top 40
abbrev n__law_whole : List Str := ["_law_thing"]
theorem sc__law_whole : FnScope n__law_whole ["_law_thing"] (defScope s__law_whole) := ⟨rfl, rfl, rfl, by decide +kernel, rfl, by decide +kernel, by decide +kernel⟩
abbrev s__law_same : Stmt := top 41
abbrev n__law_same : List Str := ["_law_found", "_law_due", "_law_one", "_law_other"]
theorem sc__law_same : FnScope n__law_same ["_law_found", "_law_due"] (defScope s__law_same) := ⟨rfl, rfl, rfl, by decide +kernel, rfl, by decide +kernel, by decide +kernel⟩
abbrev s__law_is : Stmt := top 42
abbrev n__law_is : List Str := ["_law_word", "_law_state", "_law_some"]
theorem sc__law_is : FnScope n__law_is ["_law_word", "_law_state"] (defScope s__law_is) := ⟨rfl, rfl, rfl, by decide +kernel, rfl, by decide +kernel, by decide +kernel⟩
abbrev s__law_over : Stmt := top 43
abbrev n__law_over : List Str := ["_law_state"]
theorem sc__law_over : FnScope n__law_over ["_law_state"] (defScope s__law_over) := ⟨rfl, rfl, rfl, by decide +kernel, rfl, by decide +kernel, by decide +kernel⟩
abbrev s__law_stands : Stmt := top 44
abbrev n__law_stands : List Str := ["_law_state", "_law_due", "_law_cell", "_law_k", "_law_which", "_law_fails"]
theorem sc__law_stands : FnScope n__law_stands ["_law_state", "_law_due", "_law_cell"] (defScope s__law_stands) := ⟨rfl, rfl, rfl, by decide +kernel, rfl, by decide +kernel, by decide +kernel⟩
abbrev s__law_job : Stmt := top 45
abbrev n__law_job : List Str := ["_law_cell", "_law_own", "_law_number", "_law_needs", "_law_tries", "_law_wait", "_law_grow"]
theorem sc__law_job : FnScope n__law_job ["_law_cell", "_law_own"] (defScope s__law_job) := ⟨rfl, rfl, rfl, by decide +kernel, rfl, by decide +kernel, by decide +kernel⟩
abbrev s__law_rest : Stmt := top 46
abbrev n__law_rest : List Str := ["_law_own", "_law_fails", "_law_rest_here", "_law_k"]
theorem sc__law_rest : FnScope n__law_rest ["_law_own", "_law_fails"] (defScope s__law_rest) := ⟨rfl, rfl, rfl, by decide +kernel, rfl, by decide +kernel, by decide +kernel⟩
abbrev s__law_first : Stmt := top 47
abbrev n__law_first : List Str := ["_law_own"]
theorem sc__law_first : FnScope n__law_first ["_law_own"] (defScope s__law_first) := ⟨rfl, rfl, rfl, by decide +kernel, rfl, by decide +kernel, by decide +kernel⟩
abbrev s__law_turn : Stmt := top 48
abbrev n__law_turn : List Str := ["_law_number"]
theorem sc__law_turn : FnScope n__law_turn ["_law_number"] (defScope s__law_turn) := ⟨rfl, rfl, rfl, by decide +kernel, rfl, by decide +kernel, by decide +kernel⟩
abbrev s__law_stepped : Stmt := top 49
abbrev n__law_stepped : List Str := ["_law_state", "_law_job_here", "_law_due", "_law_own", "_law_number", "_law_turn_here", "_law_why", "_law_fails", "_law_found", "_law_rest_here"]
theorem sc__law_stepped : FnScope n__law_stepped ["_law_state", "_law_job_here", "_law_due", "_law_own", "_law_number"] (defScope s__law_stepped) := ⟨rfl, rfl, rfl, by decide +kernel, rfl, by decide +kernel, by decide +kernel⟩
abbrev s_law : Stmt := top 50
abbrev n_law : List Str := ["_law_script", "_law_own", "_law_job_here", "_law_state", "_law_due", "_law_held", "_law_k", "_law_cell", "_law_number"]
theorem sc_law : FnScope n_law ["_law_script"] (defScope s_law) := ⟨rfl, rfl, rfl, by decide +kernel, rfl, by decide +kernel, by decide +kernel⟩
end K12

set_option Elab.async false
set_option linter.all false
set_option maxRecDepth 100000
set_option maxHeartbeats 4000000
seal L2.PE L2.PT L2.PW L2.PA L2.PS L2.PSs L2.PI L2.PG L2.PGs L2.PSet L2.PTs L2.PC L2.PO L2.PK L2.OpR L2.UnR L2.CallR L2.IxR L2.SlR L2.PIp L2.PGet L2.InOp
namespace K12
open PySem L2 PyProof.Rows WM PySem.NumText
section
variable {P : Program} {w : World} {K : PySem.W.Frag} {mg : Str → Option Value} {base : Heap}
abbrev LET : Str := "abcdefghijklmnopqrstuvwxyz"
/-- a thing of a built-in kind, a text not too long -/
structure Any (K : PySem.W.Frag) (H : Hp) (x : V) : Prop where
  ty : ∃ m, TyOf K H x (.type m)
  sm : ∀ z, x = .str z → z.length ≤ 100000
theorem Any.str {K : PySem.W.Frag} {H : Hp} {z : Str} (h : z.length ≤ 100000) : Any K H (.str z) := ⟨⟨_, .str z⟩, fun _ e => by cases e; exact h⟩
theorem Any.int {K : PySem.W.Frag} {H : Hp} {i : Int} : Any K H (.int i) := ⟨⟨_, .int i⟩, fun _ e => by cases e⟩
theorem same_upd {H : Hp} {p : Addr} {o : HO} (h : H p = none) : Same H (upd H p o) := fun b u e => by rw [upd_ne (ne_of_none e h)]; exact e

def sp_is_whole (K : PySem.W.Frag) : Sp := fun vs H Q _ => ∃ x, vs = [x] ∧ Any K H x ∧ Q (.bl (isI x)) H
theorem ok_is_whole (D : Def K mg "is_whole" s_is_whole ["thing"]) (B : Bltn mg) : Knows P w K mg base 1 "is_whole" ["thing"] (sp_is_whole K) := by
  refine D.ok sc_is_whole (fun vs H Q E h => ?_) (fun f cdv A outer s H vs Q E hr h => ?_)
  · obtain ⟨x, rfl, _⟩ := h
    rfl
  · obtain ⟨x, rfl, ⟨⟨m, ty⟩, _⟩, q⟩ := h
    refine ⟨_, by exact (pss_one (ps_ret (pe_and (pe_isi B.isi B.int boot_int (pv 0)) (pe_one (pe_not (pe_isi B.isi B.bool boot_bool (pv 0))))))), ?_⟩
    refine ⟨_, rfl, _, _, _, rfl, ty, isiI ty, _, rfl, ?_⟩
    refine ite2 (fun hx => ?_) (fun hx => ?_)
    · refine ⟨_, rfl, _, _, _, rfl, ty, isiB ty, _, rfl, ?_⟩
      have e : isI x = !isBl x := by revert hx; cases x <;> simp [isI, isIB, isBl]
      rw [← e]
      exact q
    · have e : isI x = false := by revert hx; cases x <;> simp [isI, isIB]
      rw [e] at q
      exact q

def amongV : V → Int → Int → Bool
  | .int i, lo, hi => decide (lo ≤ i) && decide (i ≤ hi)
  | _, _, _ => false
def sp_is_among (K : PySem.W.Frag) : Sp := fun vs H Q _ => ∃ x lo hi, vs = [x, .int lo, .int hi] ∧ Any K H x ∧ Q (.bl (amongV x lo hi)) H
theorem ok_is_among (D : Def K mg "is_among" s_is_among ["thing", "least", "most"]) (kw : Knows P w K mg base 1 "is_whole" ["thing"] (sp_is_whole K)) : Knows P w K mg base 2 "is_among" ["thing", "least", "most"] (sp_is_among K) := by
  refine D.ok sc_is_among (fun vs H Q E h => ?_) (fun f cdv A outer s H vs Q E hr h => ?_)
  · obtain ⟨x, lo, hi, rfl, _⟩ := h
    rfl
  · obtain ⟨x, lo, hi, rfl, an, q⟩ := h
    refine ⟨_, by exact (pss_one (ps_ret (pe_and (pe_callN kw hr (pa_cons (pv 0) pa_nil)) (pe_one (pe_chain op_le op_le (pv 1) (pv 0) (pv 2)))))), ?_⟩
    refine ⟨_, rfl, x, rfl, an, _, rfl, ?_⟩
    cases x with
    | int i =>
      refine iteT ?_
      refine ⟨_, rfl, _, rfl, _, _, rfl, rfl, _, rfl, ?_⟩
      refine ite2 (fun h1 => ?_) (fun h1 => ?_)
      · refine ⟨_, rfl, _, _, rfl, rfl, ?_⟩
        have e : amongV (.int i) lo hi = decide (i ≤ hi) := by
          show (decide (lo ≤ i) && _) = _
          rw [h1, Bool.true_and]
        rw [e] at q
        exact q
      · have e : amongV (.int i) lo hi = false := by
          show (decide (lo ≤ i) && _) = _
          have : decide (lo ≤ i) = false := by simpa using h1
          rw [this, Bool.false_and]
        rw [e] at q
        exact q
    | _ => exact iteF q

def madeOf (g : Str) (n : Int) : V → Bool
  | .str z => decide (1 ≤ (z.length : Int)) && decide ((z.length : Int) ≤ n) && z.cps.toList.all fun c => decide (c ∈ g.cps.toList)
  | _ => false
def sp_is_made_of (K : PySem.W.Frag) : Sp := fun vs H Q _ => ∃ x g n, vs = [x, .str g, .int n] ∧ Any K H x ∧ ∀ H', Same H H' → Q (.bl (madeOf g n x)) H'
theorem ok_is_made_of (D : Def K mg "is_made_of" s_is_made_of ["thing", "signs", "most"]) (B : Bltn mg) : Knows P w K mg base 1 "is_made_of" ["thing", "signs", "most"] (sp_is_made_of K) := by
  refine D.ok sc_is_made_of (fun vs H Q E h => ?_) (fun f cdv A outer s H vs Q E hr h => ?_)
  · obtain ⟨x, g, n, rfl, _⟩ := h
    rfl
  · obtain ⟨x, g, n, rfl, ⟨⟨m, ty⟩, sm⟩, q⟩ := h
    refine ⟨_, by exact (pss_cons (ps_if (PW.pt (pw_or (pt_not (pt_val (pe_isi B.isi B.str boot_str (pv 0)))) (pw_or1 (pt_not (pt_chain op_le op_le pe_int (pe_callB call_len_str (by rfl) B.len PySem.boot_len (pa_cons (pv 0) pa_nil)) (pv 2)))))) (pss_one (ps_ret pe_bl)) pss_nil)
      (pss_one (ps_ret (pe_callB (call_all rfl) rfl B.all boot_all (pa_cons (pe_comp1 [1] ["sign", "signs"] rfl (pi_str (pv 0)) (fun _ _ _ _ => pts_nil) (fun _ _ _ _ => pe_cmpR op_in_str (pv 0) (pv 1) (by with_unfolding_all rfl))) pa_nil))))), ?_⟩
    refine ⟨_, rfl, _, _, _, rfl, ty, isiS ty, _, rfl, ?_⟩
    cases x with
    | str z =>
      have hz : z.length ≤ sizeLine := Nat.le_trans (sm z rfl) (by decide)
      refine iteF ?_
      refine ⟨_, rfl, z, rfl, hz, _, _, rfl, rfl, _, rfl, ?_⟩
      refine ite2 (fun h1 => ?_) (fun h1 => ?_)
      · refine ⟨_, rfl, _, _, rfl, rfl, _, rfl, ?_⟩
        refine ite2 (fun h2 => ?_) (fun h2 => ?_)
        · have e : madeOf g n (.str z) = false := by
            show (_ && decide ((z.length : Int) ≤ n) && _) = false
            have : decide ((z.length : Int) ≤ n) = false := by simpa using h2
            rw [this, Bool.and_false, Bool.false_and]
          have := q H (Same.refl H)
          rw [e] at this
          exact this
        · have h2' : decide ((z.length : Int) ≤ n) = true := by simpa using h2
          refine ⟨_, rfl, z, rfl, ?_⟩
          refine comp1_wk (wk_str z) (fun i ys H1 => H1 = H ∧ ys = (z.cps.toList.take i).map fun c => V.bl (decide (c ∈ g.cps.toList))) ⟨rfl, rfl⟩ (fun i ys H1 hi p => ⟨trivial, by rw [p.2, List.length_map, List.length_take]; omega⟩) (by rw [signsV_length]; exact hz)
            (fun i x ys H1 Nx hx p hN => ?_) (fun ys H1 p Dd hD => ?_)
          · obtain ⟨rfl, rfl⟩ := p
            unfold signsV at hx
            rw [List.getElem?_map] at hx
            cases hc : z.cps.toList[i]? with
            | none => rw [hc] at hx; cases hx
            | some c =>
              rw [hc] at hx
              cases hx
              refine tTrue_use ?_
              refine ⟨_, rfl, _, rfl, _, _, rfl, rfl, ?_⟩
              refine hN _ _ ⟨rfl, ?_⟩
              rw [PySem.StrLaws.found_one, List.take_add_one, hc, List.map_append]
              rfl
          · obtain ⟨rfl, rfl⟩ := p
            refine ⟨Dd, (z.cps.toList).map fun c => decide (c ∈ g.cps.toList), rfl, ?_, ?_⟩
            · refine SqL.of ?_
              rw [upd_same, signsV_length, List.take_of_length_le (by simp), List.map_map]
              rfl
            · have e : madeOf g n (.str z) = ((z.cps.toList).map fun c => decide (c ∈ g.cps.toList)).all id := by
                show (decide (1 ≤ (z.length : Int)) && decide ((z.length : Int) ≤ n) && _) = _
                rw [h1, h2', List.all_map]
                rfl
              rw [← e]
              exact q _ (same_upd hD)
      · refine ⟨_, rfl, ?_⟩
        have e : madeOf g n (.str z) = false := by
          show (decide (1 ≤ (z.length : Int)) && _ && _) = false
          have : decide (1 ≤ (z.length : Int)) = false := by simpa using h1
          rw [this, Bool.false_and, Bool.false_and]
        have := q H (Same.refl H)
        rw [e] at this
        exact this
    | _ => exact q H (Same.refl H)

def sp_is_name (K : PySem.W.Frag) : Sp := fun vs H Q _ => ∃ x, vs = [x] ∧ Any K H x ∧ ∀ H', Same H H' → Q (.bl (madeOf LET 12 x)) H'
theorem ok_is_name (D : Def K mg "is_name" s_is_name ["thing"]) {tl tm : Tok} (hL : mg "LETTERS" = some (.str LET tl)) (hM : mg "MOST_LETTERS" = some (.int 12 tm)) (km : Knows P w K mg base 1 "is_made_of" ["thing", "signs", "most"] (sp_is_made_of K)) :
    Knows P w K mg base 2 "is_name" ["thing"] (sp_is_name K) := by
  refine D.ok sc_is_name (fun vs H Q E h => ?_) (fun f cdv A outer s H vs Q E hr h => ?_)
  · obtain ⟨x, rfl, _⟩ := h
    rfl
  · obtain ⟨x, rfl, an, q⟩ := h
    refine ⟨_, by exact (pss_one (ps_ret (pe_callN km hr (pa_cons (pv 0) (pa_cons (pe_glob (v := .str LET) rfl hL ⟨_, rfl⟩) (pa_cons (pe_glob (v := .int 12) rfl hM ⟨_, rfl⟩) pa_nil)))))), ?_⟩
    exact ⟨_, rfl, x, LET, 12, rfl, an, q⟩

end
end K12

set_option Elab.async false
set_option linter.all false
set_option maxRecDepth 100000
set_option maxHeartbeats 4000000
set_option pp.maxSteps 600
set_option pp.deepTerms false
local macro_rules | `(tactic| walk_at "m") => `(tactic| first | decide | (show (0 : Int) < _; decide) | (show L2.CDiv _ _; exact ⟨by decide, by decide⟩) | omega)
namespace K12
open PySem L2 PyProof.Rows
theorem same_of {H : Hp} {p : Addr} {o : HO} (h : H p = none) : Same H (upd H p o) := fun b u e => by rw [upd_ne (ne_of_none e h)]; exact e
theorem boot_tuple : bootBuiltins "tuple" = some (.type "tuple") := by kernel_rfl
/-- only the objects of S change -/
def Chg (S : List Addr) (H H' : Hp) : Prop := ∀ b o, b ∉ S → H b = some o → H' b = some o
structure Jb where
  name : Str
  needs : List Str
  rank : Int
  span : Int
  tries : Int
  wait : Int
  grow : Int
def isName (z : Str) : Bool := madeOf LET 12 (.str z)
structure Jb.Ok (j : Jb) : Prop where
  name : isName j.name = true
  needs : j.needs.length ≤ 8
  named : ∀ k ∈ j.needs, isName k = true
  other : j.name ∉ j.needs
  unlike : j.needs.Nodup
  rank : 0 ≤ j.rank ∧ j.rank ≤ 99
  span : 1 ≤ j.span ∧ j.span ≤ 1000
  tries : 1 ≤ j.tries ∧ j.tries ≤ 20
  wait : 0 ≤ j.wait ∧ j.wait ≤ 1000
  grow : 1 ≤ j.grow ∧ j.grow ≤ 4
def jobF (j : Jb) (l : Addr) : List (Str × V) := [("name", .str j.name), ("needs", .ref l), ("rank", .int j.rank), ("span", .int j.span), ("tries", .int j.tries), ("wait", .int j.wait), ("grow", .int j.grow)]
structure JobAt (C : Addr) (H : Hp) (p : Addr) (j : Jb) : Prop where
  ex : ∃ dx l, H p = some (.ins C dx (jobF j l)) ∧ H l = some (.lst (j.needs.map V.str))
theorem JobAt.same {C : Addr} {H H' : Hp} {p : Addr} {j : Jb} (h : JobAt C H p j) (s : Same H H') : JobAt C H' p j := by
  obtain ⟨dx, l, a, b⟩ := h.ex
  exact ⟨dx, l, s _ _ a, s _ _ b⟩
/-- the class in the text -/
structure JCls (K : PySem.W.Frag) (mg : Str → Option Value) (C : Addr) : Prop where
  cl : Cls K C
  mgC : mg "Job" = some (.ref C)
  n1 : NoAttr K C "name"
  n2 : NoAttr K C "needs"
  n3 : NoAttr K C "rank"
  n4 : NoAttr K C "span"
  n5 : NoAttr K C "tries"
  n6 : NoAttr K C "wait"
  n7 : NoAttr K C "grow"
structure Bj (mg : Str → Option Value) : Prop where
  b : Bltn mg
  zip : mg "zip" = none
  tuple : mg "tuple" = none
  set : mg "set" = none
def bnd : List (Int × Int) := [(0, 99), (1, 1000), (1, 20), (0, 1000), (1, 4)]
structure PartsK (K : PySem.W.Frag) (mg : Str → Option Value) : Prop where
  ex : ∃ (T : Addr) (ps : List Addr), mg "PARTS" = some (.ref T) ∧ ps.length = 5 ∧ (∀ H, SqT K H T (ps.map V.ref)) ∧ ∀ (i : Nat) (p : Addr), ps[i]? = some p → ∃ w lo hi, bnd[i]? = some (lo, hi) ∧ ∀ H, SqT K H p [.str w, .int lo, .int hi]
theorem name_len {z : Str} (h : isName z = true) : 1 ≤ z.length ∧ z.length ≤ 12 := by
  unfold isName madeOf at h
  rw [Bool.and_eq_true, Bool.and_eq_true, decide_eq_true_eq, decide_eq_true_eq] at h
  omega
section
variable {P : Program} {w : World} {K : PySem.W.Frag} {mg : Str → Option Value} {base : Heap} {C : Addr}
def spCheckName : Sp := fun vs H Q _ => ∃ z : Str, vs = [.str z] ∧ isName z = true ∧ ∀ H', Same H H' → Q .non H'
theorem ok_check_name (D : Def K mg "check_name" s_check_name ["name"]) (k_is_name : Knows P w K mg base 2 "is_name" ["thing"] (sp_is_name K)) : Knows P w K mg base 3 "check_name" ["name"] spCheckName := by
  refine D.ok sc_check_name (fun vs H Q E h => ?_) (fun f cdv A outer s H vs Q E hr h => ?_)
  · obtain ⟨z, rfl, _⟩ := h
    rfl
  · obtain ⟨z, rfl, hz, q⟩ := h
    refine ⟨_, by exact (pss_one (ps_if (pt_not (pt_val (pe_callM k_is_name hr (pa_c (pv 0) pa_nil)))) (pss_one ps_never) pss_nil)), ?_⟩
    have hl := name_len hz
    refine ⟨_, rfl, _, rfl, .str (by omega), fun H1 s1 => ⟨_, rfl, ?_⟩⟩
    rw [show madeOf LET 12 (.str z) = true from hz]
    exact iteF (q _ s1)
theorem inV_str {z : Str} {ks : List Str} (h : z ∉ ks) : inV (.str z) (ks.map V.str) = false := by
  cases e : inV (.str z) (ks.map V.str) with
  | false => rfl
  | true =>
    exfalso
    unfold inV at e
    rw [List.any_eq_true] at e
    obtain ⟨x, hx, ex⟩ := e
    obtain ⟨y, hy, rfl⟩ := List.mem_map.mp hx
    have : y = z := by simpa [eqV] using ex
    exact h (this ▸ hy)
theorem uniq_nodup {ks : List Key} (h : ks.Nodup) : (uniqK ks).length = ks.length := by
  have : ∀ i, i ≤ ks.length → metK (fun i => ks.getD i (.inl 0)) i = ks.take i := by
    intro i
    induction i with
    | zero => intro _; rfl
    | succ i ih =>
      intro hi
      show addK (metK _ i) _ = _
      rw [ih (by omega)]
      show addK (ks.take i) (ks.getD i (.inl 0)) = _
      have e : ks.getD i (.inl 0) = ks[i] := by rw [List.getD_eq_getElem?_getD, List.getElem?_eq_getElem (by omega)]; rfl
      rw [e]
      unfold addK
      rw [if_neg]
      · exact List.take_append_getElem (l := ks) (i := i) (by omega)
      intro hm
      obtain ⟨m, hm1, hm2⟩ := List.mem_iff_getElem.mp hm
      rw [List.getElem_take] at hm2
      rw [List.length_take] at hm1
      exact (List.pairwise_iff_getElem.mp h m i (by omega) (by omega) (by omega)) hm2
  unfold uniqK
  rw [this _ (Nat.le_refl _), List.take_length]
def spAreNeeds : Sp := fun vs H Q _ => ∃ (a : Addr) (z : Str) (ks : List Str), vs = [.ref a, .str z] ∧ H a = some (.lst (ks.map V.str)) ∧ ks.length ≤ 8 ∧ (∀ k ∈ ks, isName k = true) ∧ z ∉ ks ∧ ks.Nodup ∧ ∀ H', Same H H' → Q (.bl true) H'
theorem ok_are_needs (D : Def K mg "are_needs" s_are_needs ["needs", "name"]) (B : Bj mg) {tm : Tok} (hM : mg "MOST_NEEDS" = some (.int 8 tm)) (k_is_name : Knows P w K mg base 2 "is_name" ["thing"] (sp_is_name K)) : Knows P w K mg base 3 "are_needs" ["needs", "name"] spAreNeeds := by
  refine D.ok sc_are_needs (fun vs H Q E h => ?_) (fun f cdv A outer s H vs Q E hr h => ?_)
  · obtain ⟨a, z, ks, rfl, _⟩ := h
    rfl
  · obtain ⟨a, z, ks, rfl, ha, hl, hnm, hno, hnd, q⟩ := h
    refine ⟨_, by exact (pss_cons (ps_if (PW.pt (pw_or (pt_not (pt_val (pe_bcall (call_isiT ["list", "tuple"]) rfl B.b.isi boot_isinstance (pa_c (pv 0) (pa_c (pe_tup (pa_c (pe_bltn (v := .ty "list") rfl B.b.list boot_list rfl (by decide) (by decide)) (pa_c (pe_bltn (v := .ty "tuple") rfl B.tuple boot_tuple rfl (by decide) (by decide)) pa_nil))) pa_nil))))) (pw_or1 (pt_cmpR op_gt (pe_bcall call_len_seq rfl B.b.len PySem.boot_len (pa_c (pv 0) pa_nil)) (pe_glob (v := .int 8) rfl hM ⟨_, rfl⟩) (nomark _))))) (pss_one (ps_ret pe_bl)) pss_nil)
      (pss_cons (ps_if (pt_not (pt_val (pe_bcall (call_all rfl) rfl B.b.all boot_all (pa_c (pe_comp1 [] ["need"] rfl (pi_list (pv 0)) (fun _ _ _ _ => pts_nil) (fun _ _ _ _ => (pe_callM k_is_name hr (pa_c (pv 0) pa_nil)))) pa_nil)))) (pss_one (ps_ret pe_bl)) pss_nil)
      (pss_one (ps_ret (pe_and (pe_cmpR op_notIn_seq (pv 1) (pv 0) (by with_unfolding_all rfl)) (pe_one (pe_cmpR op_eq (pe_lenset rfl B.b.len B.set (pv 0)) (pe_bcall call_len_seq rfl B.b.len PySem.boot_len (pa_c (pv 0) pa_nil)) (nomark _)))))))), ?_⟩
    refine ⟨_, rfl, by show 2 ≤ sizeLine; decide, fun t ht => ?_⟩
    have s1 : Same H (upd H t (.tup [.ty "list", .ty "tuple"])) := same_of ht
    refine ⟨_, t, _, true, rfl, upd_same, .lst (s1 _ _ ha), by kernel_rfl, _, rfl, iteF ?_⟩
    generalize upd H t (.tup [.ty "list", .ty "tuple"]) = H1 at s1
    have a1 := s1 _ _ ha
    have hll : (ks.map V.str).length = ks.length := List.length_map ..
    refine ⟨_, rfl, a, _, rfl, .inl (SqL.of a1), _, _, rfl, rfl, _, rfl, ?_⟩
    rw [hll, decide_eq_false (show ¬ (8 : Int) < (ks.length : Int) by omega)]
    refine iteF ?_
    refine ⟨_, rfl, a, rfl, ⟨_, SqL.of a1⟩, ?_⟩
    refine comp1_wk (wk_list K a (ks.map V.str)) (fun i ys H3 => Same H1 H3 ∧ ys = (List.replicate i true).map V.bl) ⟨Same.refl _, rfl⟩ (fun i ys H3 _ h => ⟨SqL.of (h.1 _ _ a1), by rw [h.2, List.length_map, List.length_replicate]; exact Nat.le_refl _⟩) (by rw [hll]; exact Nat.le_trans hl (by decide)) (fun i x ys H3 Nx hx hv k => ?_) ?_
    · obtain ⟨s3, rfl⟩ := hv
      rw [List.getElem?_map] at hx
      obtain ⟨y, hy, rfl⟩ := Option.map_eq_some_iff.mp hx
      have hn := hnm y (List.mem_of_getElem? hy)
      have hl := name_len hn
      refine tTrue_use ⟨_, rfl, _, rfl, .str (by omega), fun H4 s4 => ?_⟩
      rw [show madeOf LET 12 (.str y) = true from hn]
      refine k _ _ ⟨s3.trans s4, ?_⟩
      rw [List.replicate_succ', List.map_append]
      rfl
    rintro ys H3 ⟨s3, rfl⟩ p hp
    have s2 : Same H3 (upd H3 p (.lst ((List.replicate (ks.map V.str).length true).map V.bl))) := same_of hp
    refine ⟨p, _, rfl, SqL.of upd_same, _, rfl, ?_⟩
    rw [show (List.replicate (ks.map V.str).length true).all id = true by simp]
    refine iteF ?_
    generalize upd H3 p (.lst ((List.replicate (ks.map V.str).length true).map V.bl)) = H4 at s2
    have a2 := s2 _ _ (s3 _ _ a1)
    refine ⟨_, rfl, _, rfl, a, _, rfl, .inl (SqL.of a2), rfl, by simp [flatV], ?_⟩
    rw [show (if true = true then !inV (.str z) (ks.map V.str) else inV (.str z) (ks.map V.str)) = true by rw [inV_str hno]; rfl]
    refine ⟨_, rfl, iteT ?_⟩
    have ek : ks.map V.str = (ks.map (Sum.inr : Str → Key)).map kV := by rw [List.map_map]; rfl
    refine ⟨_, rfl, a, ks.map Sum.inr, rfl, by rw [← ek]; exact SqL.of a2, by rw [List.length_map]; exact Nat.lt_of_le_of_lt (Nat.succ_le_succ hl) (by decide), _, rfl, a, _, rfl, .inl (SqL.of a2), ?_⟩
    rw [uniq_nodup (hnd.map _ (fun _ _ h e => h (by injection e))), List.length_map, hll]
    refine ⟨rfl, ?_⟩
    show Q (.bl (decide (V.int (ks.length : Int) = V.int (ks.length : Int)))) H4
    rw [decide_eq_true (rfl : V.int (ks.length : Int) = V.int (ks.length : Int))]
    exact q _ ((s1.trans s3).trans s2)
def spCheckNeeds : Sp := fun vs H Q _ => ∃ (a : Addr) (z : Str) (ks : List Str), vs = [.ref a, .str z] ∧ H a = some (.lst (ks.map V.str)) ∧ ks.length ≤ 8 ∧ (∀ k ∈ ks, isName k = true) ∧ z ∉ ks ∧ ks.Nodup ∧ ∀ H', Same H H' → Q .non H'
theorem ok_check_needs (D : Def K mg "check_needs" s_check_needs ["needs", "name"]) (k_are_needs : Knows P w K mg base 3 "are_needs" ["needs", "name"] spAreNeeds) : Knows P w K mg base 4 "check_needs" ["needs", "name"] spCheckNeeds := by
  refine D.ok sc_check_needs (fun vs H Q E h => ?_) (fun f cdv A outer s H vs Q E hr h => ?_)
  · obtain ⟨a, z, ks, rfl, _⟩ := h
    rfl
  · obtain ⟨a, z, ks, rfl, ha, h1, h2, h3, h4, q⟩ := h
    refine ⟨_, by exact (pss_one (ps_if (PW.pt (pw_and (pt_cmpR op_notN (pv 0) pe_non (nomark _)) (pw_and1 (pt_not (pt_val (pe_callM k_are_needs hr (pa_c (pv 0) (pa_c (pv 1) pa_nil)))))))) (pss_one ps_never) pss_nil)), ?_⟩
    exact ⟨_, rfl, rfl, _, rfl, iteT ⟨_, rfl, _, rfl, a, z, ks, rfl, ha, h1, h2, h3, h4, fun H1 s1 => ⟨_, rfl, iteF (q _ s1)⟩⟩⟩
def spCheckNumbers (K : PySem.W.Frag) : Sp := fun vs H Q _ => ∃ (t : Addr) (ns : List Int), vs = [.ref t] ∧ SqT K H t (ns.map V.int) ∧ ns.length = 5 ∧ (∀ (i : Nat) (n lo hi : Int), ns[i]? = some n → bnd[i]? = some (lo, hi) → lo ≤ n ∧ n ≤ hi) ∧ ∀ H', Same H H' → Q .non H'
theorem SameT {K : PySem.W.Frag} {H H' : Hp} {a : Addr} {xs : List V} (s : Same H H') (h : SqT K H a xs) : SqT K H' a xs := by
  rcases h with h | h
  · rcases h with h | ⟨o, h⟩
    · exact .inl (.inl (s _ _ h))
    · exact .inl (.inr ⟨o, s _ _ h⟩)
  · exact .inr h
theorem ok_check_numbers (D : Def K mg "check_numbers" s_check_numbers ["numbers"]) (B : Bj mg) (PK : PartsK K mg) (k_is_among : Knows P w K mg base 2 "is_among" ["thing", "least", "most"] (sp_is_among K)) : Knows P w K mg base 3 "check_numbers" ["numbers"] (spCheckNumbers K) := by
  refine D.ok sc_check_numbers (fun vs H Q E h => ?_) (fun f cdv A outer s H vs Q E hr h => ?_)
  · obtain ⟨t, ns, rfl, _⟩ := h
    rfl
  · obtain ⟨t, ns, rfl, ht, hl, hb, q⟩ := h
    obtain ⟨T, ps, hmg, hpl, hT, hp⟩ := PK.ex
    refine ⟨_, by exact (pss_one (ps_for PassesOwn.never rfl (pi_zipT B.zip (pe_glob (v := .ref T) rfl hmg rfl) (pv 0)) (pg_tup rfl (pgs_cons (pg_name (i := 1) sc_check_numbers.nd rfl (Or.inl rfl)) (pgs_cons (pg_name (i := 2) sc_check_numbers.nd rfl (Or.inl rfl)) pgs_nil))) (pss_cons (ps_set (i := 3) sc_check_numbers.nd rfl (Or.inl rfl) (pe_ix ix_tup (pv 1) pe_int (fun _ _ => rfl)))
      (pss_cons (ps_set (i := 4) sc_check_numbers.nd rfl (Or.inl rfl) (pe_ix ix_tup (pv 1) pe_int (fun _ _ => rfl)))
      (pss_cons (ps_set (i := 5) sc_check_numbers.nd rfl (Or.inl rfl) (pe_ix ix_tup (pv 1) pe_int (fun _ _ => rfl)))
      (pss_one (ps_if (pt_not (pt_val (pe_callM k_is_among hr (pa_c (pv 2) (pa_c (pv 4) (pa_c (pv 5) pa_nil)))))) (pss_one ps_never) pss_nil))))))), ?_⟩
    refine ⟨_, rfl, T, t, rfl, rfl, ⟨_, hT H⟩, ⟨_, ht⟩, ?_⟩
    refine for_zipT (xs := ps.map V.ref) (ys := ns.map V.int) (n := 5) (by rw [List.length_map, List.length_map, hpl, hl]; rfl) (fun i σ H1 => Same H H1 ∧ ∃ v1 v2 v3 v4 v5, σ = [some (.ref t), v1, v2, v3, v4, v5]) ⟨Same.refl _, _, _, _, _, _, rfl⟩ (fun i σ H1 _ h => ⟨hT H1, SameT h.1 ht⟩) ?_ ?_
    · rintro i x y σ H1 t2 hx hy ⟨s1, v1, v2, v3, v4, v5, rfl⟩ h2
      rw [List.getElem?_map] at hx hy
      obtain ⟨p, hp', rfl⟩ := Option.map_eq_some_iff.mp hx
      obtain ⟨n, hn', rfl⟩ := Option.map_eq_some_iff.mp hy
      obtain ⟨wd, lo, hi, hbd, hpt⟩ := hp i p hp'
      obtain ⟨b1, b2⟩ := hb i n lo hi hn' hbd
      refine ⟨t2, _, rfl, SqT.of upd_same, rfl, _, _, rfl, _, _, rfl, rfl, ?_⟩
      have s2 : Same H1 (upd H1 t2 (.tup [.ref p, .int n])) := same_of h2
      generalize upd H1 t2 (.tup [.ref p, .int n]) = H2 at s2
      refine ⟨_, rfl, p, _, _, _, rfl, rfl, hpt H2, atI_nat (j := 0) rfl, ?_⟩
      refine ⟨_, rfl, p, _, _, _, rfl, rfl, hpt H2, atI_nat (j := 1) rfl, ?_⟩
      refine ⟨_, rfl, p, _, _, _, rfl, rfl, hpt H2, atI_nat (j := 2) rfl, ?_⟩
      refine ⟨_, rfl, _, rfl, _, rfl, _, lo, hi, rfl, .int, _, rfl, ?_⟩
      have e : amongV (.int n) lo hi = true := by
        show (decide (lo ≤ n) && decide (n ≤ hi)) = true
        rw [decide_eq_true b1, decide_eq_true b2]; rfl
      rw [e]
      exact iteF ⟨s1.trans s2, _, _, _, _, _, rfl⟩
    · rintro σ H1 ⟨s1, _⟩
      exact q _ s1
end
end K12

set_option Elab.async false
set_option linter.all false
set_option maxRecDepth 100000
set_option maxHeartbeats 4000000
set_option pp.maxSteps 600
set_option pp.deepTerms false
namespace L2
open PySem
theorem fld_use {K : PySem.W.Frag} {ta tv : TE} {f : Str} {u : TS} {D : Ends} {σ : St} {H : Hp} (Post : V → Hp → Prop) (g : ∀ Q', (∀ v H', Post v H' → Q' v H') → tv σ H Q')
    (k : ∀ v H', Post v H' → ta σ H' fun x H2 => ∃ a C dx fs, x = .ref a ∧ H2 a = some (.ins C dx fs) ∧ Cls K C ∧ NoAttr K C f ∧ fs.length < 1000 ∧ u D σ (upd H2 a (.ins C dx (putF f v fs)))) : tSeq (sFld K ta tv f) u D σ H := g _ k
end L2
namespace K12
open PySem L2 PyProof.Rows
abbrev jps : List Str := ["self", "name", "needs", "rank", "span", "tries", "wait", "grow"]
def spJob (C : Addr) : Sp := fun vs H Q _ => ∃ (p dx : Addr) (nd : V) (j : Jb), vs = [.ref p, .str j.name, nd, .int j.rank, .int j.span, .int j.tries, .int j.wait, .int j.grow] ∧ H p = some (.ins C dx []) ∧ j.Ok ∧
  (∃ a, nd = .ref a ∧ H a = some (.lst (j.needs.map V.str))) ∧ ∀ H', JobAt C H' p j → Chg [p] H H' → Q .non H'
section
variable {P : Program} {w : World} {K : PySem.W.Frag} {mg : Str → Option Value} {base : Heap} {C : Addr}
theorem ok_job {f : Addr} {fd : FuncData} (F : FunD K "__init__" "Job.__init__" s_Job___init__ f fd) (J : JCls K mg C) (B : Bj mg) (k_check_name : Knows P w K mg base 3 "check_name" ["name"] spCheckName) (k_check_needs : Knows P w K mg base 4 "check_needs" ["needs", "name"] spCheckNeeds)
    (k_check_numbers : Knows P w K mg base 3 "check_numbers" ["numbers"] (spCheckNumbers K)) : FnOk P w K mg base CX0 5 f fd jps (spJob C) := by
  refine F.ok sc_Job___init__ (fun vs H Q E h => ?_) (fun cdv A outer s H vs Q E hr h => ?_)
  · obtain ⟨p, dx, nd, j, rfl, _⟩ := h
    rfl
  · obtain ⟨p, dx, nd, j, rfl, hp, jo, hn, q⟩ := h
    refine ⟨_, by exact (pss_cons (ps_expr (pe_callM k_check_name hr (pa_c (pv 1) pa_nil)))
      (pss_cons (ps_expr (pe_callM k_check_needs hr (pa_c (pv 2) (pa_c (pv 1) pa_nil))))
      (pss_cons (ps_expr (pe_callM k_check_numbers hr (pa_c (pe_tup (pa_c (pv 3) (pa_c (pv 4) (pa_c (pv 5) (pa_c (pv 6) (pa_c (pv 7) pa_nil)))))) pa_nil)))
      (pss_cons (ps_fld (pv 0) (pv 1) rfl)
      (pss_cons (ps_fld (pv 0) (pe_ifExp (pt_cmpR op_isN (pv 2) pe_non (nomark _)) (pe_lst pa_nil) (pe_tcall call_list_of rfl B.b.list boot_list (pa_c (pv 2) pa_nil))) rfl)
      (pss_cons (ps_fld (pv 0) (pv 3) rfl)
      (pss_cons (ps_fld (pv 0) (pv 4) rfl)
      (pss_cons (ps_fld (pv 0) (pv 5) rfl)
      (pss_cons (ps_fld (pv 0) (pv 6) rfl)
      (pss_one (ps_fld (pv 0) (pv 7) rfl))))))))))), ?_⟩
    refine ⟨_, rfl, j.name, rfl, jo.name, fun H1 s1 => ?_⟩
    obtain ⟨nda, rfl, hna⟩ := hn
    refine ⟨_, rfl, _, rfl, nda, j.name, j.needs, rfl, s1 _ _ hna, jo.needs, jo.named, jo.other, jo.unlike, fun H2 s2 => ?_⟩
    refine ⟨_, rfl, _, rfl, _, rfl, _, rfl, _, rfl, by show 5 ≤ sizeLine; decide, fun t ht => ?_⟩
    have s3 : Same H2 (upd H2 t (.tup [.int j.rank, .int j.span, .int j.tries, .int j.wait, .int j.grow])) := same_of ht
    refine ⟨t, [j.rank, j.span, j.tries, j.wait, j.grow], rfl, SqT.of upd_same, rfl, fun i n lo hi h1 h2 => ?_, fun H4 s4 => ?_⟩
    · match i, h1, h2 with
      | 0, h1, h2 => cases h1; cases h2; exact jo.rank
      | 1, h1, h2 => cases h1; cases h2; exact jo.span
      | 2, h1, h2 => cases h1; cases h2; exact jo.tries
      | 3, h1, h2 => cases h1; cases h2; exact jo.wait
      | 4, h1, h2 => cases h1; cases h2; exact jo.grow
      | i + 5, h1, _ => simp at h1
    have s5 := ((s1.trans s2).trans s3).trans s4
    have p5 := s5 _ _ hp
    refine ⟨_, rfl, _, rfl, p, C, dx, [], rfl, p5, J.cl, J.n1, by decide, ?_⟩
    have c6 : Chg [p] H (upd H4 p (.ins C dx (putF "name" (.str j.name) []))) := fun b o hb e => by rw [upd_ne (fun z => hb (by simp [z]))]; exact s5 _ _ e
    have p6 : (upd H4 p (.ins C dx (putF "name" (.str j.name) []))) p = some (.ins C dx [("name", .str j.name)]) := upd_same
    generalize upd H4 p (.ins C dx (putF "name" (.str j.name) [])) = H6 at c6 p6
    have hn6 : H6 nda = some (.lst (j.needs.map V.str)) := c6 _ _ (fun z => by rw [List.mem_singleton.mp z, hp] at hna; cases hna) hna
    dsimp only
    refine fld_use (fun v H' => ∃ l, v = .ref l ∧ l ≠ p ∧ H' l = some (.lst (j.needs.map V.str)) ∧ H' p = some (.ins C dx [("name", .str j.name)]) ∧ Chg [p] H H') (fun Q' kk => ?_) ?_
    · have fin : ∀ l, H6 l = none → Q' (.ref l) (upd H6 l (.lst (j.needs.map V.str))) := fun l hl => by
        have hlp : l ≠ p := fun z => by rw [z, p6] at hl; cases hl
        exact kk _ _ ⟨l, rfl, hlp, upd_same, by rw [upd_ne (Ne.symm hlp)]; exact p6, fun b o hb e => by rw [upd_ne (ne_of_none (c6 b o hb e) hl)]; exact c6 b o hb e⟩
      exact ⟨_, rfl, rfl, _, rfl, iteF ⟨_, rfl, nda, _, rfl, .inl (SqL.of hn6), fin⟩⟩
    rintro v H7 ⟨l, rfl, hlp, hl, p7, c7⟩
    have stp : ∀ {H : Hp} {fs : List (Str × V)} {u : HO}, Chg [p] H7 H → Chg [p] H7 (upd H p u) := fun h b o hb e => by rw [upd_ne (fun z => hb (by simp [z]))]; exact h b o hb e
    refine ⟨_, rfl, p, C, dx, _, rfl, p7, J.cl, J.n2, (by show 1 < 1000; decide), ?_⟩
    refine ⟨_, rfl, _, rfl, p, C, dx, _, rfl, upd_same, J.cl, J.n3, (by show 2 < 1000; decide), ?_⟩
    refine ⟨_, rfl, _, rfl, p, C, dx, _, rfl, upd_same, J.cl, J.n4, (by show 3 < 1000; decide), ?_⟩
    refine ⟨_, rfl, _, rfl, p, C, dx, _, rfl, upd_same, J.cl, J.n5, (by show 4 < 1000; decide), ?_⟩
    refine ⟨_, rfl, _, rfl, p, C, dx, _, rfl, upd_same, J.cl, J.n6, (by show 5 < 1000; decide), ?_⟩
    refine ⟨_, rfl, _, rfl, p, C, dx, _, rfl, upd_same, J.cl, J.n7, (by show 6 < 1000; decide), ?_⟩
    refine q _ ⟨dx, l, upd_same, ?_⟩ fun b o hb e => ?_
    · rw [upd_ne hlp, upd_ne hlp, upd_ne hlp, upd_ne hlp, upd_ne hlp, upd_ne hlp]
      exact hl
    · have hb' : b ≠ p := fun z => hb (by simp [z])
      rw [upd_ne hb', upd_ne hb', upd_ne hb', upd_ne hb', upd_ne hb', upd_ne hb']
      exact c7 b o hb e
end
end K12

set_option Elab.async false
set_option linter.all false
set_option maxRecDepth 100000
set_option maxHeartbeats 4000000
set_option pp.maxSteps 600
set_option pp.deepTerms false
namespace K12
open PySem L2 PyProof.Rows
theorem boot_min : bootBuiltins "min" = some (.builtin "min") := by kernel_rfl
structure Bw (mg : Str → Option Value) : Prop where
  j : Bj mg
  sum : mg "sum" = none
  min : mg "min" = none
  max : mg "max" = none
/-! how long a job rests -/
def cut (x : Int) : Int := if (100000 : Int) < x then 100000 else x
def rest (w g : Int) (k : Nat) : Int := cut (w * g ^ k)
theorem cut_le (x : Int) : cut x ≤ 100000 := by unfold cut; split <;> omega
theorem rest_zero {w g : Int} (h : w ≤ 1000) : rest w g 0 = w := by
  unfold rest cut
  rw [Int.pow_zero, Int.mul_one, if_neg (by omega)]
theorem rest_step {w g : Int} (hg : 1 ≤ g) (k : Nat) (h0 : 0 ≤ w * g ^ k) : cut (rest w g k * g) = rest w g (k + 1) := by
  unfold rest
  rw [Int.pow_succ, ← Int.mul_assoc]
  generalize w * g ^ k = a at h0
  by_cases h : (100000 : Int) < a
  · have e1 : cut a = 100000 := by unfold cut; rw [if_pos h]
    have h1 : a * 1 ≤ a * g := Int.mul_le_mul_of_nonneg_left hg h0
    have h2 : (100000 : Int) * 1 ≤ 100000 * g := Int.mul_le_mul_of_nonneg_left hg (by decide)
    rw [e1]
    unfold cut
    rw [if_pos (show (100000 : Int) < a * g by omega)]
    split
    · rfl
    · omega
  · have e1 : cut a = a := by unfold cut; rw [if_neg h]
    rw [e1]
theorem pow_nonneg' {w g : Int} (hw : 0 ≤ w) (hg : 1 ≤ g) (k : Nat) : 0 ≤ w * g ^ k := Int.mul_nonneg hw (Int.pow_nonneg (by omega))
theorem rest_nonneg {w g : Int} (hw : 0 ≤ w) (hg : 1 ≤ g) (k : Nat) : 0 ≤ rest w g k := by
  have := pow_nonneg' hw hg k
  unfold rest cut
  split <;> omega
theorem rest_mono {w g : Int} (hw : 0 ≤ w) (hg : 1 ≤ g) (k : Nat) : rest w g k ≤ rest w g (k + 1) := by
  rw [← rest_step hg k (pow_nonneg' hw hg k)]
  have h0 := rest_nonneg hw hg k
  have h1 : rest w g k * 1 ≤ rest w g k * g := Int.mul_le_mul_of_nonneg_left hg h0
  have h2 := cut_le (w * g ^ k)
  have h3 : rest w g k ≤ 100000 := h2
  unfold cut
  split <;> omega
theorem rest_still {w g : Int} (hw : 0 ≤ w) (hg : 1 ≤ g) {k : Nat} (h : ¬ rest w g k < rest w g (k + 1)) : ∀ m, rest w g (k + m) = rest w g k
  | 0 => rfl
  | m + 1 => by
    have e : rest w g (k + 1) = rest w g k := by have := rest_mono hw hg k; omega
    rw [← Nat.add_assoc, ← rest_step hg (k + m) (pow_nonneg' hw hg _), rest_still hw hg h m, rest_step hg k (pow_nonneg' hw hg k), e]
def intAt : Option (Option V) → Int
  | some (some (.int b)) => b
  | _ => 0
def Sm (v : Int) : Prop := Builtin.Int.intBits v ≤ 1048576
theorem sm0 : Sm 0 := by unfold Sm; decide
section
variable {P : Program} {w : World} {K : PySem.W.Frag} {mg : Str → Option Value} {base : Heap} {C : Addr}
def spCell (K : PySem.W.Frag) : Sp := fun vs H Q _ => ∃ (a : Addr) (ns : List Int) (k : Nat), vs = [.ref a, .int k] ∧ SqL K H a (ns.map V.int) ∧ (∀ v ∈ ns, Sm v) ∧ ∀ c, Sm c → Q (.int c) H
theorem ok_cell (D : Def K mg "_law_cell_at" s__law_cell_at ["_law_script", "_law_k"]) (B : Bw mg) : Knows P w K mg base 1 "_law_cell_at" ["_law_script", "_law_k"] (spCell K) := by
  refine D.ok sc__law_cell_at (fun vs H Q E h => ?_) (fun f cdv A outer s H vs Q E hr h => ?_)
  · obtain ⟨a, ns, k, rfl, _⟩ := h
    rfl
  · obtain ⟨a, ns, k, rfl, hS, hsm, q⟩ := h
    refine ⟨_, by exact (pss_cons (ps_if (pt_cmpR op_lt (pv 1) (pe_bcall call_len_seq rfl B.j.b.len PySem.boot_len (pa_c (pv 0) pa_nil)) (nomark _)) (pss_one (ps_ret (pe_ix ix_list (pv 0) (pv 1) (fun _ _ => rfl)))) pss_nil)
      (pss_one (ps_ret pe_int))), ?_⟩
    refine ⟨_, rfl, _, rfl, a, _, rfl, .inl hS, _, _, rfl, rfl, _, rfl, ?_⟩
    refine ite2 (fun hlt => ?_) (fun _ => ?_)
    · have h1 : (k : Int) < (ns.map V.int).length := of_decide_eq_true hlt
      obtain ⟨v, hv, hmem, _⟩ := atI_mem (xs := ns.map V.int) (Int.natCast_nonneg k) h1
      obtain ⟨c, hc, rfl⟩ := List.mem_map.mp hmem
      exact ⟨_, rfl, _, rfl, a, _, _, _, rfl, rfl, hS, hv, q c (hsm c hc)⟩
    · exact q 0 sm0
def spMixed : Sp := fun vs H Q _ => ∃ (c : Int) (k : Nat), vs = [.int c, .int k] ∧ Sm c ∧ k ≤ 1000 ∧ ∀ m, 0 ≤ m → m < 2147483629 → Q (.int m) H
theorem ok_mixed (D : Def K mg "_law_mixed" s__law_mixed ["_law_cell", "_law_k"]) : Knows P w K mg base 1 "_law_mixed" ["_law_cell", "_law_k"] spMixed := by
  refine D.ok sc__law_mixed (fun vs H Q E h => ?_) (fun f cdv A outer s H vs Q E hr h => ?_)
  · obtain ⟨c, k, rfl, _⟩ := h
    rfl
  · obtain ⟨c, k, rfl, hsm, hk, q⟩ := h
    refine ⟨_, by exact (pss_cons (ps_set (i := 2) sc__law_mixed.nd rfl (Or.inl rfl) (pe_op op_mod (pe_op op_mul (pe_op op_add (pe_op op_add (pv 0) (pe_op op_mul pe_int (pv 1))) pe_int) pe_int) pe_int))
      (pss_one (ps_ret (pe_op op_mod (pe_op op_mul (pv 2) (pe_op op_add pe_int (pe_op op_mul (pv 1) (pv 1)))) pe_int)))), ?_⟩
    refine ⟨_, rfl, _, rfl, _, _, rfl, rfl, .inl ⟨by walk_at "m", by walk_at "m"⟩, _, _, rfl, rfl, _, _, rfl, rfl, _, _, rfl, rfl, .inr ⟨by walk_at "m", by walk_at "m"⟩, _, _, rfl, rfl, (by walk_at "m"), ?_⟩
    have b1 : 0 ≤ (c + 7919 * (k : Int) + 3) * 48271 % 2147483647 := Int.emod_nonneg _ (by decide)
    have b2 : (c + 7919 * (k : Int) + 3) * 48271 % 2147483647 < 2147483647 := Int.emod_lt_of_pos _ (by decide)
    dsimp only
    generalize (c + 7919 * (k : Int) + 3) * 48271 % 2147483647 = n at b1 b2
    refine ⟨_, rfl, _, rfl, _, rfl, _, _, rfl, rfl, .inl ⟨by omega, by omega⟩, _, _, rfl, rfl, _, _, rfl, rfl, .inl ⟨by omega, by omega⟩, _, _, rfl, rfl, (by walk_at "m"), q _ (Int.emod_nonneg _ (by decide)) (Int.emod_lt_of_pos _ (by decide))⟩
def spWhole : Sp := fun vs H Q _ => ∃ n : Int, vs = [.int n] ∧ Q (.bl true) H
theorem ok_whole (D : Def K mg "_law_whole" s__law_whole ["_law_thing"]) (B : Bw mg) : Knows P w K mg base 1 "_law_whole" ["_law_thing"] spWhole := by
  refine D.ok sc__law_whole (fun vs H Q E h => ?_) (fun f cdv A outer s H vs Q E hr h => ?_)
  · obtain ⟨n, rfl, _⟩ := h
    rfl
  · obtain ⟨n, rfl, q⟩ := h
    refine ⟨_, by exact (pss_one (ps_ret (pe_and (pe_isiM B.j.b.isi B.j.b.int boot_int (pv 0)) (pe_one (pe_not (pe_isiM B.j.b.isi B.j.b.bool boot_bool (pv 0))))))), ?_⟩
    refine ⟨_, rfl, _, _, _, rfl, .int n, isiI (H := H) (.int n), _, rfl, iteT ?_⟩
    exact ⟨_, rfl, _, _, _, rfl, .int n, isiB (H := H) (.int n), _, rfl, q⟩
def spGrown (C : Addr) : Sp := fun vs H Q _ => ∃ (p : Addr) (j : Jb) (x : Int), vs = [.ref p, .int x] ∧ JobAt C H p j ∧ j.Ok ∧ Q (.int (cut (x * j.grow))) H
theorem ok_grown (D : Def K mg "grown" s_grown ["job", "wait"]) (B : Bw mg) (J : JCls K mg C) {tm : Tok} (hM : mg "MOST_WAIT" = some (.int 100000 tm)) : Knows P w K mg base 1 "grown" ["job", "wait"] (spGrown C) := by
  refine D.ok sc_grown (fun vs H Q E h => ?_) (fun f cdv A outer s H vs Q E hr h => ?_)
  · obtain ⟨p, j, x, rfl, _⟩ := h
    rfl
  · obtain ⟨p, j, x, rfl, ja, jo, q⟩ := h
    obtain ⟨dx, l, hp, hl⟩ := ja.ex
    have hg := jo.grow
    refine ⟨_, by exact (pss_one (ps_ret (pe_bcall (call_min2 rfl) rfl B.min boot_min (pa_c (pe_op op_mul (pv 1) (pe_fld (pv 0) rfl)) (pa_c (pe_glob (v := .int 100000) rfl hM ⟨_, rfl⟩) pa_nil))))), ?_⟩
    exact ⟨_, rfl, _, rfl, p, C, dx, _, _, rfl, hp, J.cl, J.n7, rfl, _, _, rfl, rfl, .inr ⟨by omega, by omega⟩, _, _, rfl, q⟩
def spWait (C : Addr) : Sp := fun vs H Q _ => ∃ (p : Addr) (j : Jb) (n : Nat), vs = [.ref p, .int ((n + 1 : Nat) : Int)] ∧ JobAt C H p j ∧ j.Ok ∧ Q (.int (rest j.wait j.grow n)) H
theorem ok_wait (D : Def K mg "wait_after" s_wait_after ["job", "fails"]) (B : Bw mg) (J : JCls K mg C) (k_grown : Knows P w K mg base 1 "grown" ["job", "wait"] (spGrown C)) : Knows P w K mg base 2 "wait_after" ["job", "fails"] (spWait C) := by
  refine D.ok sc_wait_after (fun vs H Q E h => ?_) (fun f cdv A outer s H vs Q E hr h => ?_)
  · obtain ⟨p, j, n, rfl, _⟩ := h
    rfl
  · obtain ⟨p, j, n, rfl, ja, jo, q⟩ := h
    obtain ⟨dx, l, hp, hl⟩ := ja.ex
    have hg := jo.grow
    have hw := jo.wait
    refine ⟨_, by exact (pss_cons (ps_set (i := 2) sc_wait_after.nd rfl (Or.inl rfl) (pe_fld (pv 0) rfl))
      (pss_cons (ps_set (i := 3) sc_wait_after.nd rfl (Or.inl rfl) pe_int)
      (pss_cons (ps_while PassesOwn.never (PW.pt (pw_and (pt_cmpR op_lt (pv 3) (pv 1) (nomark _)) (pw_and1 (pt_cmpR op_lt (pv 2) (pe_callM k_grown hr (pa_c (pv 0) (pa_c (pv 2) pa_nil))) (nomark _))))) (pss_cons (ps_set (i := 2) sc_wait_after.nd rfl (Or.inl rfl) (pe_callM k_grown hr (pa_c (pv 0) (pa_c (pv 2) pa_nil))))
      (pss_one (ps_aug (i := 3) sc_wait_after.nd rfl (Or.inl rfl) pe_int ip_add))))
      (pss_one (ps_ret (pv 2)))))), ?_⟩
    refine ⟨_, rfl, p, C, dx, _, _, rfl, hp, J.cl, J.n6, rfl, ?_⟩
    refine while_by (fun σ H1 => H1 = H ∧ ∃ b : Nat, b ≤ n ∧ σ = [some (.ref p), some (.int ((n + 1 : Nat) : Int)), some (.int (rest j.wait j.grow b)), some (.int ((b + 1 : Nat) : Int))])
      (fun σ H1 => ((n : Int) + 1 - intAt (σ[3]?)).toNat) ?_ ?_ ?_
    · refine ⟨rfl, 0, Nat.zero_le _, ?_⟩
      rw [rest_zero (by omega)]
      rfl
    · rintro σ H1 ⟨rfl, b, hb, rfl⟩
      have st := rest_step hg.1 b (pow_nonneg' hw.1 hg.1 b)
      refine ⟨_, rfl, _, rfl, _, _, rfl, rfl, _, rfl, ?_⟩
      refine ite2 (fun h1 => ?_) (fun h1 => iteF ⟨_, rfl, ?_⟩)
      · have hbn : b < n := by have := of_decide_eq_true h1; omega
        refine ⟨_, rfl, _, rfl, _, rfl, p, j, _, rfl, ja, jo, _, _, rfl, rfl, _, rfl, ?_⟩
        rw [st]
        refine ite2 (fun h2 => ?_) (fun h2 => ⟨_, rfl, ?_⟩)
        · refine ⟨_, rfl, _, rfl, p, j, _, rfl, ja, jo, ?_⟩
          rw [st]
          refine ⟨_, rfl, _, _, rfl, rfl, ⟨rfl, b + 1, hbn, ?_⟩, ?_⟩
          · show _ = [some (V.ref p), some (.int ((n + 1 : Nat) : Int)), some (.int (rest j.wait j.grow (b + 1))), some (.int ((b + 1 + 1 : Nat) : Int))]
            have e : ((b + 1 + 1 : Nat) : Int) = ((b + 1 : Nat) : Int) + 1 := by omega
            rw [e]
            rfl
          · show ((n : Int) + 1 - (((b + 1 : Nat) : Int) + 1)).toNat < ((n : Int) + 1 - ((b + 1 : Nat) : Int)).toNat
            omega
        · have h3 : ¬ rest j.wait j.grow b < rest j.wait j.grow (b + 1) := fun z => h2 (decide_eq_true z)
          have := rest_still hw.1 hg.1 h3 (n - b)
          rw [Nat.add_sub_cancel' hb] at this
          rw [← this]
          exact q
      · have hbn : b = n := by
          have : ¬ (((b + 1 : Nat) : Int) < ((n + 1 : Nat) : Int)) := fun z => h1 (decide_eq_true z)
          omega
        subst hbn
        exact q
    · intro σ H3 Q1 Q2 hQ h
      obtain ⟨v, e, v', e', i, i', ei, ei', b, eb, q'⟩ := h
      refine ⟨v, e, v', e', i, i', ei, ei', b, eb, ?_⟩
      cases b with
      | false => exact hQ _ _ q'
      | true =>
        obtain ⟨v, e, v', e', v'', e'', p', j', x', ev, h1, h2, i, i', ei, ei', b, eb, q'⟩ := q'
        exact ⟨v, e, v', e', v'', e'', p', j', x', ev, h1, h2, i, i', ei, ei', b, eb, hQ _ _ q'⟩
end
end K12

set_option Elab.async false
set_option linter.all false
set_option maxRecDepth 100000
set_option maxHeartbeats 4000000
set_option pp.maxSteps 600
set_option pp.deepTerms false
namespace K12
open PySem L2 PyProof.Rows
inductive Kd where
  | blocked
  | ready
  | leased
  | resting
  | done
  | broken
  | cut
  deriving DecidableEq
inductive Sta where
  | blocked (n : Nat)
  | ready (f : Nat)
  | leased (f : Nat) (n : Int)
  | resting (f : Nat) (u : Int)
  | done (f : Nat) (n : Int) (u : Int)
  | broken (f : Nat) (z : Str)
  | cut (n : Int)
def Sta.kd : Sta → Kd
  | .blocked _ => .blocked
  | .ready _ => .ready
  | .leased _ _ => .leased
  | .resting _ _ => .resting
  | .done _ _ _ => .done
  | .broken _ _ => .broken
  | .cut _ => .cut
def Kd.word : Kd → Str
  | .blocked => "blocked"
  | .ready => "ready"
  | .leased => "leased"
  | .resting => "resting"
  | .done => "done"
  | .broken => "broken"
  | .cut => "cut"
def Sta.flds : Sta → List (Str × V)
  | .blocked n => [("left", .int (n : Int))]
  | .ready f => [("fails", .int (f : Int))]
  | .leased f n => [("fails", .int (f : Int)), ("number", .int n)]
  | .resting f u => [("fails", .int (f : Int)), ("until", .int u)]
  | .done f n u => [("fails", .int (f : Int)), ("number", .int n), ("turn", .int u)]
  | .broken f z => [("fails", .int (f : Int)), ("why", .str z)]
  | .cut n => [("need", .int n)]
def Sta.told : Sta → List V
  | .blocked n => [.str "blocked", .int (n : Int)]
  | .ready f => [.str "ready", .int (f : Int)]
  | .leased f n => [.str "leased", .int (f : Int), .int n]
  | .resting f u => [.str "resting", .int (f : Int), .int u]
  | .done f n u => [.str "done", .int (f : Int), .int n, .int u]
  | .broken f z => [.str "broken", .int (f : Int), .str z]
  | .cut n => [.str "cut", .int n]
def Sta.fails : Sta → Nat
  | .blocked _ => 0
  | .ready f => f
  | .leased f _ => f
  | .resting f _ => f
  | .done f _ _ => f
  | .broken f _ => f
  | .cut _ => 0
def Kd.over : Kd → Bool
  | .done | .broken | .cut => true
  | _ => false
structure StAt (c : Kd → Addr) (H : Hp) (p : Addr) (s : Sta) : Prop where
  ex : ∃ dx, H p = some (.ins (c s.kd) dx s.flds)
theorem StAt.same {c : Kd → Addr} {H H' : Hp} {p : Addr} {s : Sta} (h : StAt c H p s) (e : Same H H') : StAt c H' p s := by
  obtain ⟨dx, h⟩ := h.ex
  exact ⟨dx, e _ _ h⟩
structure SCls (K : PySem.W.Frag) (mg : Str → Option Value) (c : Kd → Addr) (cS cO cV : Addr) : Prop where
  cl : ∀ k, Cls K (c k)
  na : ∀ s : Sta, ∀ f ∈ s.flds.map (·.1), NoAttr K (c s.kd) f
  hc : ∀ k, PySem.W.findIn K (.ref (c k)) "__class__" = some (some (.builtin "object.__class__"))
  hn : PySem.W.specialIn K (.builtin "object.__class__") "__get__" = some (some (.builtin "getset_descriptor.__get__"))
  htk : PySem.W.takesIn K (.builtin "object.__class__") = some true
  hm : ∀ k, PySem.W.mroIn K (c k) (.type "object") = some true
  is : ∀ k k', PySem.W.kitOne K (.ref (c k)) (.ref (c k')) = some (decide (k = k'))
  isS : ∀ k, PySem.W.kitOne K (.ref (c k)) (.ref cS) = some true
  isO : ∀ k, PySem.W.kitOne K (.ref (c k)) (.ref cO) = some (!k.over)
  isV : ∀ k, PySem.W.kitOne K (.ref (c k)) (.ref cV) = some k.over
  gS : mg "State" = some (.ref cS)
  gO : mg "Open" = some (.ref cO)
  gV : mg "Over" = some (.ref cV)
  gBlocked : mg "Blocked" = some (.ref (c .blocked))
  gReady : mg "Ready" = some (.ref (c .ready))
  gLeased : mg "Leased" = some (.ref (c .leased))
  gResting : mg "Resting" = some (.ref (c .resting))
  gDone : mg "Done" = some (.ref (c .done))
  gBroken : mg "Broken" = some (.ref (c .broken))
  gCut : mg "Cut" = some (.ref (c .cut))
theorem SCls.ty {K : PySem.W.Frag} {mg : Str → Option Value} {c : Kd → Addr} {cS cO cV : Addr} (S : SCls K mg c cS cO cV) {H : Hp} {p : Addr} {s : Sta} (h : StAt c H p s) : TyOf K H (.ref p) (.ref (c s.kd)) := by
  obtain ⟨dx, h⟩ := h.ex
  exact .ins h (S.cl _) (S.hc _) S.hn S.htk (S.hm _)
def spMk (C : Addr) (ns : List Str) : Sp := fun vs H Q _ => ∃ (p dx : Addr) (xs : List V), vs = .ref p :: xs ∧ xs.length = ns.length ∧ H p = some (.ins C dx []) ∧ ∀ H', Chg [p] H H' → H' p = some (.ins C dx (ns.zip xs)) → Q .non H'
theorem mk_use {C : Addr} {ns : List Str} {xs : List V} {H : Hp} {Q : VK} {E : XK} (hl : xs.length = ns.length) (k : ∀ x dx H', Same H H' → H' x = some (.ins C dx (ns.zip xs)) → Q (.ref x) H') : ∀ x dx, H x = none → H dx = none → dx ≠ x → spMk C ns (.ref x :: (xs ++ [])) (upd (upd H dx (.own x)) x (.ins C dx [])) (fun v H2 => v = .non ∧ Q (.ref x) H2) E := by
  intro x dx hx hd hne
  refine ⟨x, dx, xs, by rw [List.append_nil], hl, upd_same, fun H' ch h' => ⟨rfl, k x dx H' (fun b o e => ?_) h'⟩⟩
  have b1 : b ≠ x := ne_of_none e hx
  refine ch b o (fun z => b1 (List.mem_singleton.mp z)) ?_
  rw [upd_ne b1, upd_ne (ne_of_none e hd)]
  exact e
section
variable {P : Program} {w : World} {K : PySem.W.Frag} {mg : Str → Option Value} {base : Heap} {c : Kd → Addr} {cS cO cV C : Addr}
theorem ok_mkBlocked (D : IDef K (c .blocked) "Blocked.__init__" s_Blocked___init__ ["self", "left"]) (S : SCls K mg c cS cO cV) : KnowsI CX0 P w K mg base 1 (c .blocked) ["self", "left"] (spMk (c .blocked) ["left"]) := D.knows fun f fd F => by
  refine F.ok sc_Blocked___init__ (fun vs H Q E h => ?_) (fun cdv A outer s H vs Q E hr h => ?_)
  · obtain ⟨p, dx, xs, rfl, hl, _⟩ := h
    rw [List.length_cons, hl]
    rfl
  · obtain ⟨p, dx, xs, rfl, hl, hp, q⟩ := h
    match xs, hl with
    | [x0], _ =>
      refine ⟨_, by exact (pss_one (ps_fld (pv 0) (pv 1) rfl)), ?_⟩
      refine ⟨_, rfl, _, rfl, p, _, dx, _, rfl, hp, S.cl _, S.na (.blocked 0) _ (by decide), (by show 0 < 1000; decide), ?_⟩
      refine q _ (fun b o hb e => ?_) upd_same
      have hb' : b ≠ p := fun z => hb (by simp [z])
      rw [upd_ne hb']
      exact e
theorem ok_mkReady (D : IDef K (c .ready) "Ready.__init__" s_Ready___init__ ["self", "fails"]) (S : SCls K mg c cS cO cV) : KnowsI CX0 P w K mg base 1 (c .ready) ["self", "fails"] (spMk (c .ready) ["fails"]) := D.knows fun f fd F => by
  refine F.ok sc_Ready___init__ (fun vs H Q E h => ?_) (fun cdv A outer s H vs Q E hr h => ?_)
  · obtain ⟨p, dx, xs, rfl, hl, _⟩ := h
    rw [List.length_cons, hl]
    rfl
  · obtain ⟨p, dx, xs, rfl, hl, hp, q⟩ := h
    match xs, hl with
    | [x0], _ =>
      refine ⟨_, by exact (pss_one (ps_fld (pv 0) (pv 1) rfl)), ?_⟩
      refine ⟨_, rfl, _, rfl, p, _, dx, _, rfl, hp, S.cl _, S.na (.ready 0) _ (by decide), (by show 0 < 1000; decide), ?_⟩
      refine q _ (fun b o hb e => ?_) upd_same
      have hb' : b ≠ p := fun z => hb (by simp [z])
      rw [upd_ne hb']
      exact e
theorem ok_mkLeased (D : IDef K (c .leased) "Leased.__init__" s_Leased___init__ ["self", "fails", "number"]) (S : SCls K mg c cS cO cV) : KnowsI CX0 P w K mg base 1 (c .leased) ["self", "fails", "number"] (spMk (c .leased) ["fails", "number"]) := D.knows fun f fd F => by
  refine F.ok sc_Leased___init__ (fun vs H Q E h => ?_) (fun cdv A outer s H vs Q E hr h => ?_)
  · obtain ⟨p, dx, xs, rfl, hl, _⟩ := h
    rw [List.length_cons, hl]
    rfl
  · obtain ⟨p, dx, xs, rfl, hl, hp, q⟩ := h
    match xs, hl with
    | [x0, x1], _ =>
      refine ⟨_, by exact (pss_cons (ps_fld (pv 0) (pv 1) rfl) (pss_one (ps_fld (pv 0) (pv 2) rfl))), ?_⟩
      refine ⟨_, rfl, _, rfl, p, _, dx, _, rfl, hp, S.cl _, S.na (.leased 0 0) _ (by decide), (by show 0 < 1000; decide), ?_⟩
      refine ⟨_, rfl, _, rfl, p, _, dx, _, rfl, upd_same, S.cl _, S.na (.leased 0 0) _ (by decide), (by show 1 < 1000; decide), ?_⟩
      refine q _ (fun b o hb e => ?_) upd_same
      have hb' : b ≠ p := fun z => hb (by simp [z])
      rw [upd_ne hb', upd_ne hb']
      exact e
theorem ok_mkResting (D : IDef K (c .resting) "Resting.__init__" s_Resting___init__ ["self", "fails", "until"]) (S : SCls K mg c cS cO cV) : KnowsI CX0 P w K mg base 1 (c .resting) ["self", "fails", "until"] (spMk (c .resting) ["fails", "until"]) := D.knows fun f fd F => by
  refine F.ok sc_Resting___init__ (fun vs H Q E h => ?_) (fun cdv A outer s H vs Q E hr h => ?_)
  · obtain ⟨p, dx, xs, rfl, hl, _⟩ := h
    rw [List.length_cons, hl]
    rfl
  · obtain ⟨p, dx, xs, rfl, hl, hp, q⟩ := h
    match xs, hl with
    | [x0, x1], _ =>
      refine ⟨_, by exact (pss_cons (ps_fld (pv 0) (pv 1) rfl) (pss_one (ps_fld (pv 0) (pv 2) rfl))), ?_⟩
      refine ⟨_, rfl, _, rfl, p, _, dx, _, rfl, hp, S.cl _, S.na (.resting 0 0) _ (by decide), (by show 0 < 1000; decide), ?_⟩
      refine ⟨_, rfl, _, rfl, p, _, dx, _, rfl, upd_same, S.cl _, S.na (.resting 0 0) _ (by decide), (by show 1 < 1000; decide), ?_⟩
      refine q _ (fun b o hb e => ?_) upd_same
      have hb' : b ≠ p := fun z => hb (by simp [z])
      rw [upd_ne hb', upd_ne hb']
      exact e
theorem ok_mkDone (D : IDef K (c .done) "Done.__init__" s_Done___init__ ["self", "fails", "number", "turn"]) (S : SCls K mg c cS cO cV) : KnowsI CX0 P w K mg base 1 (c .done) ["self", "fails", "number", "turn"] (spMk (c .done) ["fails", "number", "turn"]) := D.knows fun f fd F => by
  refine F.ok sc_Done___init__ (fun vs H Q E h => ?_) (fun cdv A outer s H vs Q E hr h => ?_)
  · obtain ⟨p, dx, xs, rfl, hl, _⟩ := h
    rw [List.length_cons, hl]
    rfl
  · obtain ⟨p, dx, xs, rfl, hl, hp, q⟩ := h
    match xs, hl with
    | [x0, x1, x2], _ =>
      refine ⟨_, by exact (pss_cons (ps_fld (pv 0) (pv 1) rfl) (pss_cons (ps_fld (pv 0) (pv 2) rfl) (pss_one (ps_fld (pv 0) (pv 3) rfl)))), ?_⟩
      refine ⟨_, rfl, _, rfl, p, _, dx, _, rfl, hp, S.cl _, S.na (.done 0 0 0) _ (by decide), (by show 0 < 1000; decide), ?_⟩
      refine ⟨_, rfl, _, rfl, p, _, dx, _, rfl, upd_same, S.cl _, S.na (.done 0 0 0) _ (by decide), (by show 1 < 1000; decide), ?_⟩
      refine ⟨_, rfl, _, rfl, p, _, dx, _, rfl, upd_same, S.cl _, S.na (.done 0 0 0) _ (by decide), (by show 2 < 1000; decide), ?_⟩
      refine q _ (fun b o hb e => ?_) upd_same
      have hb' : b ≠ p := fun z => hb (by simp [z])
      rw [upd_ne hb', upd_ne hb', upd_ne hb']
      exact e
theorem ok_mkBroken (D : IDef K (c .broken) "Broken.__init__" s_Broken___init__ ["self", "fails", "why"]) (S : SCls K mg c cS cO cV) : KnowsI CX0 P w K mg base 1 (c .broken) ["self", "fails", "why"] (spMk (c .broken) ["fails", "why"]) := D.knows fun f fd F => by
  refine F.ok sc_Broken___init__ (fun vs H Q E h => ?_) (fun cdv A outer s H vs Q E hr h => ?_)
  · obtain ⟨p, dx, xs, rfl, hl, _⟩ := h
    rw [List.length_cons, hl]
    rfl
  · obtain ⟨p, dx, xs, rfl, hl, hp, q⟩ := h
    match xs, hl with
    | [x0, x1], _ =>
      refine ⟨_, by exact (pss_cons (ps_fld (pv 0) (pv 1) rfl) (pss_one (ps_fld (pv 0) (pv 2) rfl))), ?_⟩
      refine ⟨_, rfl, _, rfl, p, _, dx, _, rfl, hp, S.cl _, S.na (.broken 0 "") _ (by decide), (by show 0 < 1000; decide), ?_⟩
      refine ⟨_, rfl, _, rfl, p, _, dx, _, rfl, upd_same, S.cl _, S.na (.broken 0 "") _ (by decide), (by show 1 < 1000; decide), ?_⟩
      refine q _ (fun b o hb e => ?_) upd_same
      have hb' : b ≠ p := fun z => hb (by simp [z])
      rw [upd_ne hb', upd_ne hb']
      exact e
theorem ok_mkCut (D : IDef K (c .cut) "Cut.__init__" s_Cut___init__ ["self", "need"]) (S : SCls K mg c cS cO cV) : KnowsI CX0 P w K mg base 1 (c .cut) ["self", "need"] (spMk (c .cut) ["need"]) := D.knows fun f fd F => by
  refine F.ok sc_Cut___init__ (fun vs H Q E h => ?_) (fun cdv A outer s H vs Q E hr h => ?_)
  · obtain ⟨p, dx, xs, rfl, hl, _⟩ := h
    rw [List.length_cons, hl]
    rfl
  · obtain ⟨p, dx, xs, rfl, hl, hp, q⟩ := h
    match xs, hl with
    | [x0], _ =>
      refine ⟨_, by exact (pss_one (ps_fld (pv 0) (pv 1) rfl)), ?_⟩
      refine ⟨_, rfl, _, rfl, p, _, dx, _, rfl, hp, S.cl _, S.na (.cut 0) _ (by decide), (by show 0 < 1000; decide), ?_⟩
      refine q _ (fun b o hb e => ?_) upd_same
      have hb' : b ≠ p := fun z => hb (by simp [z])
      rw [upd_ne hb']
      exact e
def spTold (c : Kd → Addr) (k : Kd) : Sp := fun vs H Q _ => ∃ (p : Addr) (s : Sta), vs = [.ref p] ∧ s.kd = k ∧ StAt c H p s ∧ ∀ t H', Same H H' → H' t = some (.tup s.told) → Q (.ref t) H'
def spFails (c : Kd → Addr) (k : Kd) : Sp := fun vs H Q _ => ∃ (p : Addr) (s : Sta), vs = [.ref p] ∧ s.kd = k ∧ StAt c H p s ∧ Q (.int (s.fails : Int)) H
def spOver (c : Kd → Addr) (k : Kd) : Sp := fun vs H Q _ => ∃ (p : Addr) (s : Sta), vs = [.ref p] ∧ s.kd = k ∧ StAt c H p s ∧ Q (.bl k.over) H
def spWord (c : Kd → Addr) (k : Kd) : Sp := fun vs H Q _ => ∃ (p : Addr) (s : Sta), vs = [.ref p] ∧ s.kd = k ∧ StAt c H p s ∧ ∀ H', Same H H' → Q (.str k.word) H'
theorem ok_toldBlocked (D : MDef K (c .blocked) "told" "Blocked.told" s_Blocked_told ["self"]) (S : SCls K mg c cS cO cV) : KnowsM CX0 P w K mg base 1 (c .blocked) "told" ["self"] (spTold c .blocked) := D.knows fun f fd F => by
  refine F.ok sc_Blocked_told (fun vs H Q E h => ?_) (fun cdv A outer s H vs Q E hr h => ?_)
  · obtain ⟨p, st, rfl, _⟩ := h
    rfl
  · obtain ⟨p, st, rfl, hk, ⟨dx, hp⟩, q⟩ := h
    match st, hk with
    | .blocked x0, _ =>
      refine ⟨_, by exact (pss_one (ps_ret (pe_tup (pa_c pe_str (pa_c (pe_fld (pv 0) rfl) pa_nil))))), ?_⟩
      refine ⟨_, rfl, p, _, dx, _, _, rfl, hp, S.cl _, S.na (.blocked 0) _ (by decide), rfl, ?_⟩
      exact ⟨by show 2 ≤ sizeLine; decide, fun t ht => q t _ (same_of ht) upd_same⟩
theorem ok_toldReady (D : MDef K (c .ready) "told" "Ready.told" s_Ready_told ["self"]) (S : SCls K mg c cS cO cV) : KnowsM CX0 P w K mg base 1 (c .ready) "told" ["self"] (spTold c .ready) := D.knows fun f fd F => by
  refine F.ok sc_Ready_told (fun vs H Q E h => ?_) (fun cdv A outer s H vs Q E hr h => ?_)
  · obtain ⟨p, st, rfl, _⟩ := h
    rfl
  · obtain ⟨p, st, rfl, hk, ⟨dx, hp⟩, q⟩ := h
    match st, hk with
    | .ready x0, _ =>
      refine ⟨_, by exact (pss_one (ps_ret (pe_tup (pa_c pe_str (pa_c (pe_fld (pv 0) rfl) pa_nil))))), ?_⟩
      refine ⟨_, rfl, p, _, dx, _, _, rfl, hp, S.cl _, S.na (.ready 0) _ (by decide), rfl, ?_⟩
      exact ⟨by show 2 ≤ sizeLine; decide, fun t ht => q t _ (same_of ht) upd_same⟩
theorem ok_failsReady (D : MDef K (c .ready) "count_fails" "Ready.count_fails" s_Ready_count_fails ["self"]) (S : SCls K mg c cS cO cV) : KnowsM CX0 P w K mg base 1 (c .ready) "count_fails" ["self"] (spFails c .ready) := D.knows fun f fd F => by
  refine F.ok sc_Ready_count_fails (fun vs H Q E h => ?_) (fun cdv A outer s H vs Q E hr h => ?_)
  · obtain ⟨p, st, rfl, _⟩ := h
    rfl
  · obtain ⟨p, st, rfl, hk, ⟨dx, hp⟩, q⟩ := h
    match st, hk with
    | .ready x0, _ =>
      refine ⟨_, by exact (pss_one (ps_ret (pe_fld (pv 0) rfl))), ?_⟩
      exact ⟨_, rfl, p, _, dx, _, _, rfl, hp, S.cl _, S.na (.ready 0) _ (by decide), rfl, q⟩
theorem ok_toldLeased (D : MDef K (c .leased) "told" "Leased.told" s_Leased_told ["self"]) (S : SCls K mg c cS cO cV) : KnowsM CX0 P w K mg base 1 (c .leased) "told" ["self"] (spTold c .leased) := D.knows fun f fd F => by
  refine F.ok sc_Leased_told (fun vs H Q E h => ?_) (fun cdv A outer s H vs Q E hr h => ?_)
  · obtain ⟨p, st, rfl, _⟩ := h
    rfl
  · obtain ⟨p, st, rfl, hk, ⟨dx, hp⟩, q⟩ := h
    match st, hk with
    | .leased x0 x1, _ =>
      refine ⟨_, by exact (pss_one (ps_ret (pe_tup (pa_c pe_str (pa_c (pe_fld (pv 0) rfl) (pa_c (pe_fld (pv 0) rfl) pa_nil)))))), ?_⟩
      refine ⟨_, rfl, p, _, dx, _, _, rfl, hp, S.cl _, S.na (.leased 0 0) _ (by decide), rfl, ?_⟩
      refine ⟨_, rfl, p, _, dx, _, _, rfl, hp, S.cl _, S.na (.leased 0 0) _ (by decide), rfl, ?_⟩
      exact ⟨by show 3 ≤ sizeLine; decide, fun t ht => q t _ (same_of ht) upd_same⟩
theorem ok_failsLeased (D : MDef K (c .leased) "count_fails" "Leased.count_fails" s_Leased_count_fails ["self"]) (S : SCls K mg c cS cO cV) : KnowsM CX0 P w K mg base 1 (c .leased) "count_fails" ["self"] (spFails c .leased) := D.knows fun f fd F => by
  refine F.ok sc_Leased_count_fails (fun vs H Q E h => ?_) (fun cdv A outer s H vs Q E hr h => ?_)
  · obtain ⟨p, st, rfl, _⟩ := h
    rfl
  · obtain ⟨p, st, rfl, hk, ⟨dx, hp⟩, q⟩ := h
    match st, hk with
    | .leased x0 x1, _ =>
      refine ⟨_, by exact (pss_one (ps_ret (pe_fld (pv 0) rfl))), ?_⟩
      exact ⟨_, rfl, p, _, dx, _, _, rfl, hp, S.cl _, S.na (.leased 0 0) _ (by decide), rfl, q⟩
theorem ok_toldResting (D : MDef K (c .resting) "told" "Resting.told" s_Resting_told ["self"]) (S : SCls K mg c cS cO cV) : KnowsM CX0 P w K mg base 1 (c .resting) "told" ["self"] (spTold c .resting) := D.knows fun f fd F => by
  refine F.ok sc_Resting_told (fun vs H Q E h => ?_) (fun cdv A outer s H vs Q E hr h => ?_)
  · obtain ⟨p, st, rfl, _⟩ := h
    rfl
  · obtain ⟨p, st, rfl, hk, ⟨dx, hp⟩, q⟩ := h
    match st, hk with
    | .resting x0 x1, _ =>
      refine ⟨_, by exact (pss_one (ps_ret (pe_tup (pa_c pe_str (pa_c (pe_fld (pv 0) rfl) (pa_c (pe_fld (pv 0) rfl) pa_nil)))))), ?_⟩
      refine ⟨_, rfl, p, _, dx, _, _, rfl, hp, S.cl _, S.na (.resting 0 0) _ (by decide), rfl, ?_⟩
      refine ⟨_, rfl, p, _, dx, _, _, rfl, hp, S.cl _, S.na (.resting 0 0) _ (by decide), rfl, ?_⟩
      exact ⟨by show 3 ≤ sizeLine; decide, fun t ht => q t _ (same_of ht) upd_same⟩
theorem ok_failsResting (D : MDef K (c .resting) "count_fails" "Resting.count_fails" s_Resting_count_fails ["self"]) (S : SCls K mg c cS cO cV) : KnowsM CX0 P w K mg base 1 (c .resting) "count_fails" ["self"] (spFails c .resting) := D.knows fun f fd F => by
  refine F.ok sc_Resting_count_fails (fun vs H Q E h => ?_) (fun cdv A outer s H vs Q E hr h => ?_)
  · obtain ⟨p, st, rfl, _⟩ := h
    rfl
  · obtain ⟨p, st, rfl, hk, ⟨dx, hp⟩, q⟩ := h
    match st, hk with
    | .resting x0 x1, _ =>
      refine ⟨_, by exact (pss_one (ps_ret (pe_fld (pv 0) rfl))), ?_⟩
      exact ⟨_, rfl, p, _, dx, _, _, rfl, hp, S.cl _, S.na (.resting 0 0) _ (by decide), rfl, q⟩
theorem ok_toldDone (D : MDef K (c .done) "told" "Done.told" s_Done_told ["self"]) (S : SCls K mg c cS cO cV) : KnowsM CX0 P w K mg base 1 (c .done) "told" ["self"] (spTold c .done) := D.knows fun f fd F => by
  refine F.ok sc_Done_told (fun vs H Q E h => ?_) (fun cdv A outer s H vs Q E hr h => ?_)
  · obtain ⟨p, st, rfl, _⟩ := h
    rfl
  · obtain ⟨p, st, rfl, hk, ⟨dx, hp⟩, q⟩ := h
    match st, hk with
    | .done x0 x1 x2, _ =>
      refine ⟨_, by exact (pss_one (ps_ret (pe_tup (pa_c pe_str (pa_c (pe_fld (pv 0) rfl) (pa_c (pe_fld (pv 0) rfl) (pa_c (pe_fld (pv 0) rfl) pa_nil))))))), ?_⟩
      refine ⟨_, rfl, p, _, dx, _, _, rfl, hp, S.cl _, S.na (.done 0 0 0) _ (by decide), rfl, ?_⟩
      refine ⟨_, rfl, p, _, dx, _, _, rfl, hp, S.cl _, S.na (.done 0 0 0) _ (by decide), rfl, ?_⟩
      refine ⟨_, rfl, p, _, dx, _, _, rfl, hp, S.cl _, S.na (.done 0 0 0) _ (by decide), rfl, ?_⟩
      exact ⟨by show 4 ≤ sizeLine; decide, fun t ht => q t _ (same_of ht) upd_same⟩
theorem ok_failsDone (D : MDef K (c .done) "count_fails" "Done.count_fails" s_Done_count_fails ["self"]) (S : SCls K mg c cS cO cV) : KnowsM CX0 P w K mg base 1 (c .done) "count_fails" ["self"] (spFails c .done) := D.knows fun f fd F => by
  refine F.ok sc_Done_count_fails (fun vs H Q E h => ?_) (fun cdv A outer s H vs Q E hr h => ?_)
  · obtain ⟨p, st, rfl, _⟩ := h
    rfl
  · obtain ⟨p, st, rfl, hk, ⟨dx, hp⟩, q⟩ := h
    match st, hk with
    | .done x0 x1 x2, _ =>
      refine ⟨_, by exact (pss_one (ps_ret (pe_fld (pv 0) rfl))), ?_⟩
      exact ⟨_, rfl, p, _, dx, _, _, rfl, hp, S.cl _, S.na (.done 0 0 0) _ (by decide), rfl, q⟩
theorem ok_toldBroken (D : MDef K (c .broken) "told" "Broken.told" s_Broken_told ["self"]) (S : SCls K mg c cS cO cV) : KnowsM CX0 P w K mg base 1 (c .broken) "told" ["self"] (spTold c .broken) := D.knows fun f fd F => by
  refine F.ok sc_Broken_told (fun vs H Q E h => ?_) (fun cdv A outer s H vs Q E hr h => ?_)
  · obtain ⟨p, st, rfl, _⟩ := h
    rfl
  · obtain ⟨p, st, rfl, hk, ⟨dx, hp⟩, q⟩ := h
    match st, hk with
    | .broken x0 x1, _ =>
      refine ⟨_, by exact (pss_one (ps_ret (pe_tup (pa_c pe_str (pa_c (pe_fld (pv 0) rfl) (pa_c (pe_fld (pv 0) rfl) pa_nil)))))), ?_⟩
      refine ⟨_, rfl, p, _, dx, _, _, rfl, hp, S.cl _, S.na (.broken 0 "") _ (by decide), rfl, ?_⟩
      refine ⟨_, rfl, p, _, dx, _, _, rfl, hp, S.cl _, S.na (.broken 0 "") _ (by decide), rfl, ?_⟩
      exact ⟨by show 3 ≤ sizeLine; decide, fun t ht => q t _ (same_of ht) upd_same⟩
theorem ok_failsBroken (D : MDef K (c .broken) "count_fails" "Broken.count_fails" s_Broken_count_fails ["self"]) (S : SCls K mg c cS cO cV) : KnowsM CX0 P w K mg base 1 (c .broken) "count_fails" ["self"] (spFails c .broken) := D.knows fun f fd F => by
  refine F.ok sc_Broken_count_fails (fun vs H Q E h => ?_) (fun cdv A outer s H vs Q E hr h => ?_)
  · obtain ⟨p, st, rfl, _⟩ := h
    rfl
  · obtain ⟨p, st, rfl, hk, ⟨dx, hp⟩, q⟩ := h
    match st, hk with
    | .broken x0 x1, _ =>
      refine ⟨_, by exact (pss_one (ps_ret (pe_fld (pv 0) rfl))), ?_⟩
      exact ⟨_, rfl, p, _, dx, _, _, rfl, hp, S.cl _, S.na (.broken 0 "") _ (by decide), rfl, q⟩
theorem ok_toldCut (D : MDef K (c .cut) "told" "Cut.told" s_Cut_told ["self"]) (S : SCls K mg c cS cO cV) : KnowsM CX0 P w K mg base 1 (c .cut) "told" ["self"] (spTold c .cut) := D.knows fun f fd F => by
  refine F.ok sc_Cut_told (fun vs H Q E h => ?_) (fun cdv A outer s H vs Q E hr h => ?_)
  · obtain ⟨p, st, rfl, _⟩ := h
    rfl
  · obtain ⟨p, st, rfl, hk, ⟨dx, hp⟩, q⟩ := h
    match st, hk with
    | .cut x0, _ =>
      refine ⟨_, by exact (pss_one (ps_ret (pe_tup (pa_c pe_str (pa_c (pe_fld (pv 0) rfl) pa_nil))))), ?_⟩
      refine ⟨_, rfl, p, _, dx, _, _, rfl, hp, S.cl _, S.na (.cut 0) _ (by decide), rfl, ?_⟩
      exact ⟨by show 2 ≤ sizeLine; decide, fun t ht => q t _ (same_of ht) upd_same⟩
theorem ok_fails0 {k : Kd} (D : MDef K (c k) "count_fails" "State.count_fails" s_State_count_fails ["self"]) (hk0 : ∀ s : Sta, s.kd = k → s.fails = 0) : KnowsM CX0 P w K mg base 1 (c k) "count_fails" ["self"] (spFails c k) := D.knows fun f fd F => by
  refine F.ok sc_State_count_fails (fun vs H Q E h => ?_) (fun cdv A outer s H vs Q E hr h => ?_)
  · obtain ⟨p, st, rfl, _⟩ := h
    rfl
  · obtain ⟨p, st, rfl, hk, ⟨dx, hp⟩, q⟩ := h
    refine ⟨_, by exact (pss_one (ps_ret pe_int)), ?_⟩
    rw [hk0 st hk] at q
    exact q
theorem ok_over0 {k : Kd} (D : MDef K (c k) "is_over" "State.is_over" s_State_is_over ["self"]) (hk0 : k.over = false) : KnowsM CX0 P w K mg base 1 (c k) "is_over" ["self"] (spOver c k) := D.knows fun f fd F => by
  refine F.ok sc_State_is_over (fun vs H Q E h => ?_) (fun cdv A outer s H vs Q E hr h => ?_)
  · obtain ⟨p, st, rfl, _⟩ := h
    rfl
  · obtain ⟨p, st, rfl, hk, ⟨dx, hp⟩, q⟩ := h
    refine ⟨_, by exact (pss_one (ps_ret pe_bl)), ?_⟩
    rw [hk0] at q
    exact q
theorem ok_over1 {k : Kd} (D : MDef K (c k) "is_over" "Over.is_over" s_Over_is_over ["self"]) (hk0 : k.over = true) : KnowsM CX0 P w K mg base 1 (c k) "is_over" ["self"] (spOver c k) := D.knows fun f fd F => by
  refine F.ok sc_Over_is_over (fun vs H Q E h => ?_) (fun cdv A outer s H vs Q E hr h => ?_)
  · obtain ⟨p, st, rfl, _⟩ := h
    rfl
  · obtain ⟨p, st, rfl, hk, ⟨dx, hp⟩, q⟩ := h
    refine ⟨_, by exact (pss_one (ps_ret pe_bl)), ?_⟩
    rw [hk0] at q
    exact q
theorem no_told (s : Sta) : s.flds.lookup ("told" : Str) = none := by cases s <;> rfl
theorem no_fails (s : Sta) : s.flds.lookup ("count_fails" : Str) = none := by cases s <;> rfl
theorem no_over (s : Sta) : s.flds.lookup ("is_over" : Str) = none := by cases s <;> rfl
theorem no_word (s : Sta) : s.flds.lookup ("word" : Str) = none := by cases s <;> rfl
theorem told_word (s : Sta) : s.told[0]? = some (.str s.kd.word) := by cases s <;> rfl
theorem ok_word {k : Kd} (D : MDef K (c k) "word" "State.word" s_State_word ["self"]) (k_told : KnowsD CX0 P w K mg base 1 c "told" ["self"] (spTold c)) : KnowsM CX0 P w K mg base 2 (c k) "word" ["self"] (spWord c k) := D.knows fun f fd F => by
  refine F.ok sc_State_word (fun vs H Q E h => ?_) (fun cdv A outer s H vs Q E hr h => ?_)
  · obtain ⟨p, st, rfl, _⟩ := h
    rfl
  · obtain ⟨p, st, rfl, rfl, hp, q⟩ := h
    obtain ⟨dx, h1⟩ := hp.ex
    refine ⟨_, by exact (pss_one (ps_ret (pe_ix ix_tup (pe_methD0 k_told hr pass0 (pv 0)) pe_int (fun _ _ => rfl)))), ?_⟩
    refine ⟨_, rfl, p, st.kd, dx, _, rfl, h1, no_told st, p, st, rfl, rfl, hp, fun t H' s1 ht => ?_⟩
    exact ⟨t, _, _, _, rfl, rfl, SqT.of ht, atI_nat (j := 0) (told_word st), q _ s1⟩
end
end K12

set_option Elab.async false
set_option linter.all false
set_option maxRecDepth 100000
set_option maxHeartbeats 4000000
set_option pp.maxSteps 600
set_option pp.deepTerms false
namespace K12
open PySem L2 PyProof.Rows
def firstN (n : Nat) : Sta := if n = 0 then .ready 0 else .blocked n
def freedTo (n : Nat) : Sta := if n = 1 then .ready 0 else .blocked (n - 1)
def failedTo (j : Jb) (f : Nat) (u : Int) (z : Str) : Sta := if ((f + 1 : Nat) : Int) = j.tries then .broken (f + 1) z else if rest j.wait j.grow f = 0 then .ready (f + 1) else .resting (f + 1) (u + rest j.wait j.grow f)
section
variable {P : Program} {w : World} {K : PySem.W.Frag} {mg : Str → Option Value} {base : Heap} {c : Kd → Addr} {cS cO cV C : Addr}
def spFreed (c : Kd → Addr) : Sp := fun vs H Q _ => ∃ (p : Addr) (n : Nat), vs = [.ref p] ∧ StAt c H p (.blocked n) ∧ 1 ≤ n ∧ ∀ q H', Same H H' → StAt c H' q (freedTo n) → Q (.ref q) H'
def spCutOff (c : Kd → Addr) : Sp := fun vs H Q _ => ∃ (p : Addr) (n : Nat) (m : Int), vs = [.ref p, .int m] ∧ StAt c H p (.blocked n) ∧ ∀ q H', Same H H' → StAt c H' q (.cut m) → Q (.ref q) H'
def spLeased (c : Kd → Addr) : Sp := fun vs H Q _ => ∃ (p : Addr) (f : Nat) (m : Int), vs = [.ref p, .int m] ∧ StAt c H p (.ready f) ∧ ∀ q H', Same H H' → StAt c H' q (.leased f m) → Q (.ref q) H'
def spEnded (c : Kd → Addr) : Sp := fun vs H Q _ => ∃ (p : Addr) (f : Nat) (n m : Int), vs = [.ref p, .int m] ∧ StAt c H p (.leased f n) ∧ ∀ q H', Same H H' → StAt c H' q (.done f n m) → Q (.ref q) H'
def spRested (c : Kd → Addr) : Sp := fun vs H Q _ => ∃ (p : Addr) (f : Nat) (n : Int), vs = [.ref p] ∧ StAt c H p (.resting f n) ∧ ∀ q H', Same H H' → StAt c H' q (.ready f) → Q (.ref q) H'
def spFailed (c : Kd → Addr) (C : Addr) : Sp := fun vs H Q _ => ∃ (p a : Addr) (j : Jb) (f : Nat) (n u : Int) (z : Str), vs = [.ref p, .ref a, .int u, .str z] ∧ StAt c H p (.leased f n) ∧ JobAt C H a j ∧ j.Ok ∧ ∀ q H', Same H H' → StAt c H' q (failedTo j f u z) → Q (.ref q) H'
def spFirst (c : Kd → Addr) (C : Addr) : Sp := fun vs H Q _ => ∃ (a : Addr) (j : Jb), vs = [.ref a] ∧ JobAt C H a j ∧ ∀ q H', Same H H' → StAt c H' q (firstN j.needs.length) → Q (.ref q) H'
theorem ok_freed (D : MDef K (c .blocked) "freed" "Blocked.freed" s_Blocked_freed ["self"]) (S : SCls K mg c cS cO cV) (i_Ready : KnowsI CX0 P w K mg base 1 (c .ready) ["self", "fails"] (spMk (c .ready) ["fails"])) (i_Blocked : KnowsI CX0 P w K mg base 1 (c .blocked) ["self", "left"] (spMk (c .blocked) ["left"])) : KnowsM CX0 P w K mg base 3 (c .blocked) "freed" ["self"] (spFreed c) := D.knows fun fa fd F => by
  refine F.ok sc_Blocked_freed (fun vs H Q E h => ?_) (fun cdv A outer s H vs Q E hr h => ?_)
  · obtain ⟨_, _, rfl, _⟩ := h
    rfl
  · obtain ⟨p, n, rfl, ⟨dx, hp⟩, q⟩ := h
    refine ⟨_, by exact (pss_one (ps_ret (pe_ifExp (pt_cmpR op_eq (pe_fld (pv 0) rfl) pe_int (nomark _)) (pe_makeM i_Ready hr S.gReady pass0 (pa_c pe_int pa_nil)) (pe_makeM i_Blocked hr S.gBlocked pass0 (pa_c (pe_op op_sub (pe_fld (pv 0) rfl) pe_int) pa_nil))))), ?_⟩
    obtain ⟨h1, q⟩ := q
    refine ⟨_, rfl, p, _, dx, _, _, rfl, hp, S.cl _, S.na (.blocked 0) _ (by decide), rfl, rfl, _, rfl, ?_⟩
    refine ite2 (fun hc => ?_) (fun hc => ?_)
    · have e : n = 1 := by
        have := of_decide_eq_true hc
        have : (n : Int) = 1 := by injection this
        omega
      refine mk_use rfl fun x dx' H' s' h' => q x H' s' ⟨dx', ?_⟩
      unfold freedTo
      rw [if_pos e]
      exact h'
    · have e : ¬ n = 1 := fun z => hc (by subst z; rfl)
      refine ⟨_, rfl, p, _, dx, _, _, rfl, hp, S.cl _, S.na (.blocked 0) _ (by decide), rfl, _, _, rfl, rfl, ?_⟩
      refine mk_use rfl fun x dx' H' s' h' => q x H' s' ⟨dx', ?_⟩
      unfold freedTo
      rw [if_neg e]
      show _ = some (HO.ins (c .blocked) dx' [("left", .int ((n - 1 : Nat) : Int))])
      rw [show ((n - 1 : Nat) : Int) = (n : Int) - 1 by omega]
      exact h'
theorem ok_cutoff (D : MDef K (c .blocked) "cut_off" "Blocked.cut_off" s_Blocked_cut_off ["self", "need"]) (S : SCls K mg c cS cO cV) (i_Cut : KnowsI CX0 P w K mg base 1 (c .cut) ["self", "need"] (spMk (c .cut) ["need"])) : KnowsM CX0 P w K mg base 3 (c .blocked) "cut_off" ["self", "need"] (spCutOff c) := D.knows fun fa fd F => by
  refine F.ok sc_Blocked_cut_off (fun vs H Q E h => ?_) (fun cdv A outer s H vs Q E hr h => ?_)
  · obtain ⟨_, _, _, rfl, _⟩ := h
    rfl
  · obtain ⟨p, n, m, rfl, ⟨dx, hp⟩, q⟩ := h
    refine ⟨_, by exact (pss_one (ps_ret (pe_makeM i_Cut hr S.gCut pass0 (pa_c (pv 1) pa_nil)))), ?_⟩
    exact ⟨_, rfl, mk_use rfl fun x dx' H' s' h' => q x H' s' ⟨dx', h'⟩⟩
theorem ok_leased (D : MDef K (c .ready) "leased" "Ready.leased" s_Ready_leased ["self", "number"]) (S : SCls K mg c cS cO cV) (i_Leased : KnowsI CX0 P w K mg base 1 (c .leased) ["self", "fails", "number"] (spMk (c .leased) ["fails", "number"])) : KnowsM CX0 P w K mg base 3 (c .ready) "leased" ["self", "number"] (spLeased c) := D.knows fun fa fd F => by
  refine F.ok sc_Ready_leased (fun vs H Q E h => ?_) (fun cdv A outer s H vs Q E hr h => ?_)
  · obtain ⟨_, _, _, rfl, _⟩ := h
    rfl
  · obtain ⟨p, f, m, rfl, ⟨dx, hp⟩, q⟩ := h
    refine ⟨_, by exact (pss_one (ps_ret (pe_makeM i_Leased hr S.gLeased pass0 (pa_c (pe_fld (pv 0) rfl) (pa_c (pv 1) pa_nil))))), ?_⟩
    exact ⟨_, rfl, p, _, dx, _, _, rfl, hp, S.cl _, S.na (.ready 0) _ (by decide), rfl, _, rfl, mk_use rfl fun x dx' H' s' h' => q x H' s' ⟨dx', h'⟩⟩
theorem ok_ended (D : MDef K (c .leased) "ended" "Leased.ended" s_Leased_ended ["self", "turn"]) (S : SCls K mg c cS cO cV) (i_Done : KnowsI CX0 P w K mg base 1 (c .done) ["self", "fails", "number", "turn"] (spMk (c .done) ["fails", "number", "turn"])) : KnowsM CX0 P w K mg base 3 (c .leased) "ended" ["self", "turn"] (spEnded c) := D.knows fun fa fd F => by
  refine F.ok sc_Leased_ended (fun vs H Q E h => ?_) (fun cdv A outer s H vs Q E hr h => ?_)
  · obtain ⟨_, _, _, _, rfl, _⟩ := h
    rfl
  · obtain ⟨p, f, n, m, rfl, ⟨dx, hp⟩, q⟩ := h
    refine ⟨_, by exact (pss_one (ps_ret (pe_makeM i_Done hr S.gDone pass0 (pa_c (pe_fld (pv 0) rfl) (pa_c (pe_fld (pv 0) rfl) (pa_c (pv 1) pa_nil)))))), ?_⟩
    exact ⟨_, rfl, p, _, dx, _, _, rfl, hp, S.cl _, S.na (.leased 0 0) _ (by decide), rfl, _, rfl, p, _, dx, _, _, rfl, hp, S.cl _, S.na (.leased 0 0) _ (by decide), rfl, _, rfl, mk_use rfl fun x dx' H' s' h' => q x H' s' ⟨dx', h'⟩⟩
theorem ok_rested (D : MDef K (c .resting) "rested" "Resting.rested" s_Resting_rested ["self"]) (S : SCls K mg c cS cO cV) (i_Ready : KnowsI CX0 P w K mg base 1 (c .ready) ["self", "fails"] (spMk (c .ready) ["fails"])) : KnowsM CX0 P w K mg base 3 (c .resting) "rested" ["self"] (spRested c) := D.knows fun fa fd F => by
  refine F.ok sc_Resting_rested (fun vs H Q E h => ?_) (fun cdv A outer s H vs Q E hr h => ?_)
  · obtain ⟨_, _, _, rfl, _⟩ := h
    rfl
  · obtain ⟨p, f, n, rfl, ⟨dx, hp⟩, q⟩ := h
    refine ⟨_, by exact (pss_one (ps_ret (pe_makeM i_Ready hr S.gReady pass0 (pa_c (pe_fld (pv 0) rfl) pa_nil)))), ?_⟩
    exact ⟨_, rfl, p, _, dx, _, _, rfl, hp, S.cl _, S.na (.resting 0 0) _ (by decide), rfl, mk_use rfl fun x dx' H' s' h' => q x H' s' ⟨dx', h'⟩⟩
theorem ok_failed (D : MDef K (c .leased) "failed" "Leased.failed" s_Leased_failed ["self", "job", "turn", "why"]) (S : SCls K mg c cS cO cV) (J : JCls K mg C) (k_wait : Knows P w K mg base 2 "wait_after" ["job", "fails"] (spWait C)) (i_Broken : KnowsI CX0 P w K mg base 1 (c .broken) ["self", "fails", "why"] (spMk (c .broken) ["fails", "why"])) (i_Ready : KnowsI CX0 P w K mg base 1 (c .ready) ["self", "fails"] (spMk (c .ready) ["fails"])) (i_Resting : KnowsI CX0 P w K mg base 1 (c .resting) ["self", "fails", "until"] (spMk (c .resting) ["fails", "until"])) : KnowsM CX0 P w K mg base 3 (c .leased) "failed" ["self", "job", "turn", "why"] (spFailed c C) := D.knows fun fa fd F => by
  refine F.ok sc_Leased_failed (fun vs H Q E h => ?_) (fun cdv A outer s H vs Q E hr h => ?_)
  · obtain ⟨_, _, _, _, _, _, _, rfl, _⟩ := h
    rfl
  · obtain ⟨p, a, j, f, n, u, z, rfl, ⟨dx, hp⟩, q⟩ := h
    refine ⟨_, by exact (pss_cons (ps_set (i := 4) sc_Leased_failed.nd rfl (Or.inl rfl) (pe_op op_add (pe_fld (pv 0) rfl) pe_int))
      (pss_cons (ps_if (pt_cmpR op_eq (pv 4) (pe_fld (pv 1) rfl) (nomark _)) (pss_one (ps_ret (pe_makeM i_Broken hr S.gBroken pass0 (pa_c (pv 4) (pa_c (pv 3) pa_nil))))) pss_nil)
      (pss_cons (ps_set (i := 5) sc_Leased_failed.nd rfl (Or.inl rfl) (pe_callM k_wait hr (pa_c (pv 1) (pa_c (pv 4) pa_nil))))
      (pss_one (ps_ret (pe_ifExp (pt_cmpR op_eq (pv 5) pe_int (nomark _)) (pe_makeM i_Ready hr S.gReady pass0 (pa_c (pv 4) pa_nil)) (pe_makeM i_Resting hr S.gResting pass0 (pa_c (pv 4) (pa_c (pe_op op_add (pv 2) (pv 5)) pa_nil))))))))), ?_⟩
    obtain ⟨ja, jo, q⟩ := q
    obtain ⟨dj, l, ha, hl⟩ := ja.ex
    have ef : (f : Int) + 1 = ((f + 1 : Nat) : Int) := by omega
    refine seq_use (fun v H' => v = .int ((f + 1 : Nat) : Int) ∧ H = H') (fun Q' kk => ⟨_, rfl, p, _, dx, _, _, rfl, hp, S.cl _, S.na (.leased 0 0) _ (by decide), rfl, _, _, rfl, rfl, kk _ _ ⟨by show V.int ((f : Int) + 1) = _; rw [ef], rfl⟩⟩) ?_
    rintro _ _ ⟨rfl, rfl⟩
    refine ⟨_, rfl, _, rfl, a, _, dj, _, _, rfl, ha, J.cl, J.n5, rfl, rfl, _, rfl, ?_⟩
    refine ite2 (fun hc => ?_) (fun hc => ?_)
    · have e : ((f + 1 : Nat) : Int) = j.tries := by
        have := of_decide_eq_true hc
        injection this
      refine ⟨_, rfl, _, rfl, ?_⟩
      refine mk_use rfl fun x dx' H' s' h' => q x H' s' ⟨dx', ?_⟩
      unfold failedTo
      rw [if_pos e]
      exact h'
    · have e : ¬ ((f + 1 : Nat) : Int) = j.tries := fun z => hc (by rw [z]; exact decide_eq_true rfl)
      refine ⟨_, rfl, _, rfl, a, j, f, rfl, ja, jo, ?_⟩
      refine ⟨_, rfl, rfl, _, rfl, ?_⟩
      refine ite2 (fun hd => ?_) (fun hd => ?_)
      · have e2 : rest j.wait j.grow f = 0 := by
          have := of_decide_eq_true hd
          injection this
        refine ⟨_, rfl, ?_⟩
        refine mk_use rfl fun x dx' H' s' h' => q x H' s' ⟨dx', ?_⟩
        unfold failedTo
        rw [if_neg e, if_pos e2]
        exact h'
      · have e2 : ¬ rest j.wait j.grow f = 0 := fun z => hd (by rw [z]; exact decide_eq_true rfl)
        refine ⟨_, rfl, _, rfl, _, rfl, _, _, rfl, rfl, ?_⟩
        refine mk_use rfl fun x dx' H' s' h' => q x H' s' ⟨dx', ?_⟩
        unfold failedTo
        rw [if_neg e, if_neg e2]
        exact h'
theorem ok_first (D : Def K mg "first_state" s_first_state ["job"]) (S : SCls K mg c cS cO cV) (B : Bw mg) (J : JCls K mg C) (i_Blocked : KnowsI CX0 P w K mg base 1 (c .blocked) ["self", "left"] (spMk (c .blocked) ["left"])) (i_Ready : KnowsI CX0 P w K mg base 1 (c .ready) ["self", "fails"] (spMk (c .ready) ["fails"])) : Knows P w K mg base 3 "first_state" ["job"] (spFirst c C) := by
  refine D.ok sc_first_state (fun vs H Q E h => ?_) (fun f cdv A outer s H vs Q E hr h => ?_)
  · obtain ⟨p, j, rfl, _⟩ := h
    rfl
  · obtain ⟨a, j, rfl, ja, q⟩ := h
    obtain ⟨dj, l, ha, hl⟩ := ja.ex
    refine ⟨_, by exact (pss_one (ps_ret (pe_ifExp (pt_truth (pe_fld (pv 0) rfl) (fun _ => rfl)) (pe_makeM i_Blocked hr S.gBlocked pass0 (pa_c (pe_bcall call_len_seq rfl B.j.b.len PySem.boot_len (pa_c (pe_fld (pv 0) rfl) pa_nil)) pa_nil)) (pe_makeM i_Ready hr S.gReady pass0 (pa_c pe_int pa_nil))))), ?_⟩
    refine ⟨_, rfl, a, _, dj, _, _, rfl, ha, J.cl, J.n2, rfl, _, .inl ⟨_, SqL.of hl, rfl⟩, ?_⟩
    refine ite2 (fun hc => ?_) (fun hc => ?_)
    · have e : ¬ j.needs.length = 0 := fun z => by
        rw [List.length_eq_zero_iff] at z
        rw [z] at hc
        cases hc
      refine ⟨_, rfl, a, _, dj, _, _, rfl, ha, J.cl, J.n2, rfl, l, _, rfl, .inl (SqL.of hl), ?_⟩
      refine mk_use rfl fun x dx' H' s' h' => q x H' s' ⟨dx', ?_⟩
      unfold firstN
      rw [if_neg e]
      rw [List.length_map] at h'
      exact h'
    · have e : j.needs.length = 0 := by
        rw [List.length_eq_zero_iff]
        cases hn : j.needs with
        | nil => rfl
        | cons y ys => rw [hn] at hc; exact absurd rfl hc
      refine mk_use rfl fun x dx' H' s' h' => q x H' s' ⟨dx', ?_⟩
      unfold firstN
      rw [if_pos e]
      exact h'
end
end K12

set_option Elab.async false
set_option linter.all false
set_option maxRecDepth 100000
set_option maxHeartbeats 4000000
set_option pp.maxSteps 600
set_option pp.deepTerms false
namespace K12
open PySem L2 PyProof.Rows
theorem ite_of {b d : Bool} {A B : Prop} (e : b = d) (h1 : d = true → A) (h2 : d = false → B) : if b = true then A else B := by
  subst e
  exact ite_b h1 h2
def IS (x : V) : Prop := (∃ i, x = .int i) ∨ ∃ z, x = .str z
theorem told_is (s : Sta) : ∀ x ∈ s.told, IS x := by
  cases s <;> (intro x hx; simp [Sta.told] at hx; rcases hx with rfl | rfl | rfl | rfl <;> first | exact .inl ⟨_, rfl⟩ | exact .inr ⟨_, rfl⟩)
theorem told_len (s : Sta) : s.told.length ≤ 4 := by cases s <;> (simp [Sta.told])
theorem in_over (k : Kd) : (if (false : Bool) = true then !inV (.str k.word) [.str "done", .str "broken", .str "cut"] else inV (.str k.word) [.str "done", .str "broken", .str "cut"]) = k.over := by
  cases k <;> decide +kernel
section
variable {P : Program} {w : World} {K : PySem.W.Frag} {mg : Str → Option Value} {base : Heap} {c : Kd → Addr} {cS cO cV C : Addr}
def spSame : Sp := fun vs H Q _ => ∃ (t u : Addr) (xs : List V), vs = [.ref t, .ref u] ∧ H t = some (.tup xs) ∧ H u = some (.tup xs) ∧ (∀ x ∈ xs, IS x) ∧ xs.length ≤ 4 ∧ ∀ H', Same H H' → Q (.bl true) H'
theorem ok_same (D : Def K mg "_law_same" s__law_same ["_law_found", "_law_due"]) (B : Bw mg) : Knows P w K mg base 1 "_law_same" ["_law_found", "_law_due"] spSame := by
  refine D.ok sc__law_same (fun vs H Q E h => ?_) (fun f cdv A outer s H vs Q E hr h => ?_)
  · obtain ⟨t, u, xs, rfl, _⟩ := h
    rfl
  · obtain ⟨t, u, xs, rfl, ht, hu, hx, hl, q⟩ := h
    refine ⟨_, by exact (pss_cons (ps_if (PW.pt (pw_or (pt_not (pt_val (pe_isiM B.j.b.isi B.j.tuple boot_tuple (pv 0)))) (pw_or1 (pt_cmpR op_ne (pe_bcall call_len_seq rfl B.j.b.len PySem.boot_len (pa_c (pv 0) pa_nil)) (pe_bcall call_len_seq rfl B.j.b.len PySem.boot_len (pa_c (pv 1) pa_nil)) (nomark _))))) (pss_one (ps_ret pe_bl)) pss_nil)
      (pss_cons (ps_for PassesOwn.never rfl (pi_zipT B.j.zip (pv 0) (pv 1)) (pg_tup rfl (pgs_cons (pg_name (i := 2) sc__law_same.nd rfl (Or.inl rfl)) (pgs_cons (pg_name (i := 3) sc__law_same.nd rfl (Or.inl rfl)) pgs_nil))) (pss_one (ps_if (PW.pt (pw_or (pt_val (pe_isiM B.j.b.isi B.j.b.bool boot_bool (pv 2))) (pw_or (pt_cmpR op_ne (pe_isiM B.j.b.isi B.j.b.str boot_str (pv 2)) (pe_isiM B.j.b.isi B.j.b.str boot_str (pv 3)) (nomark _)) (pw_or1 (pt_cmpR op_ne (pv 2) (pv 3) (nomark _)))))) (pss_one (ps_ret pe_bl)) pss_nil)))
      (pss_one (ps_ret pe_bl)))), ?_⟩
    refine ⟨_, rfl, _, _, true, rfl, .tup ht, by kernel_rfl, _, rfl, iteF ?_⟩
    refine ⟨_, rfl, t, xs, rfl, .inr (SqT.of ht), _, rfl, u, xs, rfl, .inr (SqT.of hu), rfl, _, rfl, ?_⟩
    refine ite2 (fun h => by simp at h) (fun _ => ?_)
    refine ⟨_, rfl, _, rfl, t, u, rfl, rfl, ⟨_, SqT.of ht⟩, ⟨_, SqT.of hu⟩, ?_⟩
    refine for_zipT (xs := xs) (ys := xs) (n := xs.length) (by simp) (fun i σ H1 => Same H H1 ∧ ∃ v1 v2, σ = [some (.ref t), some (.ref u), v1, v2]) ⟨Same.refl _, _, _, rfl⟩ (fun i σ H1 _ h => ⟨SqT.of (h.1 _ _ ht), SqT.of (h.1 _ _ hu)⟩) ?_ ?_
    · rintro i x y σ H1 t2 hx1 hy1 ⟨s1, v1, v2, rfl⟩ h2
      obtain rfl : x = y := by rw [hx1] at hy1; injection hy1
      have hix := hx x (List.mem_of_getElem? hx1)
      refine ⟨t2, _, rfl, SqT.of upd_same, rfl, _, _, rfl, _, _, rfl, rfl, ?_⟩
      have s2 : Same H1 (upd H1 t2 (.tup [x, x])) := same_of h2
      generalize upd H1 t2 (.tup [x, x]) = H2 at s2
      have fin : ∃ v1 v2, [some (V.ref t), some (V.ref u), some x, some x] = [some (V.ref t), some (V.ref u), v1, v2] := ⟨_, _, rfl⟩
      rcases hix with ⟨i, rfl⟩ | ⟨z, rfl⟩
      · refine ⟨_, rfl, _, _, _, rfl, .int i, isiB (H := H2) (.int i), _, rfl, iteF ?_⟩
        refine ⟨_, rfl, _, _, _, rfl, .int i, isiS (H := H2) (.int i), _, rfl, _, _, _, rfl, .int i, isiS (H := H2) (.int i), rfl, _, rfl, ?_⟩
        refine ite2 (fun h => by simp at h) (fun _ => ?_)
        refine ⟨_, rfl, _, rfl, rfl, _, rfl, ?_⟩
        exact ite2 (fun h => by simp at h) (fun _ => ⟨s1.trans s2, fin⟩)
      · refine ⟨_, rfl, _, _, _, rfl, .str z, isiB (H := H2) (.str z), _, rfl, iteF ?_⟩
        refine ⟨_, rfl, _, _, _, rfl, .str z, isiS (H := H2) (.str z), _, rfl, _, _, _, rfl, .str z, isiS (H := H2) (.str z), rfl, _, rfl, ?_⟩
        refine ite2 (fun h => by simp at h) (fun _ => ?_)
        refine ⟨_, rfl, _, rfl, rfl, _, rfl, ?_⟩
        exact ite2 (fun h => by simp at h) (fun _ => ⟨s1.trans s2, fin⟩)
    · rintro σ H1 ⟨s1, _⟩
      exact q _ s1
def spIs (c : Kd → Addr) : Sp := fun vs H Q _ => ∃ (p : Addr) (s : Sta), vs = [.str s.kd.word, .ref p] ∧ StAt c H p s ∧ ∀ H', Same H H' → Q (.bl true) H'
theorem ok_is (D : Def K mg "_law_is" s__law_is ["_law_word", "_law_state"]) (S : SCls K mg c cS cO cV) (B : Bw mg) : Knows P w K mg base 1 "_law_is" ["_law_word", "_law_state"] (spIs c) := by
  refine D.ok sc__law_is (fun vs H Q E h => ?_) (fun f cdv A outer s H vs Q E hr h => ?_)
  · obtain ⟨p, st, rfl, _⟩ := h
    rfl
  · obtain ⟨p, st, rfl, hp, q⟩ := h
    have hu := hu0 hr
    have ty : ∀ H', Same H H' → TyOf K H' (.ref p) (.ref (c st.kd)) := fun H' s' => S.ty (hp.same s')
    generalize st.kd = k at ty
    refine ⟨_, by exact (pss_cons (ps_if (pt_cmpR op_in_seq (pv 0) (pe_tup (pa_c pe_str (pa_c pe_str (pa_c pe_str pa_nil)))) (by with_unfolding_all rfl)) (pss_cons (ps_set (i := 2) sc__law_is.nd rfl (Or.inl rfl) (pe_lst (pa_c (pe_and (pe_bcall (call_isiO cV) rfl B.j.b.isi boot_isinstance (pa_c (pv 1) (pa_c (pe_glob (v := .ref cV) rfl S.gV rfl) pa_nil))) (pe_one (pe_not (pe_bcall (call_isiO cO) rfl B.j.b.isi boot_isinstance (pa_c (pv 1) (pa_c (pe_glob (v := .ref cO) rfl S.gO rfl) pa_nil)))))) pa_nil)))
      (pss_cons (ps_set (i := 2) sc__law_is.nd rfl (Or.inl rfl) (pe_op op_cat (pv 2) (pe_lst (pa_c (pe_bcall (call_isiO (c .done)) rfl B.j.b.isi boot_isinstance (pa_c (pv 1) (pa_c (pe_glob (v := .ref (c .done)) rfl S.gDone rfl) pa_nil))) (pa_c (pe_bcall (call_isiO (c .broken)) rfl B.j.b.isi boot_isinstance (pa_c (pv 1) (pa_c (pe_glob (v := .ref (c .broken)) rfl S.gBroken rfl) pa_nil))) (pa_c (pe_bcall (call_isiO (c .cut)) rfl B.j.b.isi boot_isinstance (pa_c (pv 1) (pa_c (pe_glob (v := .ref (c .cut)) rfl S.gCut rfl) pa_nil))) pa_nil))))))
      (pss_one (ps_ret (pe_cmpR (op_eqL hu) (pv 2) (pe_lst (pa_c pe_bl (pa_c (pe_cmpR op_eq (pv 0) pe_str (nomark _)) (pa_c (pe_cmpR op_eq (pv 0) pe_str (nomark _)) (pa_c (pe_cmpR op_eq (pv 0) pe_str (nomark _)) pa_nil))))) (nomark _)))))) pss_nil)
      (pss_cons (ps_set (i := 2) sc__law_is.nd rfl (Or.inl rfl) (pe_lst (pa_c (pe_and (pe_bcall (call_isiO cO) rfl B.j.b.isi boot_isinstance (pa_c (pv 1) (pa_c (pe_glob (v := .ref cO) rfl S.gO rfl) pa_nil))) (pe_one (pe_not (pe_bcall (call_isiO cV) rfl B.j.b.isi boot_isinstance (pa_c (pv 1) (pa_c (pe_glob (v := .ref cV) rfl S.gV rfl) pa_nil)))))) (pa_c (pe_bcall (call_isiO (c .blocked)) rfl B.j.b.isi boot_isinstance (pa_c (pv 1) (pa_c (pe_glob (v := .ref (c .blocked)) rfl S.gBlocked rfl) pa_nil))) pa_nil))))
      (pss_cons (ps_set (i := 2) sc__law_is.nd rfl (Or.inl rfl) (pe_op op_cat (pv 2) (pe_lst (pa_c (pe_bcall (call_isiO (c .ready)) rfl B.j.b.isi boot_isinstance (pa_c (pv 1) (pa_c (pe_glob (v := .ref (c .ready)) rfl S.gReady rfl) pa_nil))) (pa_c (pe_bcall (call_isiO (c .leased)) rfl B.j.b.isi boot_isinstance (pa_c (pv 1) (pa_c (pe_glob (v := .ref (c .leased)) rfl S.gLeased rfl) pa_nil))) (pa_c (pe_bcall (call_isiO (c .resting)) rfl B.j.b.isi boot_isinstance (pa_c (pv 1) (pa_c (pe_glob (v := .ref (c .resting)) rfl S.gResting rfl) pa_nil))) pa_nil))))))
      (pss_one (ps_ret (pe_cmpR (op_eqL hu) (pv 2) (pe_lst (pa_c pe_bl (pa_c (pe_cmpR op_eq (pv 0) pe_str (nomark _)) (pa_c (pe_cmpR op_eq (pv 0) pe_str (nomark _)) (pa_c (pe_cmpR op_eq (pv 0) pe_str (nomark _)) (pa_c (pe_cmpR op_eq (pv 0) pe_str (nomark _)) pa_nil)))))) (nomark _))))))), ?_⟩
    refine ⟨_, rfl, by show 3 ≤ sizeLine; decide, fun t0 ht0 => ?_⟩
    have s0 : Same H (upd H t0 (.tup [.str "done", .str "broken", .str "cut"])) := same_of ht0
    refine ⟨t0, _, rfl, .inr (SqT.of upd_same), rfl, rfl, _, rfl, ?_⟩
    generalize upd H t0 (.tup [.str "done", .str "broken", .str "cut"]) = H0 at s0
    refine ite_of (in_over k) (fun ho => ?_) (fun ho => ?_)
    · have a1 : PySem.W.kitOne K (.ref (c k)) (.ref cV) = some true := by rw [S.isV, ho]
      have a2 : PySem.W.kitOne K (.ref (c k)) (.ref cO) = some false := by rw [S.isO, ho]; rfl
      refine ⟨_, rfl, _, _, true, rfl, ty _ s0, a1, _, rfl, iteT ?_⟩
      refine ⟨_, rfl, _, _, false, rfl, ty _ s0, a2, _, rfl, by show 1 ≤ sizeLine; decide, fun t1 h1 => ?_⟩
      have s1 : Same H (upd H0 t1 (.lst [.bl (!false)])) := s0.trans (same_of h1)
      have e1 : (upd H0 t1 (.lst [.bl (!false)])) t1 = some (.lst [.bl true]) := upd_same
      generalize upd H0 t1 (.lst [.bl (!false)]) = H1 at s1 e1
      refine ⟨_, rfl, _, rfl, _, _, _, rfl, ty _ s1, S.is _ _, _, rfl, _, _, _, rfl, ty _ s1, S.is _ _, _, rfl, _, _, _, rfl, ty _ s1, S.is _ _, by show 3 ≤ sizeLine; decide, fun t2 h2 => ?_⟩
      have s2 : Same H1 (upd H1 t2 (.lst [.bl (decide (k = .done)), .bl (decide (k = .broken)), .bl (decide (k = .cut))])) := same_of h2
      refine ⟨t1, t2, _, _, rfl, rfl, s2 _ _ e1, upd_same, by show 4 ≤ sizeLine; decide, fun t3 h3 => ?_⟩
      generalize upd H1 t2 (.lst [.bl (decide (k = .done)), .bl (decide (k = .broken)), .bl (decide (k = .cut))]) = H2 at s2 h3
      have e3 : (upd H2 t3 (.lst ([.bl true] ++ [.bl (decide (k = .done)), .bl (decide (k = .broken)), .bl (decide (k = .cut))]))) t3 = some (.lst ([.bl true] ++ [.bl (decide (k = .done)), .bl (decide (k = .broken)), .bl (decide (k = .cut))])) := upd_same
      have s3 := s2.trans (same_of (o := .lst ([.bl true] ++ [.bl (decide (k = .done)), .bl (decide (k = .broken)), .bl (decide (k = .cut))])) h3)
      generalize upd H2 t3 (.lst ([.bl true] ++ [.bl (decide (k = .done)), .bl (decide (k = .broken)), .bl (decide (k = .cut))])) = H3 at s3 e3
      refine ⟨_, rfl, _, rfl, rfl, _, rfl, rfl, _, rfl, rfl, by show 4 ≤ sizeLine; decide, fun t4 h4 => ?_⟩
      have s4 : Same H3 (upd H3 t4 (.lst [.bl true, .bl (decide (V.str k.word = V.str "done")), .bl (decide (V.str k.word = V.str "broken")), .bl (decide (V.str k.word = V.str "cut"))])) := same_of h4
      refine ⟨t3, t4, _, _, rfl, rfl, SqL.of (s4 _ _ e3), SqL.of upd_same, rfl, rfl, ?_⟩
      have fin := q _ ((s1.trans s3).trans s4)
      have e : eqL ([.bl true] ++ [.bl (decide (k = .done)), .bl (decide (k = .broken)), .bl (decide (k = .cut))]) [.bl true, .bl (decide (V.str k.word = V.str "done")), .bl (decide (V.str k.word = V.str "broken")), .bl (decide (V.str k.word = V.str "cut"))] = true := by
        clear ty a1 a2 fin e3 s4
        revert ho
        revert k
        intro k
        cases k <;> intro ho <;> first | (cases ho; done) | decide +kernel
      show Q (.bl (eqL ([.bl true] ++ [.bl (decide (k = .done)), .bl (decide (k = .broken)), .bl (decide (k = .cut))]) [.bl true, .bl (decide (V.str k.word = V.str "done")), .bl (decide (V.str k.word = V.str "broken")), .bl (decide (V.str k.word = V.str "cut"))])) _
      rw [e]
      exact fin
    · have a1 : PySem.W.kitOne K (.ref (c k)) (.ref cV) = some false := by rw [S.isV, ho]
      have a2 : PySem.W.kitOne K (.ref (c k)) (.ref cO) = some true := by rw [S.isO, ho]; rfl
      refine ⟨_, rfl, _, _, true, rfl, ty _ s0, a2, _, rfl, iteT ?_⟩
      refine ⟨_, rfl, _, _, false, rfl, ty _ s0, a1, _, rfl, _, rfl, _, _, _, rfl, ty _ s0, S.is _ _, by show 2 ≤ sizeLine; decide, fun t1 h1 => ?_⟩
      have s1 : Same H (upd H0 t1 (.lst [.bl (!false), .bl (decide (k = .blocked))])) := s0.trans (same_of h1)
      have e1 : (upd H0 t1 (.lst [.bl (!false), .bl (decide (k = .blocked))])) t1 = some (.lst [.bl true, .bl (decide (k = .blocked))]) := upd_same
      generalize upd H0 t1 (.lst [.bl (!false), .bl (decide (k = .blocked))]) = H1 at s1 e1
      refine ⟨_, rfl, _, rfl, _, _, _, rfl, ty _ s1, S.is _ _, _, rfl, _, _, _, rfl, ty _ s1, S.is _ _, _, rfl, _, _, _, rfl, ty _ s1, S.is _ _, by show 3 ≤ sizeLine; decide, fun t2 h2 => ?_⟩
      have s2 : Same H1 (upd H1 t2 (.lst [.bl (decide (k = .ready)), .bl (decide (k = .leased)), .bl (decide (k = .resting))])) := same_of h2
      refine ⟨t1, t2, _, _, rfl, rfl, s2 _ _ e1, upd_same, by show 5 ≤ sizeLine; decide, fun t3 h3 => ?_⟩
      generalize upd H1 t2 (.lst [.bl (decide (k = .ready)), .bl (decide (k = .leased)), .bl (decide (k = .resting))]) = H2 at s2 h3
      have e3 : (upd H2 t3 (.lst ([.bl true, .bl (decide (k = .blocked))] ++ [.bl (decide (k = .ready)), .bl (decide (k = .leased)), .bl (decide (k = .resting))]))) t3 = some (.lst ([.bl true, .bl (decide (k = .blocked))] ++ [.bl (decide (k = .ready)), .bl (decide (k = .leased)), .bl (decide (k = .resting))])) := upd_same
      have s3 := s2.trans (same_of (o := .lst ([.bl true, .bl (decide (k = .blocked))] ++ [.bl (decide (k = .ready)), .bl (decide (k = .leased)), .bl (decide (k = .resting))])) h3)
      generalize upd H2 t3 (.lst ([.bl true, .bl (decide (k = .blocked))] ++ [.bl (decide (k = .ready)), .bl (decide (k = .leased)), .bl (decide (k = .resting))])) = H3 at s3 e3
      refine ⟨_, rfl, _, rfl, rfl, _, rfl, rfl, _, rfl, rfl, _, rfl, rfl, by show 5 ≤ sizeLine; decide, fun t4 h4 => ?_⟩
      have s4 : Same H3 (upd H3 t4 (.lst [.bl true, .bl (decide (V.str k.word = V.str "blocked")), .bl (decide (V.str k.word = V.str "ready")), .bl (decide (V.str k.word = V.str "leased")), .bl (decide (V.str k.word = V.str "resting"))])) := same_of h4
      refine ⟨t3, t4, _, _, rfl, rfl, SqL.of (s4 _ _ e3), SqL.of upd_same, rfl, rfl, ?_⟩
      have fin := q _ ((s1.trans s3).trans s4)
      have e : eqL ([.bl true, .bl (decide (k = .blocked))] ++ [.bl (decide (k = .ready)), .bl (decide (k = .leased)), .bl (decide (k = .resting))]) [.bl true, .bl (decide (V.str k.word = V.str "blocked")), .bl (decide (V.str k.word = V.str "ready")), .bl (decide (V.str k.word = V.str "leased")), .bl (decide (V.str k.word = V.str "resting"))] = true := by
        clear ty a1 a2 fin e3 s4
        revert ho
        revert k
        intro k
        cases k <;> intro ho <;> first | (cases ho; done) | decide +kernel
      show Q (.bl (eqL ([.bl true, .bl (decide (k = .blocked))] ++ [.bl (decide (k = .ready)), .bl (decide (k = .leased)), .bl (decide (k = .resting))]) [.bl true, .bl (decide (V.str k.word = V.str "blocked")), .bl (decide (V.str k.word = V.str "ready")), .bl (decide (V.str k.word = V.str "leased")), .bl (decide (V.str k.word = V.str "resting"))])) _
      rw [e]
      exact fin
def spLOver (c : Kd → Addr) : Sp := fun vs H Q _ => ∃ (p : Addr) (s : Sta), vs = [.ref p] ∧ StAt c H p s ∧ Q (.bl s.kd.over) H
theorem ok_lover (D : Def K mg "_law_over" s__law_over ["_law_state"]) (B : Bw mg) (k_over : KnowsD CX0 P w K mg base 1 c "is_over" ["self"] (spOver c)) : Knows P w K mg base 2 "_law_over" ["_law_state"] (spLOver c) := by
  refine D.ok sc__law_over (fun vs H Q E h => ?_) (fun f cdv A outer s H vs Q E hr h => ?_)
  · obtain ⟨p, st, rfl, _⟩ := h
    rfl
  · obtain ⟨p, st, rfl, hp, q⟩ := h
    obtain ⟨dx, h1⟩ := hp.ex
    refine ⟨_, by exact (pss_cons (ps_if (pt_val (pe_isiM B.j.b.isi B.j.b.bool boot_bool (pe_methD0 k_over hr pass0 (pv 0)))) (pss_one (ps_ret (pe_methD0 k_over hr pass0 (pv 0)))) pss_nil)
      (pss_one (ps_ret pe_non))), ?_⟩
    refine ⟨_, rfl, p, st.kd, dx, _, rfl, h1, no_over st, p, st, rfl, rfl, hp, ?_⟩
    refine ⟨_, _, _, rfl, .bl st.kd.over, isiB (H := H) (.bl st.kd.over), _, rfl, iteT ?_⟩
    exact ⟨_, rfl, p, st.kd, dx, _, rfl, h1, no_over st, p, st, rfl, rfl, hp, q⟩
end
end K12

set_option Elab.async false
set_option linter.all false
set_option maxRecDepth 100000
set_option maxHeartbeats 4000000
set_option pp.maxSteps 600
set_option pp.deepTerms false
namespace L2
open PySem
theorem stm_use {t u : TS} {D : Ends} {σ : St} {H : Hp} (Post : St → Hp → Prop) (hg : ∀ Q', (∀ σ' H', Post σ' H' → Q' σ' H') → t { D with nx := Q' } σ H) (k : ∀ σ' H', Post σ' H' → u D σ' H') : tSeq t u D σ H := hg _ k
theorem next_to {D : Ends} {σ : St} {H : Hp} (h : D.nx σ H) : tNext D σ H := h
end L2
namespace K12
open PySem L2 PyProof.Rows
def told1 (s : Sta) : V := s.told.getD 1 .non
theorem told_1 (s : Sta) : s.told[1]? = some (told1 s) := by cases s <;> rfl
def Kd.none : Kd → Bool
  | .blocked | .cut => true
  | _ => false
theorem in_none (k : Kd) : (if (false : Bool) = true then !inV (.str k.word) [.str "blocked", .str "cut"] else inV (.str k.word) [.str "blocked", .str "cut"]) = k.none := by
  cases k <;> decide +kernel
theorem none_0 {s : Sta} (h : s.kd.none = true) : s.fails = 0 := by cases s <;> first | rfl | cases h
theorem none_1 {s : Sta} (h : s.kd.none = false) : told1 s = .int (s.fails : Int) := by cases s <;> first | rfl | cases h
section
variable {P : Program} {w : World} {K : PySem.W.Frag} {mg : Str → Option Value} {base : Heap} {c : Kd → Addr} {cS cO cV C : Addr}
def spStands (c : Kd → Addr) : Sp := fun vs H Q _ => ∃ (p d : Addr) (s : Sta) (n : Int), vs = [.ref p, .ref d, .int n] ∧ StAt c H p s ∧ H d = some (.tup s.told) ∧ ∀ H', Same H H' → Q (.bl true) H'
theorem ok_stands (D : Def K mg "_law_stands" s__law_stands ["_law_state", "_law_due", "_law_cell"]) (S : SCls K mg c cS cO cV) (B : Bw mg) (k_told : KnowsD CX0 P w K mg base 1 c "told" ["self"] (spTold c)) (k_word : KnowsD CX0 P w K mg base 2 c "word" ["self"] (spWord c)) (k_fails : KnowsD CX0 P w K mg base 1 c "count_fails" ["self"] (spFails c))
    (k_is : Knows P w K mg base 1 "_law_is" ["_law_word", "_law_state"] (spIs c)) (k_same : Knows P w K mg base 1 "_law_same" ["_law_found", "_law_due"] spSame) (k_over : Knows P w K mg base 2 "_law_over" ["_law_state"] (spLOver c)) (k_whole : Knows P w K mg base 1 "_law_whole" ["_law_thing"] spWhole) :
    Knows P w K mg base 3 "_law_stands" ["_law_state", "_law_due", "_law_cell"] (spStands c) := by
  refine D.ok sc__law_stands (fun vs H Q E h => ?_) (fun f cdv A outer s H vs Q E hr h => ?_)
  · obtain ⟨p, d, st, n, rfl, _⟩ := h
    rfl
  · obtain ⟨p, d, st, n, rfl, hp, hd, q⟩ := h
    refine ⟨_, by exact (pss_cons (ps_if (PW.pt (pw_or (pt_not (pt_val (pe_bcall (call_isiO cS) rfl B.j.b.isi boot_isinstance (pa_c (pv 0) (pa_c (pe_glob (v := .ref cS) rfl S.gS rfl) pa_nil))))) (pw_or1 (pt_not (pt_val (pe_callM k_is hr (pa_c (pe_ix ix_tup (pv 1) pe_int (fun _ _ => rfl)) (pa_c (pv 0) pa_nil)))))))) (pss_one (ps_ret pe_bl)) pss_nil)
      (pss_cons (ps_for PassesOwn.never rfl (pi_range1 rfl B.j.b.range (pa_c pe_int pa_nil)) (pg_name (i := 3) sc__law_stands.nd rfl (Or.inl rfl)) (pss_cons (ps_set (i := 4) sc__law_stands.nd rfl (Or.inl rfl) (pe_op op_mod (pe_op op_add (pv 2) (pe_op op_mul (pv 3) (pe_op op_add pe_int (pe_op op_mul pe_int (pe_op op_mod (pe_op op_fdiv (pv 2) pe_int) pe_int))))) pe_int))
      (pss_cons (ps_if (PW.pt (pw_and (pt_cmpR op_eq (pv 4) pe_int (nomark _)) (pw_and1 (pt_not (pt_val (pe_callM k_same hr (pa_c (pe_methD0 k_told hr pass0 (pv 0)) (pa_c (pv 1) pa_nil)))))))) (pss_one (ps_ret pe_bl)) pss_nil)
      (pss_cons (ps_if (PW.pt (pw_and (pt_cmpR op_eq (pv 4) pe_int (nomark _)) (pw_and1 (pt_cmpR op_ne (pe_methD0 k_word hr pass0 (pv 0)) (pe_ix ix_tup (pv 1) pe_int (fun _ _ => rfl)) (nomark _))))) (pss_one (ps_ret pe_bl)) pss_nil)
      (pss_cons (ps_if (PW.pt (pw_and (pt_cmpR op_eq (pv 4) pe_int (nomark _)) (pw_and1 (pt_cmpR op_ne (pe_callM k_over hr (pa_c (pv 0) pa_nil)) (pe_cmpR op_in_seq (pe_ix ix_tup (pv 1) pe_int (fun _ _ => rfl)) (pe_tup (pa_c pe_str (pa_c pe_str (pa_c pe_str pa_nil)))) (by with_unfolding_all rfl)) (nomark _))))) (pss_one (ps_ret pe_bl)) pss_nil)
      (pss_one (ps_if (pt_cmpR op_eq (pv 4) pe_int (nomark _)) (pss_cons (ps_set (i := 5) sc__law_stands.nd rfl (Or.inl rfl) (pe_ix ix_tup (pv 1) pe_int (fun _ _ => rfl)))
      (pss_cons (ps_if (pt_cmpR op_in_seq (pe_ix ix_tup (pv 1) pe_int (fun _ _ => rfl)) (pe_tup (pa_c pe_str (pa_c pe_str pa_nil))) (by with_unfolding_all rfl)) (pss_one (ps_set (i := 5) sc__law_stands.nd rfl (Or.inl rfl) pe_int)) pss_nil)
      (pss_one (ps_if (PW.pt (pw_or (pt_not (pt_val (pe_callM k_whole hr (pa_c (pe_methD0 k_fails hr pass0 (pv 0)) pa_nil)))) (pw_or1 (pt_cmpR op_ne (pe_methD0 k_fails hr pass0 (pv 0)) (pv 5) (nomark _))))) (pss_one (ps_ret pe_bl)) pss_nil)))) pss_nil)))))))
      (pss_one (ps_ret pe_bl)))), ?_⟩
    refine ⟨_, rfl, _, _, true, rfl, S.ty hp, S.isS _, _, rfl, iteF ?_⟩
    refine ⟨_, rfl, d, _, _, _, rfl, rfl, SqT.of hd, atI_nat (j := 0) (told_word st), _, rfl, p, st, rfl, hp, fun H1 s1 => ⟨_, rfl, iteF ?_⟩⟩
    refine ⟨4, rfl, by decide, by decide, ?_⟩
    refine for_range (n := 4) (fun i σ H1 => Same H H1 ∧ ∃ v3 v4 v5, σ = [some (.ref p), some (.ref d), some (.int n), v3, v4, v5]) ⟨s1, _, _, _, rfl⟩ ?_ (fun σ H1 h => q _ h.1)
    rintro i σ H2 hi ⟨s2, v3, v4, v5, rfl⟩
    refine seq_use (fun v H' => (∃ q : Int, v = .int q) ∧ H2 = H') (fun Q' kk => ⟨_, rfl, _, rfl, _, rfl, _, _, rfl, rfl, by walk_at "m", _, _, rfl, rfl, by walk_at "m", _, _, rfl, rfl, .inl ⟨by decide, by decide⟩, _, _, rfl, rfl, _, _, rfl, rfl, .inl ⟨by omega, by omega⟩, _, _, rfl, rfl, _, _, rfl, rfl, by walk_at "m", kk _ _ ⟨⟨_, rfl⟩, rfl⟩⟩) ?_
    rintro _ _ ⟨⟨m, rfl⟩, rfl⟩
    obtain ⟨dx, h2⟩ := (hp.same s2).ex
    refine if_use (fun b H' => b = false ∧ Same H H') (fun Q' kk => ⟨_, rfl, rfl, _, rfl, ite2 (fun _ => ?_) (fun _ => kk _ _ ⟨rfl, s2⟩)⟩) (fun H' h => by cases h.1) (fun H3 ⟨_, s3⟩ => next_to ?_)
    · refine ⟨_, rfl, p, st.kd, dx, _, rfl, h2, no_told st, p, st, rfl, rfl, hp.same s2, fun t H4 s4 ht => ?_⟩
      exact ⟨_, rfl, t, d, st.told, rfl, ht, (s2.trans s4) _ _ hd, told_is st, told_len st, fun H5 s5 => ⟨_, rfl, kk _ _ ⟨rfl, (s2.trans s4).trans s5⟩⟩⟩
    dsimp only
    obtain ⟨dx3, h3⟩ := (hp.same s3).ex
    refine if_use (fun b H' => b = false ∧ Same H H') (fun Q' kk => ⟨_, rfl, rfl, _, rfl, ite2 (fun _ => ?_) (fun _ => kk _ _ ⟨rfl, s3⟩)⟩) (fun H' h => by cases h.1) (fun H4 ⟨_, s4⟩ => next_to ?_)
    · refine ⟨_, rfl, p, st.kd, dx3, _, rfl, h3, no_word st, p, st, rfl, rfl, hp.same s3, fun H4 s4 => ?_⟩
      exact ⟨_, rfl, d, _, _, _, rfl, rfl, SqT.of ((s3.trans s4) _ _ hd), atI_nat (j := 0) (told_word st), rfl, _, rfl, kk _ _ ⟨by simp, s3.trans s4⟩⟩
    dsimp only
    refine if_use (fun b H' => b = false ∧ Same H H') (fun Q' kk => ⟨_, rfl, rfl, _, rfl, ite2 (fun _ => ?_) (fun _ => kk _ _ ⟨rfl, s4⟩)⟩) (fun H' h => by cases h.1) (fun H5 ⟨_, s5⟩ => next_to ?_)
    · refine ⟨_, rfl, p, st, rfl, hp.same s4, ?_⟩
      refine ⟨_, rfl, d, _, _, _, rfl, rfl, SqT.of (s4 _ _ hd), atI_nat (j := 0) (told_word st), by show 3 ≤ sizeLine; decide, fun t ht => ?_⟩
      refine ⟨t, _, rfl, .inr (SqT.of upd_same), rfl, rfl, ?_⟩
      refine ⟨rfl, _, rfl, kk _ _ ⟨?_, s4.trans (same_of ht)⟩⟩
      rw [in_over]
      simp
    dsimp only
    refine ⟨_, rfl, rfl, _, rfl, ite2 (fun _ => ?_) (fun _ => ⟨s5, _, _, _, rfl⟩)⟩
    refine ⟨_, rfl, d, _, _, _, rfl, rfl, SqT.of (s5 _ _ hd), atI_nat (j := 1) (told_1 st), ?_⟩
    dsimp only [gName]
    refine stm_use (t := tIfS _ _ _) (fun σ' H' => Same H H' ∧ ∃ v3 v4, σ' = [some (.ref p), some (.ref d), some (.int n), v3, v4, some (.int (st.fails : Int))]) (fun Q' kk => ?_) ?_
    · refine ⟨_, rfl, d, _, _, _, rfl, rfl, SqT.of (s5 _ _ hd), atI_nat (j := 0) (told_word st), by show 2 ≤ sizeLine; decide, fun t ht => ?_⟩
      refine ⟨t, _, rfl, .inr (SqT.of upd_same), rfl, rfl, _, rfl, ite_of (in_none st.kd) (fun hn => ?_) (fun hn => ?_)⟩
      · refine kk _ _ ⟨s5.trans (same_of ht), some (.int (0 + (i : Int))), some (.int m), ?_⟩
        rw [none_0 hn]
        rfl
      · refine kk _ _ ⟨s5.trans (same_of ht), some (.int (0 + (i : Int))), some (.int m), ?_⟩
        rw [none_1 hn]
        rfl
    rintro σ' H6 ⟨s6, v3', v4', rfl⟩
    obtain ⟨dx6, h6⟩ := (hp.same s6).ex
    refine ⟨_, rfl, p, st.kd, dx6, _, rfl, h6, no_fails st, p, st, rfl, rfl, hp.same s6, _, rfl, _, rfl, iteF ?_⟩
    refine ⟨_, rfl, p, st.kd, dx6, _, rfl, h6, no_fails st, p, st, rfl, rfl, hp.same s6, _, rfl, rfl, _, rfl, ?_⟩
    exact ite2 (fun h => by simp at h) (fun _ => ⟨s6, _, _, _, rfl⟩)
def spTurn : Sp := fun vs H Q _ => ∃ n : Int, vs = [.int n] ∧ ∀ t H', 0 ≤ t → t ≤ 1000000000 → Same H H' → Q (.int t) H'
theorem ok_turn (D : Def K mg "_law_turn" s__law_turn ["_law_number"]) : Knows P w K mg base 1 "_law_turn" ["_law_number"] spTurn := by
  refine D.ok sc__law_turn (fun vs H Q E h => ?_) (fun f cdv A outer s H vs Q E hr h => ?_)
  · obtain ⟨n, rfl, _⟩ := h
    rfl
  · obtain ⟨n, rfl, q⟩ := h
    refine ⟨_, by exact (pss_one (ps_ret (pe_ix ix_list (pe_lst (pa_c (pe_op op_mod (pe_op op_fdiv (pv 0) pe_int) pe_int) (pa_c (pe_op op_mod (pe_op op_fdiv (pv 0) pe_int) pe_int) (pa_c pe_int (pa_c pe_int pa_nil))))) (pe_op op_mod (pv 0) pe_int) (fun _ _ => rfl)))), ?_⟩
    refine ⟨_, rfl, _, _, rfl, rfl, by walk_at "m", _, _, rfl, rfl, by walk_at "m", _, rfl, _, _, rfl, rfl, by walk_at "m", _, _, rfl, rfl, by walk_at "m", by show 4 ≤ sizeLine; decide, fun l hl => ?_⟩
    refine ⟨_, rfl, _, _, rfl, rfl, by walk_at "m", ?_⟩
    dsimp only
    have a1 := Int.emod_nonneg (n / 4) (show (50 : Int) ≠ 0 by decide)
    have a2 := Int.emod_lt_of_pos (n / 4) (show (0 : Int) < 50 by decide)
    have b1 := Int.emod_nonneg (n / 4) (show (1000000001 : Int) ≠ 0 by decide)
    have b2 := Int.emod_lt_of_pos (n / 4) (show (0 : Int) < 1000000001 by decide)
    have i1 := Int.emod_nonneg n (show (4 : Int) ≠ 0 by decide)
    have i2 := Int.emod_lt_of_pos n (show (0 : Int) < 4 by decide)
    obtain ⟨v, hv, hm, _⟩ := atI_mem (xs := [V.int (n / 4 % 50), .int (n / 4 % 1000000001), .int 1000000000, .int 0]) i1 i2
    have hv2 : ∃ t : Int, v = .int t ∧ 0 ≤ t ∧ t ≤ 1000000000 := by
      simp only [List.mem_cons, List.not_mem_nil, or_false] at hm
      rcases hm with rfl | rfl | rfl | rfl
      · exact ⟨_, rfl, a1, by omega⟩
      · exact ⟨_, rfl, b1, by omega⟩
      · exact ⟨_, rfl, by decide, by decide⟩
      · exact ⟨_, rfl, by decide, by decide⟩
    obtain ⟨t, rfl, t0, t1⟩ := hv2
    exact ⟨l, _, _, _, rfl, rfl, SqL.of upd_same, hv, q _ _ t0 t1 (same_of hl)⟩
structure OwnAt (H : Hp) (o : Addr) (j : Jb) : Prop where
  at_ : H o = some (.lst [.int (j.needs.length : Int), .int j.tries, .int j.wait, .int j.grow])
def spLFirst : Sp := fun vs H Q _ => ∃ (o : Addr) (j : Jb), vs = [.ref o] ∧ OwnAt H o j ∧ ∀ t H', Same H H' → H' t = some (.tup (firstN j.needs.length).told) → Q (.ref t) H'
theorem ok_lfirst (D : Def K mg "_law_first" s__law_first ["_law_own"]) : Knows P w K mg base 1 "_law_first" ["_law_own"] spLFirst := by
  refine D.ok sc__law_first (fun vs H Q E h => ?_) (fun f cdv A outer s H vs Q E hr h => ?_)
  · obtain ⟨o, j, rfl, _⟩ := h
    rfl
  · obtain ⟨o, j, rfl, ho, q⟩ := h
    refine ⟨_, by exact (pss_cons (ps_if (pt_cmpR op_eq (pe_ix ix_list (pv 0) pe_int (fun _ _ => rfl)) pe_int (nomark _)) (pss_one (ps_ret (pe_tup (pa_c pe_str (pa_c pe_int pa_nil))))) pss_nil)
      (pss_one (ps_ret (pe_tup (pa_c pe_str (pa_c (pe_ix ix_list (pv 0) pe_int (fun _ _ => rfl)) pa_nil)))))), ?_⟩
    refine ⟨_, rfl, o, _, _, _, rfl, rfl, SqL.of ho.at_, atI_nat (j := 0) rfl, rfl, _, rfl, ite2 (fun hc => ?_) (fun hc => ?_)⟩
    · have e : j.needs.length = 0 := by
        have h2 := of_decide_eq_true hc
        injection h2 with h3
        omega
      refine ⟨by show 2 ≤ sizeLine; decide, fun t ht => q t _ (same_of ht) ?_⟩
      rw [e]
      exact upd_same
    · have e : ¬ j.needs.length = 0 := fun z => hc (by rw [z]; rfl)
      refine ⟨_, rfl, o, _, _, _, rfl, rfl, SqL.of ho.at_, atI_nat (j := 0) rfl, by show 2 ≤ sizeLine; decide, fun t ht => q t _ (same_of ht) ?_⟩
      unfold firstN
      rw [if_neg e]
      exact upd_same
theorem cut_min (x : Int) : (if x < 100000 then x else 100000) = cut x := by
  unfold cut
  split <;> split <;> omega
def spLRest : Sp := fun vs H Q _ => ∃ (o : Addr) (j : Jb) (n : Nat), vs = [.ref o, .int ((n + 1 : Nat) : Int)] ∧ OwnAt H o j ∧ j.Ok ∧ n ≤ 100 ∧ Q (.int (rest j.wait j.grow n)) H
theorem ok_lrest (D : Def K mg "_law_rest" s__law_rest ["_law_own", "_law_fails"]) (B : Bw mg) : Knows P w K mg base 1 "_law_rest" ["_law_own", "_law_fails"] spLRest := by
  refine D.ok sc__law_rest (fun vs H Q E h => ?_) (fun f cdv A outer s H vs Q E hr h => ?_)
  · obtain ⟨o, j, n, rfl, _⟩ := h
    rfl
  · obtain ⟨o, j, n, rfl, ho, jo, hn, q⟩ := h
    have hg := jo.grow
    have hw := jo.wait
    refine ⟨_, by exact (pss_cons (ps_set (i := 2) sc__law_rest.nd rfl (Or.inl rfl) (pe_ix ix_list (pv 0) pe_int (fun _ _ => rfl)))
      (pss_cons (ps_for PassesOwn.never rfl (pi_range1 rfl B.j.b.range (pa_c (pe_op op_sub (pv 1) pe_int) pa_nil)) (pg_name (i := 3) sc__law_rest.nd rfl (Or.inl rfl)) (pss_one (ps_set (i := 2) sc__law_rest.nd rfl (Or.inl rfl) (pe_bcall (call_min2 rfl) rfl B.min boot_min (pa_c pe_int (pa_c (pe_op op_mul (pv 2) (pe_ix ix_list (pv 0) pe_int (fun _ _ => rfl))) pa_nil))))))
      (pss_one (ps_ret (pv 2))))), ?_⟩
    refine ⟨_, rfl, o, _, _, _, rfl, rfl, SqL.of ho.at_, atI_nat (j := 2) rfl, ?_⟩
    refine ⟨_, rfl, _, _, rfl, rfl, (n : Int), ?_, by omega, by omega, ?_⟩
    · show [V.int (((n + 1 : Nat) : Int) - 1)] = [V.int (n : Int)]
      rw [show ((n + 1 : Nat) : Int) - 1 = n by omega]
    refine for_range (n := n) (fun i σ H1 => H1 = H ∧ ∃ v3, σ = [some (.ref o), some (.int ((n + 1 : Nat) : Int)), some (.int (rest j.wait j.grow i)), v3]) ⟨rfl, none, ?_⟩ ?_ ?_
    · rw [rest_zero (by omega)]
      rfl
    · rintro i σ H1 hi ⟨rfl, v3, rfl⟩
      have st := rest_step hg.1 i (pow_nonneg' hw.1 hg.1 i)
      refine ⟨_, rfl, _, rfl, o, _, _, _, rfl, rfl, SqL.of ho.at_, atI_nat (j := 3) rfl, _, _, rfl, rfl, .inr ⟨by omega, by omega⟩, _, _, rfl, rfl, some (.int (0 + (i : Int))), ?_⟩
      rw [← st, ← cut_min]
      rfl
    · rintro σ H1 ⟨rfl, v3, rfl⟩
      exact ⟨_, rfl, q⟩
end
end K12

set_option Elab.async false
set_option linter.all false
set_option maxRecDepth 100000
set_option maxHeartbeats 4000000
set_option pp.maxSteps 600
set_option pp.deepTerms false
namespace K12
open PySem L2 PyProof.Rows
theorem range_at {n i : Nat} {x : V} (h : (rangeV 0 n)[i]? = some x) : i < n ∧ x = .int (i : Int) := by
  have h1 : i < (rangeV 0 n).length := (List.getElem?_eq_some_iff.mp h).1
  rw [rangeV_length] at h1
  refine ⟨h1, ?_⟩
  simp only [rangeV, List.getElem?_map, List.getElem?_range h1, Option.map_some, Option.some.injEq] at h
  rw [← h, Int.zero_add]
theorem made_same {H H' : Hp} {x dx : Addr} {u v : HO} (hx : H x = none) (hdx : H dx = none) (ch : Chg [x] (upd (upd H dx u) x v) H') : Same H H' := fun b o e => by
  have n1 : b ≠ x := ne_of_none e hx
  have n2 : b ≠ dx := ne_of_none e hdx
  exact ch b o (by simp [n1]) (by rw [upd_ne n1, upd_ne n2]; exact e)
structure JForms (K : PySem.W.Frag) (fd : FuncData) : Prop where
  f7 : BT K fd jps 7 [] [.p 0, .p 1, .p 2, .p 3, .p 4, .p 5, .p 6]
def nd8 : List Str := ["na", "nb", "nc", "nd", "ne", "nf", "ng", "nh"]
theorem let8 : ∀ k : Fin 8, atI ("abcdefgh" : Str).cps.toList (((k.val : Nat)) : Int) = some (97 + k.val) := by decide +kernel
theorem cat8 : ∀ k : Fin 8, ("n" : Str) ++ (⟨#[97 + k.val]⟩ : Str) = nd8.getD k.val "" := by decide +kernel
theorem nd8_name : ∀ m : Fin 9, (nd8.take m.val).all isName = true := by decide +kernel
theorem nd8_job : ("job" : Str) ∉ nd8 := by decide +kernel
theorem nd8_nodup : nd8.Nodup := by decide +kernel
theorem job_name : isName "job" = true := by decide +kernel
theorem nd8_succ {i : Nat} (h : i < 8) : nd8.take (i + 1) = nd8.take i ++ [nd8.getD i ""] := by
  rw [← List.take_append_getElem (l := nd8) (i := i) (by exact h)]
  congr 2
  rw [List.getD_eq_getElem?_getD, List.getElem?_eq_getElem (by exact h)]
  rfl
def jobV (m : Nat) (n t wt g : Int) : Jb := ⟨"job", nd8.take m, n % 100, 1 + n % 1000, t, wt, g⟩
theorem jobV_len {m : Nat} (h : m < 9) : (nd8.take m).length = m := by
  rw [List.length_take]
  show min m 8 = m
  omega
theorem jobV_ok {m : Nat} {n t wt g : Int} (h : m < 9) (ht : 1 ≤ t ∧ t ≤ 20) (hw : 0 ≤ wt ∧ wt ≤ 1000) (hg : 1 ≤ g ∧ g ≤ 4) : (jobV m n t wt g).Ok := by
  refine ⟨job_name, ?_, ?_, ?_, ?_, ?_, ?_, ht, hw, hg⟩
  · show (nd8.take m).length ≤ 8
    rw [jobV_len h]
    omega
  · intro k hk
    have := nd8_name ⟨m, h⟩
    rw [List.all_eq_true] at this
    exact this k hk
  · exact fun z => nd8_job (List.mem_of_mem_take z)
  · exact nd8_nodup.sublist (List.take_sublist _ _)
  · show 0 ≤ n % 100 ∧ n % 100 ≤ 99
    omega
  · show 1 ≤ 1 + n % 1000 ∧ 1 + n % 1000 ≤ 1000
    omega
section
variable {P : Program} {w : World} {K : PySem.W.Frag} {mg : Str → Option Value} {base : Heap} {c : Kd → Addr} {cS cO cV C : Addr}
def spLJob (C : Addr) : Sp := fun vs H Q _ => ∃ (n : Int) (o : Addr) (xs : List V), vs = [.int n, .ref o] ∧ Sm n ∧ H o = some (.lst xs) ∧ ∀ j jp H', JobAt C H' jp j → j.Ok → OwnAt H' o j → Chg [o] H H' → Q (.ref jp) H'
theorem ok_ljob (D : Def K mg "_law_job" s__law_job ["_law_cell", "_law_own"]) (B : Bw mg) (J : JCls K mg C) (k_mixed : Knows P w K mg base 1 "_law_mixed" ["_law_cell", "_law_k"] spMixed) (kj : KnowsIB CX0 P w K mg base 5 C jps (spJob C) JForms) : Knows P w K mg base 7 "_law_job" ["_law_cell", "_law_own"] (spLJob C) := by
  refine D.ok sc__law_job (fun vs H Q E h => ?_) (fun f cdv A outer s H vs Q E hr h => ?_)
  · obtain ⟨n, o, xs, rfl, _⟩ := h
    rfl
  · obtain ⟨n, o, xs, rfl, hs, ho, q⟩ := h
    refine ⟨_, by exact (pss_cons (ps_set (i := 2) sc__law_job.nd rfl (Or.inl rfl) (pe_callM k_mixed hr (pa_c (pv 0) (pa_c pe_int pa_nil))))
      (pss_cons (ps_setC (i := 3) [] ["_law_k"] sc__law_job.nd rfl (Or.inl rfl) rfl (pi_range1 rfl B.j.b.range (pa_c (pe_op op_mod (pv 2) pe_int) pa_nil)) (fun _ _ _ _ => pts_nil) (fun _ _ _ _ => (pe_op op_add_str pe_str (pe_ix ix_str pe_str (pv 0) (fun _ _ => rfl)))))
      (pss_cons (ps_set (i := 4) sc__law_job.nd rfl (Or.inl rfl) (pe_ix ix_list (pe_lst (pa_c pe_int (pa_c pe_int (pa_c pe_int (pa_c pe_int (pa_c (pe_op op_add pe_int (pe_op op_mod (pe_op op_fdiv (pv 2) pe_int) pe_int)) pa_nil)))))) (pe_op op_mod (pe_op op_fdiv (pv 2) pe_int) pe_int) (fun _ _ => rfl)))
      (pss_cons (ps_set (i := 5) sc__law_job.nd rfl (Or.inl rfl) (pe_ix ix_list (pe_lst (pa_c pe_int (pa_c pe_int (pa_c pe_int (pa_c (pe_op op_mod (pe_op op_fdiv (pv 2) pe_int) pe_int) pa_nil))))) (pe_op op_mod (pe_op op_fdiv (pv 2) pe_int) pe_int) (fun _ _ => rfl)))
      (pss_cons (ps_set (i := 6) sc__law_job.nd rfl (Or.inl rfl) (pe_op op_add pe_int (pe_op op_mod (pe_op op_fdiv (pv 2) pe_int) pe_int)))
      (pss_cons (ps_expr (pe_bm0 PySem.F.plainAttrs_list PySem.F.slot_list_clear PySem.F.type_list_clear mt_clear (pv 1)))
      (pss_cons (ps_expr (pe_mcall PySem.F.plainAttrs_list PySem.F.slot_list_extend PySem.F.type_list_extend mt_extend (pv 1) (pa_c (pe_lst (pa_c (pe_bcall call_len_seq rfl B.j.b.len PySem.boot_len (pa_c (pv 3) pa_nil)) (pa_c (pv 4) (pa_c (pv 5) (pa_c (pv 6) pa_nil))))) pa_nil)))
      (pss_one (ps_ret (pe_makeB kj (fun _ h => h.f7) hr J.mgC pass0 (pa_c pe_str (pa_c (pv 3) (pa_c (pe_op op_mod (pv 2) pe_int) (pa_c (pe_op op_add pe_int (pe_op op_mod (pv 2) pe_int)) (pa_c (pv 4) (pa_c (pv 5) (pa_c (pv 6) pa_nil))))))) pk_nil)))))))))), ?_⟩
    refine ⟨_, rfl, n, 1, rfl, hs, by decide, fun m m0 m1 => ?_⟩
    obtain ⟨k, hk, hk9⟩ : ∃ k : Nat, m % 9 = (k : Int) ∧ k < 9 := ⟨(m % 9).toNat, by omega, by omega⟩
    dsimp only [gName]
    refine seq_use (fun v H' => ∃ l, v = .ref l ∧ H l = none ∧ H' l = some (.lst ((nd8.take k).map V.str)) ∧ Same H H') (fun Q' kk => ?_) ?_
    · refine ⟨_, rfl, _, _, rfl, rfl, by walk_at "m", k, congrArg (fun x => [V.int x]) hk, by omega, by omega, ?_⟩
      rw [Int.toNat_natCast]
      refine comp1_wk (wk_range 0 k) (fun i ys H4 => H = H4 ∧ ys = (nd8.take i).map V.str) ⟨rfl, rfl⟩ (fun i ys H4 hi h => ⟨trivial, ?_⟩) (by rw [rangeV_length]; exact Nat.le_trans (Nat.le_of_lt hk9) (by decide)) (fun i x ys H4 Nx hx hv kn => ?_) ?_
      · rw [h.2, List.length_map, List.length_take]
        exact Nat.min_le_left _ _
      · obtain ⟨rfl, rfl⟩ := hv
        obtain ⟨hi, rfl⟩ := range_at hx
        have hi8 : i < 8 := by omega
        refine tTrue_use ⟨_, rfl, _, _, _, rfl, rfl, by decide +kernel, let8 ⟨i, hi8⟩, _, _, rfl, rfl, by show 2 ≤ sizeLine; decide, ?_⟩
        rw [cat8 ⟨i, hi8⟩]
        refine kn _ _ ⟨rfl, ?_⟩
        rw [nd8_succ hi8, List.map_append]
        rfl
      · rintro ys H4 ⟨rfl, rfl⟩ l hl
        refine kk _ _ ⟨l, rfl, hl, ?_, same_of hl⟩
        rw [rangeV_length]
        exact upd_same
    rintro _ H1 ⟨l, rfl, hl0, hl1, s1⟩
    refine seq_use (fun v H' => (∃ t : Int, v = .int t ∧ 1 ≤ t ∧ t ≤ 20) ∧ Same H1 H') (fun Q' kk => ?_) ?_
    · refine ⟨_, rfl, _, _, rfl, rfl, by walk_at "m", _, _, rfl, rfl, by walk_at "m", _, _, rfl, rfl, by show 5 ≤ sizeLine; decide, fun p hp => ?_⟩
      refine ⟨_, rfl, _, _, rfl, rfl, by walk_at "m", _, _, rfl, rfl, by walk_at "m", ?_⟩
      dsimp only
      have i1 := Int.emod_nonneg (m / 180) (show (5 : Int) ≠ 0 by decide)
      have i2 := Int.emod_lt_of_pos (m / 180) (show (0 : Int) < 5 by decide)
      have a1 := Int.emod_nonneg (m / 9) (show (20 : Int) ≠ 0 by decide)
      have a2 := Int.emod_lt_of_pos (m / 9) (show (0 : Int) < 20 by decide)
      obtain ⟨v, hv, hm, _⟩ := atI_mem (xs := [V.int 1, .int 2, .int 3, .int 20, .int (1 + m / 9 % 20)]) i1 i2
      have hv2 : ∃ t : Int, v = .int t ∧ 1 ≤ t ∧ t ≤ 20 := by
        simp only [List.mem_cons, List.not_mem_nil, or_false] at hm
        rcases hm with rfl | rfl | rfl | rfl | rfl
        · exact ⟨_, rfl, by decide, by decide⟩
        · exact ⟨_, rfl, by decide, by decide⟩
        · exact ⟨_, rfl, by decide, by decide⟩
        · exact ⟨_, rfl, by decide, by decide⟩
        · exact ⟨_, rfl, by omega, by omega⟩
      exact ⟨p, _, _, _, rfl, rfl, SqL.of upd_same, hv, kk _ _ ⟨hv2, same_of hp⟩⟩
    rintro _ H2 ⟨⟨t, rfl, ht⟩, s2⟩
    refine seq_use (fun v H' => (∃ t : Int, v = .int t ∧ 0 ≤ t ∧ t ≤ 1000) ∧ Same H2 H') (fun Q' kk => ?_) ?_
    · refine ⟨_, rfl, _, _, rfl, rfl, by walk_at "m", _, _, rfl, rfl, by walk_at "m", by show 4 ≤ sizeLine; decide, fun p hp => ?_⟩
      refine ⟨_, rfl, _, _, rfl, rfl, by walk_at "m", _, _, rfl, rfl, by walk_at "m", ?_⟩
      dsimp only
      have i1 := Int.emod_nonneg (m / 9000) (show (4 : Int) ≠ 0 by decide)
      have i2 := Int.emod_lt_of_pos (m / 9000) (show (0 : Int) < 4 by decide)
      have a1 := Int.emod_nonneg (m / 900) (show (1001 : Int) ≠ 0 by decide)
      have a2 := Int.emod_lt_of_pos (m / 900) (show (0 : Int) < 1001 by decide)
      obtain ⟨v, hv, hm, _⟩ := atI_mem (xs := [V.int 0, .int 1, .int 1000, .int (m / 900 % 1001)]) i1 i2
      have hv2 : ∃ t : Int, v = .int t ∧ 0 ≤ t ∧ t ≤ 1000 := by
        simp only [List.mem_cons, List.not_mem_nil, or_false] at hm
        rcases hm with rfl | rfl | rfl | rfl
        · exact ⟨_, rfl, by decide, by decide⟩
        · exact ⟨_, rfl, by decide, by decide⟩
        · exact ⟨_, rfl, by decide, by decide⟩
        · exact ⟨_, rfl, by omega, by omega⟩
      exact ⟨p, _, _, _, rfl, rfl, SqL.of upd_same, hv, kk _ _ ⟨hv2, same_of hp⟩⟩
    rintro _ H3 ⟨⟨wt, rfl, hw⟩, s3⟩
    refine seq_use (fun v H' => (∃ t : Int, v = .int t ∧ 1 ≤ t ∧ t ≤ 4) ∧ H3 = H') (fun Q' kk => ?_) ?_
    · have a1 := Int.emod_nonneg (m / 36000) (show (4 : Int) ≠ 0 by decide)
      have a2 := Int.emod_lt_of_pos (m / 36000) (show (0 : Int) < 4 by decide)
      exact ⟨_, rfl, _, _, rfl, rfl, by walk_at "m", _, _, rfl, rfl, by walk_at "m", _, _, rfl, rfl, kk _ _ ⟨⟨_, rfl, by omega, by omega⟩, rfl⟩⟩
    rintro _ _ ⟨⟨g, rfl, hg⟩, rfl⟩
    have s13 := (s1.trans s2).trans s3
    have ho3 := s13 _ _ ho
    have hl3 := (s2.trans s3) _ _ hl1
    have hlo : l ≠ o := fun z => by rw [z, ho] at hl0; cases hl0
    refine ⟨_, rfl, .inl ⟨rfl, _, SqL.of ho3⟩, o, _, rfl, rfl, ho3, ?_⟩
    have c4 : Chg [o] H (upd H3 o (.lst [])) := fun b u hb e => by rw [upd_ne (fun z => hb (by simp [z]))]; exact s13 _ _ e
    have o4 : (upd H3 o (.lst [])) o = some (.lst []) := upd_same
    have l4 : (upd H3 o (.lst [])) l = some (.lst ((nd8.take k).map V.str)) := by rw [upd_ne hlo]; exact hl3
    generalize upd H3 o (.lst []) = H4 at c4 o4 l4
    refine ⟨_, rfl, .inl ⟨rfl, _, SqL.of o4⟩, _, rfl, l, _, rfl, .inl (SqL.of l4), _, rfl, _, rfl, _, rfl, by show 4 ≤ sizeLine; decide, fun b hb => ?_⟩
    have hbo : o ≠ b := ne_of_none o4 hb
    have hbl : l ≠ b := ne_of_none l4 hb
    refine ⟨o, b, [], _, rfl, rfl, by rw [upd_ne hbo]; exact o4, upd_same, by show 4 ≤ sizeLine; decide, ?_⟩
    have e5 : (((nd8.take k).map V.str).length : Int) = ((jobV k m t wt g).needs.length : Int) := by rw [List.length_map]; rfl
    have H5o : (upd (upd H4 b (.lst [.int (((nd8.take k).map V.str).length : Int), .int t, .int wt, .int g])) o (.lst ([] ++ [.int (((nd8.take k).map V.str).length : Int), .int t, .int wt, .int g]))) o = some (.lst [.int ((jobV k m t wt g).needs.length : Int), .int t, .int wt, .int g]) := by
      rw [upd_same, e5]
      rfl
    have H5l : (upd (upd H4 b (.lst [.int (((nd8.take k).map V.str).length : Int), .int t, .int wt, .int g])) o (.lst ([] ++ [.int (((nd8.take k).map V.str).length : Int), .int t, .int wt, .int g]))) l = some (.lst ((nd8.take k).map V.str)) := by
      rw [upd_ne hlo, upd_ne hbl]
      exact l4
    have c5 : Chg [o] H (upd (upd H4 b (.lst [.int (((nd8.take k).map V.str).length : Int), .int t, .int wt, .int g])) o (.lst ([] ++ [.int (((nd8.take k).map V.str).length : Int), .int t, .int wt, .int g]))) := fun a u ha e => by
      rw [upd_ne (fun z => ha (by simp [z])), upd_ne (ne_of_none (c4 a u ha e) hb)]
      exact c4 a u ha e
    generalize upd (upd H4 b (.lst [.int (((nd8.take k).map V.str).length : Int), .int t, .int wt, .int g])) o (.lst ([] ++ [.int (((nd8.take k).map V.str).length : Int), .int t, .int wt, .int g])) = H5 at H5o H5l c5
    refine ⟨_, rfl, _, rfl, _, _, rfl, rfl, by walk_at "m", _, rfl, _, _, rfl, rfl, by walk_at "m", _, _, rfl, rfl, _, rfl, _, rfl, _, rfl, rfl, rfl, fun x dx hx hdx hne => ?_⟩
    refine ⟨x, dx, .ref l, jobV k m t wt g, rfl, upd_same, jobV_ok hk9 ht hw hg, ⟨l, rfl, by rw [upd_ne (ne_of_none H5l hx), upd_ne (ne_of_none H5l hdx)]; exact H5l⟩, fun H6 jat ch => ⟨rfl, ?_⟩⟩
    have s6 := made_same hx hdx ch
    exact q _ _ _ jat (jobV_ok hk9 ht hw hg) ⟨s6 _ _ H5o⟩ fun a u ha e => s6 _ _ (c5 a u ha e)
end
end K12

set_option Elab.async false
set_option linter.all false
set_option maxRecDepth 100000
set_option maxHeartbeats 4000000
set_option pp.maxSteps 600
set_option pp.deepTerms false
namespace K12
open PySem L2 PyProof.Rows
def Sta.Good (j : Jb) : Sta → Prop
  | .blocked n => 1 ≤ n
  | .ready f => (f : Int) < j.tries
  | .leased f _ => (f : Int) < j.tries
  | .resting f _ => (f : Int) < j.tries
  | _ => False
theorem wd (k k' : Kd) : decide (V.str k.word = V.str k'.word) = decide (k = k') := by
  cases k <;> cases k' <;> decide +kernel
section
variable {P : Program} {w : World} {K : PySem.W.Frag} {mg : Str → Option Value} {base : Heap} {c : Kd → Addr} {cS cO cV C : Addr}
def spStepped (c : Kd → Addr) (C : Addr) : Sp := fun vs H Q _ => ∃ (p jp d o : Addr) (s : Sta) (j : Jb) (n : Int), vs = [.ref p, .ref jp, .ref d, .ref o, .int n] ∧ StAt c H p s ∧ H d = some (.tup s.told) ∧ s.Good j ∧ JobAt C H jp j ∧ j.Ok ∧ OwnAt H o j ∧
  ∀ (s' : Sta) (t q e : Addr) (H' : Hp), Same H H' → H' t = some (.tup [.ref q, .ref e]) → StAt c H' q s' → H' e = some (.tup s'.told) → (s'.kd.over = false → s'.Good j) → Q (.ref t) H'
theorem ok_stepped (D : Def K mg "_law_stepped" s__law_stepped ["_law_state", "_law_job_here", "_law_due", "_law_own", "_law_number"]) (S : SCls K mg c cS cO cV)
    (m_cut : KnowsM CX0 P w K mg base 3 (c .blocked) "cut_off" ["self", "need"] (spCutOff c)) (m_freed : KnowsM CX0 P w K mg base 3 (c .blocked) "freed" ["self"] (spFreed c)) (m_leased : KnowsM CX0 P w K mg base 3 (c .ready) "leased" ["self", "number"] (spLeased c))
    (m_ended : KnowsM CX0 P w K mg base 3 (c .leased) "ended" ["self", "turn"] (spEnded c)) (m_failed : KnowsM CX0 P w K mg base 3 (c .leased) "failed" ["self", "job", "turn", "why"] (spFailed c C)) (m_rested : KnowsM CX0 P w K mg base 3 (c .resting) "rested" ["self"] (spRested c))
    (k_turn : Knows P w K mg base 1 "_law_turn" ["_law_number"] spTurn) (k_rest : Knows P w K mg base 1 "_law_rest" ["_law_own", "_law_fails"] spLRest) :
    Knows P w K mg base 4 "_law_stepped" ["_law_state", "_law_job_here", "_law_due", "_law_own", "_law_number"] (spStepped c C) := by
  refine D.ok sc__law_stepped (fun vs H Q E h => ?_) (fun f cdv A outer s H vs Q E hr h => ?_)
  · obtain ⟨_, _, _, _, _, _, _, rfl, _⟩ := h
    rfl
  · obtain ⟨p, jp, d, o, st, j, n, rfl, hp, hd, gd, ja, jo, ho, q⟩ := h
    refine ⟨_, by exact (pss_cons (ps_set (i := 5) sc__law_stepped.nd rfl (Or.inl rfl) (pe_callM k_turn hr (pa_c (pe_op op_fdiv (pv 4) pe_int) pa_nil)))
      (pss_cons (ps_set (i := 6) sc__law_stepped.nd rfl (Or.inl rfl) (pe_ix ix_list (pe_lst (pa_c pe_str (pa_c pe_str (pa_c pe_str (pa_c pe_str pa_nil))))) (pe_op op_mod (pe_op op_fdiv (pv 4) pe_int) pe_int) (fun _ _ => rfl)))
      (pss_cons (ps_if (PW.pt (pw_and (pt_cmpR op_eq (pe_ix ix_tup (pv 2) pe_int (fun _ _ => rfl)) pe_str (nomark _)) (pw_and1 (pt_cmpR op_eq (pe_op op_mod (pv 4) pe_int) pe_int (nomark _))))) (pss_one (ps_ret (pe_tup (pa_c (pe_methM m_cut (S.cl _) hr pass0 (pv 0) (pa_c (pe_op op_mod (pv 5) pe_int) pa_nil)) (pa_c (pe_tup (pa_c pe_str (pa_c (pe_op op_mod (pv 5) pe_int) pa_nil))) pa_nil))))) pss_nil)
      (pss_cons (ps_if (pt_cmpR op_eq (pe_ix ix_tup (pv 2) pe_int (fun _ _ => rfl)) pe_str (nomark _)) (pss_one (ps_ret (pe_tup (pa_c (pe_methM0 m_freed (S.cl _) hr pass0 (pv 0)) (pa_c (pe_ifExp (pt_cmpR op_gt (pe_ix ix_tup (pv 2) pe_int (fun _ _ => rfl)) pe_int (nomark _)) (pe_tup (pa_c pe_str (pa_c (pe_op op_sub (pe_ix ix_tup (pv 2) pe_int (fun _ _ => rfl)) pe_int) pa_nil))) (pe_tup (pa_c pe_str (pa_c pe_int pa_nil)))) pa_nil))))) pss_nil)
      (pss_cons (ps_if (pt_cmpR op_eq (pe_ix ix_tup (pv 2) pe_int (fun _ _ => rfl)) pe_str (nomark _)) (pss_one (ps_ret (pe_tup (pa_c (pe_methM m_leased (S.cl _) hr pass0 (pv 0) (pa_c (pv 5) pa_nil)) (pa_c (pe_tup (pa_c pe_str (pa_c (pe_ix ix_tup (pv 2) pe_int (fun _ _ => rfl)) (pa_c (pv 5) pa_nil)))) pa_nil))))) pss_nil)
      (pss_cons (ps_if (pt_cmpR op_eq (pe_ix ix_tup (pv 2) pe_int (fun _ _ => rfl)) pe_str (nomark _)) (pss_one (ps_ret (pe_tup (pa_c (pe_methM0 m_rested (S.cl _) hr pass0 (pv 0)) (pa_c (pe_tup (pa_c pe_str (pa_c (pe_ix ix_tup (pv 2) pe_int (fun _ _ => rfl)) pa_nil))) pa_nil))))) pss_nil)
      (pss_cons (ps_if (pt_cmpR op_eq (pe_op op_mod (pv 4) pe_int) pe_int (nomark _)) (pss_one (ps_ret (pe_tup (pa_c (pe_methM m_ended (S.cl _) hr pass0 (pv 0) (pa_c (pv 5) pa_nil)) (pa_c (pe_tup (pa_c pe_str (pa_c (pe_ix ix_tup (pv 2) pe_int (fun _ _ => rfl)) (pa_c (pe_ix ix_tup (pv 2) pe_int (fun _ _ => rfl)) (pa_c (pv 5) pa_nil))))) pa_nil))))) pss_nil)
      (pss_cons (ps_set (i := 7) sc__law_stepped.nd rfl (Or.inl rfl) (pe_op op_add (pe_ix ix_tup (pv 2) pe_int (fun _ _ => rfl)) pe_int))
      (pss_cons (ps_set (i := 8) sc__law_stepped.nd rfl (Or.inl rfl) (pe_methM m_failed (S.cl _) hr pass0 (pv 0) (pa_c (pv 1) (pa_c (pv 5) (pa_c (pv 6) pa_nil)))))
      (pss_cons (ps_if (pt_cmpR op_eq (pv 7) (pe_ix ix_list (pv 3) pe_int (fun _ _ => rfl)) (nomark _)) (pss_one (ps_ret (pe_tup (pa_c (pv 8) (pa_c (pe_tup (pa_c pe_str (pa_c (pv 7) (pa_c (pv 6) pa_nil)))) pa_nil))))) pss_nil)
      (pss_cons (ps_set (i := 9) sc__law_stepped.nd rfl (Or.inl rfl) (pe_callM k_rest hr (pa_c (pv 3) (pa_c (pv 7) pa_nil))))
      (pss_one (ps_ret (pe_tup (pa_c (pv 8) (pa_c (pe_ifExp (pt_cmpR op_gt (pv 9) pe_int (nomark _)) (pe_tup (pa_c pe_str (pa_c (pv 7) (pa_c (pe_op op_add (pv 5) (pv 9)) pa_nil)))) (pe_tup (pa_c pe_str (pa_c (pv 7) pa_nil)))) pa_nil)))))))))))))))), ?_⟩
    have fin : ∀ (s' : Sta) (q' e t : Addr) (H2 : Hp), Same H H2 → StAt c H2 q' s' → (s'.kd.over = false → s'.Good j) → H2 e = none → (upd H2 e (.tup s'.told)) t = none → Q (.ref t) (upd (upd H2 e (.tup s'.told)) t (.tup [.ref q', .ref e])) :=
      fun s' q' e t H2 s2 sq g he ht => q s' t q' e _ ((s2.trans (same_of he)).trans (same_of ht)) upd_same ((sq.same (same_of he)).same (same_of ht)) (by rw [upd_ne (ne_of_none upd_same ht)]; exact upd_same) g
    refine ⟨_, rfl, _, _, rfl, rfl, by walk_at "m", n / 6, rfl, fun u H1 u0 u1 s1 => ?_⟩
    dsimp only [gName]
    refine seq_use (fun v H' => (∃ z : Str, v = .str z) ∧ Same H H') (fun Q' kk => ?_) ?_
    · refine ⟨by show 4 ≤ sizeLine; decide, fun l hl => ?_⟩
      refine ⟨_, rfl, _, _, rfl, rfl, by walk_at "m", _, _, rfl, rfl, by walk_at "m", ?_⟩
      dsimp only
      have i1 := Int.emod_nonneg (n / 30) (show (4 : Int) ≠ 0 by decide)
      have i2 := Int.emod_lt_of_pos (n / 30) (show (0 : Int) < 4 by decide)
      obtain ⟨v, hv, hm, _⟩ := atI_mem (xs := [V.str "out", .str "fell", .str "a", .str "abcdefghijkl"]) i1 i2
      have hv2 : ∃ z : Str, v = .str z := by
        simp only [List.mem_cons, List.not_mem_nil, or_false] at hm
        rcases hm with rfl | rfl | rfl | rfl <;> exact ⟨_, rfl⟩
      exact ⟨l, _, _, _, rfl, rfl, SqL.of upd_same, hv, kk _ _ ⟨hv2, s1.trans (same_of hl)⟩⟩
    rintro _ H2 ⟨⟨z, rfl⟩, s2⟩
    have hd2 := s2 _ _ hd
    have hp2 := hp.same s2
    have ja2 := ja.same s2
    have ho2 : OwnAt H2 o j := ⟨s2 _ _ ho.at_⟩
    match st, gd, hp2, hd2 with
    | .blocked m, gd, hp2, hd2 =>
      obtain ⟨dx, h2⟩ := hp2.ex
      refine ⟨_, rfl, d, _, _, _, rfl, rfl, SqT.of hd2, atI_nat (j := 0) (told_word (.blocked m)), rfl, _, rfl, ite_of (wd .blocked .blocked) (fun _ => ?_) (fun h => by cases h)⟩
      refine ⟨_, rfl, _, _, rfl, rfl, by walk_at "m", rfl, _, rfl, ite2 (fun h6 => ?_) (fun h6 => ?_)⟩
      · refine ⟨_, rfl, p, dx, _, rfl, h2, rfl, _, rfl, _, _, rfl, rfl, by walk_at "m", p, m, _, rfl, hp2, fun q' H3 s3 sq => ?_⟩
        refine ⟨_, rfl, _, _, rfl, rfl, by walk_at "m", by show 2 ≤ sizeLine; decide, fun e he => ?_⟩
        exact ⟨by show 2 ≤ sizeLine; decide, fun t ht => fin (.cut (u % 40)) q' e t H3 (s2.trans s3) sq (fun h => by cases h) he ht⟩
      · refine ⟨_, rfl, d, _, _, _, rfl, rfl, SqT.of hd2, atI_nat (j := 0) (told_word (.blocked m)), rfl, _, rfl, ite_of (wd .blocked .blocked) (fun _ => ?_) (fun h => by cases h)⟩
        refine ⟨_, rfl, p, dx, _, rfl, h2, rfl, p, m, rfl, hp2, gd, fun q' H3 s3 sq => ?_⟩
        have hd3 := s3 _ _ hd2
        refine ⟨_, rfl, d, _, _, _, rfl, rfl, SqT.of hd3, atI_nat (j := 1) rfl, _, _, rfl, rfl, _, rfl, ite2 (fun h1 => ?_) (fun h1 => ?_)⟩
        · have h1' : (1 : Int) < (m : Int) := of_decide_eq_true h1
          have e0 : freedTo m = .blocked (m - 1) := by unfold freedTo; rw [if_neg (by omega)]
          refine ⟨_, rfl, d, _, _, _, rfl, rfl, SqT.of hd3, atI_nat (j := 1) rfl, _, _, rfl, rfl, by show 2 ≤ sizeLine; decide, fun e he => ⟨by show 2 ≤ sizeLine; decide, fun t ht => ?_⟩⟩
          have et : [V.str "blocked", .int ((m : Int) - 1)] = (Sta.blocked (m - 1)).told := by
            show _ = [V.str "blocked", .int ((m - 1 : Nat) : Int)]
            rw [show ((m - 1 : Nat) : Int) = (m : Int) - 1 by omega]
          have ht' : (upd H3 e (.tup [V.str "blocked", .int ((m : Int) - 1)])) t = none := ht
          show Q (.ref t) (upd (upd H3 e (.tup [V.str "blocked", .int ((m : Int) - 1)])) t (.tup [.ref q', .ref e]))
          rw [et] at ht' ⊢
          exact fin (.blocked (m - 1)) q' e t H3 (s2.trans s3) (e0 ▸ sq) (fun _ => by show 1 ≤ m - 1; omega) he ht'
        · have h1' : ¬ (1 : Int) < (m : Int) := fun y => h1 (decide_eq_true y)
          have e0 : freedTo m = .ready 0 := by unfold freedTo; rw [if_pos (by have : 1 ≤ m := gd; omega)]
          have tr := jo.tries
          exact ⟨by show 2 ≤ sizeLine; decide, fun e he => ⟨by show 2 ≤ sizeLine; decide, fun t ht => fin (.ready 0) q' e t H3 (s2.trans s3) (e0 ▸ sq) (fun _ => by show ((0 : Nat) : Int) < j.tries; omega) he ht⟩⟩
    | .ready m, gd, hp2, hd2 =>
      obtain ⟨dx, h2⟩ := hp2.ex
      refine ⟨_, rfl, d, _, _, _, rfl, rfl, SqT.of hd2, atI_nat (j := 0) (told_word (.ready m)), rfl, _, rfl, ite_of (wd .ready .blocked) (fun h => by cases h) (fun _ => iteF ?_)⟩
      refine ⟨_, rfl, d, _, _, _, rfl, rfl, SqT.of hd2, atI_nat (j := 0) (told_word (.ready m)), rfl, _, rfl, ite_of (wd .ready .blocked) (fun h => by cases h) (fun _ => ?_)⟩
      refine ⟨_, rfl, d, _, _, _, rfl, rfl, SqT.of hd2, atI_nat (j := 0) (told_word (.ready m)), rfl, _, rfl, ite_of (wd .ready .ready) (fun _ => ?_) (fun h => by cases h)⟩
      refine ⟨_, rfl, p, dx, _, rfl, h2, rfl, _, rfl, p, m, u, rfl, hp2, fun q' H3 s3 sq => ?_⟩
      have hd3 := s3 _ _ hd2
      refine ⟨_, rfl, d, _, _, _, rfl, rfl, SqT.of hd3, atI_nat (j := 1) rfl, _, rfl, by show 3 ≤ sizeLine; decide, fun e he => ⟨by show 2 ≤ sizeLine; decide, fun t ht => ?_⟩⟩
      exact fin (.leased m u) q' e t H3 (s2.trans s3) sq (fun _ => gd) he ht
    | .resting m y, gd, hp2, hd2 =>
      obtain ⟨dx, h2⟩ := hp2.ex
      refine ⟨_, rfl, d, _, _, _, rfl, rfl, SqT.of hd2, atI_nat (j := 0) (told_word (.resting m y)), rfl, _, rfl, ite_of (wd .resting .blocked) (fun h => by cases h) (fun _ => iteF ?_)⟩
      refine ⟨_, rfl, d, _, _, _, rfl, rfl, SqT.of hd2, atI_nat (j := 0) (told_word (.resting m y)), rfl, _, rfl, ite_of (wd .resting .blocked) (fun h => by cases h) (fun _ => ?_)⟩
      refine ⟨_, rfl, d, _, _, _, rfl, rfl, SqT.of hd2, atI_nat (j := 0) (told_word (.resting m y)), rfl, _, rfl, ite_of (wd .resting .ready) (fun h => by cases h) (fun _ => ?_)⟩
      refine ⟨_, rfl, d, _, _, _, rfl, rfl, SqT.of hd2, atI_nat (j := 0) (told_word (.resting m y)), rfl, _, rfl, ite_of (wd .resting .resting) (fun _ => ?_) (fun h => by cases h)⟩
      refine ⟨_, rfl, p, dx, _, rfl, h2, rfl, p, m, y, rfl, hp2, fun q' H3 s3 sq => ?_⟩
      have hd3 := s3 _ _ hd2
      refine ⟨_, rfl, d, _, _, _, rfl, rfl, SqT.of hd3, atI_nat (j := 1) rfl, by show 2 ≤ sizeLine; decide, fun e he => ⟨by show 2 ≤ sizeLine; decide, fun t ht => ?_⟩⟩
      exact fin (.ready m) q' e t H3 (s2.trans s3) sq (fun _ => gd) he ht
    | .leased m y, gd, hp2, hd2 =>
      obtain ⟨dx, h2⟩ := hp2.ex
      refine ⟨_, rfl, d, _, _, _, rfl, rfl, SqT.of hd2, atI_nat (j := 0) (told_word (.leased m y)), rfl, _, rfl, ite_of (wd .leased .blocked) (fun h => by cases h) (fun _ => iteF ?_)⟩
      refine ⟨_, rfl, d, _, _, _, rfl, rfl, SqT.of hd2, atI_nat (j := 0) (told_word (.leased m y)), rfl, _, rfl, ite_of (wd .leased .blocked) (fun h => by cases h) (fun _ => ?_)⟩
      refine ⟨_, rfl, d, _, _, _, rfl, rfl, SqT.of hd2, atI_nat (j := 0) (told_word (.leased m y)), rfl, _, rfl, ite_of (wd .leased .ready) (fun h => by cases h) (fun _ => ?_)⟩
      refine ⟨_, rfl, d, _, _, _, rfl, rfl, SqT.of hd2, atI_nat (j := 0) (told_word (.leased m y)), rfl, _, rfl, ite_of (wd .leased .resting) (fun h => by cases h) (fun _ => ?_)⟩
      refine ⟨_, rfl, _, _, rfl, rfl, by walk_at "m", rfl, _, rfl, ite2 (fun h6 => ?_) (fun h6 => next_to ?_)⟩
      · refine ⟨_, rfl, p, dx, _, rfl, h2, rfl, _, rfl, p, m, y, u, rfl, hp2, fun q' H3 s3 sq => ?_⟩
        have hd3 := s3 _ _ hd2
        refine ⟨_, rfl, d, _, _, _, rfl, rfl, SqT.of hd3, atI_nat (j := 1) rfl, _, rfl, d, _, _, _, rfl, rfl, SqT.of hd3, atI_nat (j := 2) rfl, _, rfl, by show 4 ≤ sizeLine; decide, fun e he => ⟨by show 2 ≤ sizeLine; decide, fun t ht => ?_⟩⟩
        exact fin (.done m y u) q' e t H3 (s2.trans s3) sq (fun h => by cases h) he ht
      · dsimp only
        have em : (m : Int) + 1 = ((m + 1 : Nat) : Int) := by omega
        refine seq_use (fun v H' => v = .int ((m + 1 : Nat) : Int) ∧ H2 = H') (fun Q' kk => ⟨_, rfl, d, _, _, _, rfl, rfl, SqT.of hd2, atI_nat (j := 1) rfl, _, _, rfl, rfl, kk _ _ ⟨by show V.int ((m : Int) + 1) = _; rw [em], rfl⟩⟩) ?_
        rintro _ _ ⟨rfl, rfl⟩
        refine ⟨_, rfl, p, dx, _, rfl, h2, rfl, _, rfl, _, rfl, _, rfl, p, jp, j, m, y, u, z, rfl, hp2, ja2, jo, fun q' H3 s3 sq => ?_⟩
        have ho3 : OwnAt H3 o j := ⟨s3 _ _ ho2.at_⟩
        refine ⟨_, rfl, _, rfl, o, _, _, _, rfl, rfl, SqL.of ho3.at_, atI_nat (j := 1) rfl, rfl, _, rfl, ite2 (fun hc => ?_) (fun hc => next_to ?_)⟩
        · have e1 : ((m + 1 : Nat) : Int) = j.tries := by
            have := of_decide_eq_true hc
            injection this
          have e0 : failedTo j m u z = .broken (m + 1) z := by unfold failedTo; rw [if_pos e1]
          refine ⟨_, rfl, _, rfl, _, rfl, by show 3 ≤ sizeLine; decide, fun e he => ⟨by show 2 ≤ sizeLine; decide, fun t ht => ?_⟩⟩
          exact fin (.broken (m + 1) z) q' e t H3 (s2.trans s3) (e0 ▸ sq) (fun h => by cases h) he ht
        · have e1 : ¬ ((m + 1 : Nat) : Int) = j.tries := fun y => hc (by rw [y]; exact decide_eq_true rfl)
          have tr := jo.tries
          have gd' : (m : Int) < j.tries := gd
          dsimp only
          refine ⟨_, rfl, _, rfl, o, j, m, rfl, ho3, jo, by omega, ?_⟩
          refine ⟨_, rfl, _, rfl, _, _, rfl, rfl, _, rfl, ite2 (fun hr0 => ?_) (fun hr0 => ?_)⟩
          · have r0 : ¬ rest j.wait j.grow m = 0 := fun y => by
              have := of_decide_eq_true hr0
              rw [y] at this
              exact absurd this (by decide)
            have e0 : failedTo j m u z = .resting (m + 1) (u + rest j.wait j.grow m) := by unfold failedTo; rw [if_neg e1, if_neg r0]
            refine ⟨_, rfl, _, rfl, _, rfl, _, _, rfl, rfl, by show 3 ≤ sizeLine; decide, fun e he => ⟨by show 2 ≤ sizeLine; decide, fun t ht => ?_⟩⟩
            exact fin (.resting (m + 1) (u + rest j.wait j.grow m)) q' e t H3 (s2.trans s3) (e0 ▸ sq) (fun _ => by show ((m + 1 : Nat) : Int) < j.tries; omega) he ht
          · have r0 : rest j.wait j.grow m = 0 := by
              have h1 : ¬ (0 : Int) < rest j.wait j.grow m := fun y => hr0 (decide_eq_true y)
              have h2 := rest_nonneg jo.wait.1 jo.grow.1 m
              omega
            have e0 : failedTo j m u z = .ready (m + 1) := by unfold failedTo; rw [if_neg e1, if_pos r0]
            refine ⟨_, rfl, by show 2 ≤ sizeLine; decide, fun e he => ⟨by show 2 ≤ sizeLine; decide, fun t ht => ?_⟩⟩
            exact fin (.ready (m + 1)) q' e t H3 (s2.trans s3) (e0 ▸ sq) (fun _ => by show ((m + 1 : Nat) : Int) < j.tries; omega) he ht
    | .done _ _ _, gd, _, _ => exact gd.elim
    | .broken _ _, gd, _, _ => exact gd.elim
    | .cut _, gd, _, _ => exact gd.elim
end
end K12

set_option Elab.async false
set_option linter.all false
set_option maxRecDepth 100000
set_option maxHeartbeats 8000000
set_option pp.maxSteps 600
set_option pp.deepTerms false
namespace K12
open PySem L2 PyProof.Rows
theorem cutV_mem {xs : List V} {lo hi : Option Int} {v : V} (h : v ∈ cutV xs lo hi) : v ∈ xs := by
  unfold cutV at h
  exact List.mem_of_mem_drop (List.mem_of_mem_take h)
theorem cutV_40 (xs : List V) : (cutV xs (some 1) (some 41)).length ≤ 40 := by
  unfold cutV
  have e1 : HT.sIx xs.length 0 (some 1) = min 1 xs.length := rfl
  have e2 : HT.sIx xs.length xs.length (some 41) = min 41 xs.length := rfl
  rw [List.length_take, List.length_drop, e1, e2]
  omega
theorem chg_ne {A b : Addr} {H H' : Hp} {u : HO} {xs : List V} (ch : Chg [A] H H') (hA : H A = some (.lst xs)) (hb : H b = some u) (hu : ∀ ys, u ≠ .lst ys) : H' b = some u :=
  ch b u (fun z => by
    rw [List.mem_singleton.mp z, hA] at hb
    cases hb
    exact hu _ rfl) hb
theorem StAt.chg {c : Kd → Addr} {A p : Addr} {H H' : Hp} {s : Sta} {xs : List V} (ch : Chg [A] H H') (hA : H A = some (.lst xs)) (h : StAt c H p s) : StAt c H' p s := by
  obtain ⟨dx, h⟩ := h.ex
  exact ⟨dx, chg_ne ch hA h (fun _ z => by cases z)⟩
structure Held (c : Kd → Addr) (H : Hp) (T : Addr) : Prop where
  ex : ∃ (q e : Addr) (s : Sta), H T = some (.tup [.ref q, .ref e]) ∧ StAt c H q s ∧ H e = some (.tup s.told)
theorem Held.chg {c : Kd → Addr} {A T : Addr} {H H' : Hp} {xs : List V} (ch : Chg [A] H H') (hA : H A = some (.lst xs)) (h : Held c H T) : Held c H' T := by
  obtain ⟨q, e, s, a, b, d⟩ := h.ex
  exact ⟨q, e, s, chg_ne ch hA a (fun _ z => by cases z), b.chg ch hA, chg_ne ch hA d (fun _ z => by cases z)⟩
theorem Held.same {c : Kd → Addr} {T : Addr} {H H' : Hp} (s' : Same H H') (h : Held c H T) : Held c H' T := by
  obtain ⟨q, e, s, a, b, d⟩ := h.ex
  exact ⟨q, e, s, s' _ _ a, b.same s', s' _ _ d⟩
theorem JobAt.chg {C A p : Addr} {H H' : Hp} {j : Jb} {xs : List V} {T : Addr} (ch : Chg [A] H H') (hA : H A = some (.lst (xs ++ [.ref T]))) (h : JobAt C H p j) : JobAt C H' p j := by
  obtain ⟨dx, l, a, b⟩ := h.ex
  refine ⟨dx, l, chg_ne ch hA a (fun _ z => by cases z), ch l _ (fun z => ?_) b⟩
  rw [List.mem_singleton.mp z, hA] at b
  have e : xs ++ [V.ref T] = j.needs.map V.str := by injection b with b; injection b
  have hm : V.ref T ∈ j.needs.map V.str := by rw [← e]; simp
  obtain ⟨y, _, hy⟩ := List.mem_map.mp hm
  cases hy
theorem first_good {j : Jb} (h : 1 ≤ j.tries) : (firstN j.needs.length).kd.over = false → (firstN j.needs.length).Good j := by
  intro _
  unfold firstN
  split
  · show ((0 : Nat) : Int) < j.tries
    omega
  · show 1 ≤ j.needs.length
    omega
section
variable {P : Program} {w : World} {K : PySem.W.Frag} {mg : Str → Option Value} {base : Heap} {c : Kd → Addr} {cS cO cV C : Addr}
def spLaw (K : PySem.W.Frag) : Sp := fun vs H Q _ => ∃ (a : Addr) (ns : List Int), vs = [.ref a] ∧ SqL K H a (ns.map V.int) ∧ ns.length ≤ 63 ∧ (∀ v ∈ ns, Sm v) ∧ ∀ H', Q (.bl true) H'
theorem ok_law {f : Addr} {fd : FuncData} (F : Fun K "law" "law" s_law f fd) (B : Bw mg) (hE : mg "enumerate" = none) (k_told : KnowsD CX0 P w K mg base 1 c "told" ["self"] (spTold c)) (k_cell : Knows P w K mg base 1 "_law_cell_at" ["_law_script", "_law_k"] (spCell K)) (k_mixed : Knows P w K mg base 1 "_law_mixed" ["_law_cell", "_law_k"] spMixed)
    (k_job : Knows P w K mg base 7 "_law_job" ["_law_cell", "_law_own"] (spLJob C)) (k_first : Knows P w K mg base 3 "first_state" ["job"] (spFirst c C)) (k_lfirst : Knows P w K mg base 1 "_law_first" ["_law_own"] spLFirst) (k_stands : Knows P w K mg base 3 "_law_stands" ["_law_state", "_law_due", "_law_cell"] (spStands c))
    (k_stepped : Knows P w K mg base 4 "_law_stepped" ["_law_state", "_law_job_here", "_law_due", "_law_own", "_law_number"] (spStepped c C)) (k_same : Knows P w K mg base 1 "_law_same" ["_law_found", "_law_due"] spSame) : FnOk P w K mg base CX0 8 f fd ["_law_script"] (spLaw K) := by
  refine F.ok sc_law (fun vs H Q E h => ?_) (fun cdv A outer s H vs Q E hr h => ?_)
  · obtain ⟨a, ns, rfl, _⟩ := h
    rfl
  · obtain ⟨a, ns, rfl, hS, hlen, hsm, q⟩ := h
    have hu := hu0 hr
    refine ⟨_, by exact (pss_cons (ps_set (i := 1) sc_law.nd rfl (Or.inl rfl) (pe_lst pa_nil))
      (pss_cons (ps_set (i := 2) sc_law.nd rfl (Or.inl rfl) (pe_callM k_job hr (pa_c (pe_callM k_cell hr (pa_c (pv 0) (pa_c pe_int pa_nil))) (pa_c (pv 1) pa_nil))))
      (pss_cons (ps_set (i := 3) sc_law.nd rfl (Or.inl rfl) (pe_callM k_first hr (pa_c (pv 2) pa_nil)))
      (pss_cons (ps_set (i := 4) sc_law.nd rfl (Or.inl rfl) (pe_callM k_lfirst hr (pa_c (pv 1) pa_nil)))
      (pss_cons (ps_if (pt_not (pt_val (pe_callM k_stands hr (pa_c (pv 3) (pa_c (pv 4) (pa_c (pe_callM k_cell hr (pa_c (pv 0) (pa_c pe_int pa_nil))) pa_nil)))))) (pss_one (ps_ret pe_bl)) pss_nil)
      (pss_cons (ps_set (i := 5) sc_law.nd rfl (Or.inl rfl) (pe_lst (pa_c (pe_tup (pa_c (pv 3) (pa_c (pv 4) pa_nil))) pa_nil)))
      (pss_cons (ps_for PassesOwn.never rfl (pi_enum hE (pe_slice sl_list (pv 0) (po_some pe_int) (po_some pe_int))) (pg_tup rfl (pgs_cons (pg_name (i := 6) sc_law.nd rfl (Or.inl rfl)) (pgs_cons (pg_name (i := 7) sc_law.nd rfl (Or.inl rfl)) pgs_nil))) (pss_cons (ps_set (i := 8) sc_law.nd rfl (Or.inl rfl) (pe_callM k_mixed hr (pa_c (pv 7) (pa_c (pv 6) pa_nil))))
      (pss_cons (ps_if (pt_cmpR op_in_seq (pe_ix ix_tup (pv 4) pe_int (fun _ _ => rfl)) (pe_tup (pa_c pe_str (pa_c pe_str (pa_c pe_str pa_nil)))) (by with_unfolding_all rfl)) (pss_cons (ps_set (i := 2) sc_law.nd rfl (Or.inl rfl) (pe_callM k_job hr (pa_c (pv 7) (pa_c (pv 1) pa_nil))))
      (pss_cons (ps_set (i := 3) sc_law.nd rfl (Or.inl rfl) (pe_callM k_first hr (pa_c (pv 2) pa_nil)))
      (pss_one (ps_set (i := 4) sc_law.nd rfl (Or.inl rfl) (pe_callM k_lfirst hr (pa_c (pv 1) pa_nil)))))) (pss_one (ps_asg (pe_callM k_stepped hr (pa_c (pv 3) (pa_c (pv 2) (pa_c (pv 4) (pa_c (pv 1) (pa_c (pv 8) pa_nil)))))) (pg_tup rfl (pgs_cons (pg_name (i := 3) sc_law.nd rfl (Or.inl rfl)) (pgs_cons (pg_name (i := 4) sc_law.nd rfl (Or.inl rfl)) pgs_nil))))))
      (pss_cons (ps_if (PW.pt (pw_or (pt_not (pt_val (pe_callM k_stands hr (pa_c (pv 3) (pa_c (pv 4) (pa_c (pe_op op_fdiv (pv 8) pe_int) pa_nil)))))) (pw_or1 (pt_not (pt_val (pe_callM k_same hr (pa_c (pe_methD0 k_told hr pass0 (pe_ix ix_tup (pe_ix ix_list (pv 5) (pe_un un_neg pe_int) (fun _ _ => rfl)) pe_int (fun _ _ => rfl))) (pa_c (pe_ix ix_tup (pe_ix ix_list (pv 5) (pe_un un_neg pe_int) (fun _ _ => rfl)) pe_int (fun _ _ => rfl)) pa_nil)))))))) (pss_one (ps_ret pe_bl)) pss_nil)
      (pss_one (ps_expr (pe_mcall PySem.F.plainAttrs_list PySem.F.slot_list_append PySem.F.type_list_append mt_append (pv 5) (pa_c (pe_tup (pa_c (pv 3) (pa_c (pv 4) pa_nil))) pa_nil))))))))
      (pss_one (ps_ret (pe_cmpR (op_eqL hu) (pe_comp2F [] ["_law_one", "_law_kept"] rfl (pi_list (pv 5)) (fun _ _ _ _ => pts_one (pt_not (pt_val (pe_callM k_same hr (pa_c (pe_methD0 k_told hr pass0 (pv 0)) (pa_c (pv 1) pa_nil)))))) (fun _ _ _ _ => (pv 0))) (pe_lst pa_nil) (nomark _))))))))))), ?_⟩
    refine ⟨by decide, fun o ho => ?_⟩
    have s0 : Same H (upd H o (.lst [])) := same_of ho
    have o0 : (upd H o (.lst [])) o = some (.lst []) := upd_same
    generalize upd H o (.lst []) = H0 at s0 o0
    refine ⟨_, rfl, a, ns, 0, rfl, s0.seq hS, hsm, fun c0 hc0 => ⟨_, rfl, c0, o, _, rfl, hc0, o0, fun j jp H1 ja1 jo1 ow1 ch1 => ?_⟩⟩
    have s1 : Same H H1 := fun b u e => ch1 b u (fun z => by rw [List.mem_singleton.mp z, ho] at e; cases e) (s0 _ _ e)
    refine ⟨_, rfl, jp, j, rfl, ja1, fun p H2 s2 sp2 => ?_⟩
    refine ⟨_, rfl, o, j, rfl, ⟨s2 _ _ ow1.at_⟩, fun d H3 s3 hd3 => ?_⟩
    dsimp only [gName]
    have s03 := (s1.trans s2).trans s3
    refine if_use (fun b H' => b = false ∧ Same H3 H') (fun Q' kk => ⟨_, rfl, _, rfl, _, rfl, a, ns, 1, rfl, s03.seq hS, hsm, fun c1 hc1 => ⟨p, d, _, c1, rfl, sp2.same s3, hd3, fun H4 s4 => ⟨_, rfl, kk _ _ ⟨rfl, s4⟩⟩⟩⟩) (fun H' h => by cases h.1) (fun H4 ⟨_, s4⟩ => next_to ?_)
    dsimp only
    refine ⟨_, rfl, _, rfl, by show 2 ≤ sizeLine; decide, fun T hT => ?_⟩
    have s5 : Same H4 (upd H4 T (.tup [.ref p, .ref d])) := same_of hT
    have t5 : (upd H4 T (.tup [.ref p, .ref d])) T = some (.tup [.ref p, .ref d]) := upd_same
    generalize upd H4 T (.tup [.ref p, .ref d]) = H5 at s5 t5
    refine ⟨by show 1 ≤ sizeLine; decide, fun hl hh => ?_⟩
    have s6 : Same H5 (upd H5 hl (.lst [.ref T])) := same_of hh
    have l6 : (upd H5 hl (.lst [.ref T])) hl = some (.lst (([] : List Addr).map V.ref ++ [.ref T])) := upd_same
    have s16 := ((((s2.trans s3).trans s4).trans s5)).trans s6
    have s36 := (s4.trans s5).trans s6
    have ohl : o ≠ hl := ne_of_none (((((s2.trans s3).trans s4).trans s5)) _ _ ow1.at_) hh
    have t6 := s6 _ _ t5
    generalize upd H5 hl (.lst [.ref T]) = H6 at s6 l6 s16 s36 t6
    have sA := s1.trans s16
    refine ⟨_, rfl, _, rfl, _, rfl, a, _, rfl, sA.seq hS, fun sl hsl => ⟨sl, rfl, ⟨_, SqL.of upd_same⟩, ?_⟩⟩
    have s7 : Same H6 (upd H6 sl (.lst (cutV (ns.map V.int) (some 1) (some 41)))) := same_of hsl
    have l7 : (upd H6 sl (.lst (cutV (ns.map V.int) (some 1) (some 41)))) sl = some (.lst (cutV (ns.map V.int) (some 1) (some 41))) := upd_same
    have osl : o ≠ sl := ne_of_none (s16 _ _ ow1.at_) hsl
    have hlsl : hl ≠ sl := ne_of_none l6 hsl
    generalize upd H6 sl (.lst (cutV (ns.map V.int) (some 1) (some 41))) = H7 at s7 l7
    have hms : ∀ v ∈ cutV (ns.map V.int) (some 1) (some 41), ∃ n : Int, v = .int n ∧ Sm n := fun v hv => by
      obtain ⟨n, hn, rfl⟩ := List.mem_map.mp (cutV_mem hv)
      exact ⟨n, rfl, hsm n hn⟩
    have hml := cutV_40 (ns.map V.int)
    generalize cutV (ns.map V.int) (some 1) (some 41) = ms at l7 hms hml
    have s17 := s16.trans s7
    have s37 := s36.trans s7
    refine for_enum (xs := ms) (fun i σ H' => ∃ (st : Sta) (j : Jb) (p jp d T : Addr) (Ts : List Addr) (v6 v7 v8 : Option V), OwnAt H' o j ∧ JobAt C H' jp j ∧ j.Ok ∧ StAt c H' p st ∧ H' d = some (.tup st.told) ∧ (st.kd.over = false → st.Good j) ∧ H' hl = some (.lst (Ts.map V.ref ++ [.ref T])) ∧ Ts.length = i ∧ Held c H' T ∧ (∀ U ∈ Ts, Held c H' U) ∧
      H' sl = some (.lst ms) ∧ σ = [some (.ref a), some (.ref o), some (.ref jp), some (.ref p), some (.ref d), some (.ref hl), v6, v7, v8])
      ⟨firstN j.needs.length, j, p, jp, d, T, [], _, _, _, ⟨s17 _ _ ow1.at_⟩, ja1.same s17, jo1, (sp2.same s3).same s37, s37 _ _ hd3, first_good jo1.tries.1, s7 _ _ l6, rfl, ⟨p, d, _, s7 _ _ t6, (sp2.same s3).same s37, s37 _ _ hd3⟩, (fun U hU => by cases hU), l7, rfl⟩ (fun i σ H' _ h => ?_) ?_ ?_
    · obtain ⟨st, j, p, jp, d, T, Ts, v6, v7, v8, _, _, _, _, _, _, _, _, _, _, h, _⟩ := h
      exact SqL.of h
    · rintro i x σ H8 t0 hx ⟨st, j, p, jp, d, T, Ts, v6, v7, v8, ow, ja, jo, hp, hd, gd, hh8, hTl, hT8, hTs, hsl8, rfl⟩ ht0
      obtain ⟨n, rfl, hn⟩ := hms x (List.mem_of_getElem? hx)
      have hi : i < 40 := Nat.lt_of_lt_of_le (List.getElem?_eq_some_iff.mp hx).1 hml
      refine ⟨t0, _, rfl, SqT.of upd_same, rfl, _, _, rfl, _, _, rfl, rfl, ?_⟩
      have sx : Same H8 (upd H8 t0 (.tup [.int (i : Int), .int n])) := same_of ht0
      generalize upd H8 t0 (.tup [.int (i : Int), .int n]) = H9 at sx
      replace ow : OwnAt H9 o j := ⟨sx _ _ ow.at_⟩
      replace ja := ja.same sx
      replace hp := hp.same sx
      replace hd := sx _ _ hd
      replace hh8 := sx _ _ hh8
      replace hsl8 := sx _ _ hsl8
      replace hT8 := hT8.same sx
      have hTs9 : ∀ U ∈ Ts, Held c H9 U := fun U hU => (hTs U hU).same sx
      clear hTs sx
      refine ⟨_, rfl, _, rfl, n, i, rfl, hn, by omega, fun m m0 m1 => ?_⟩
      dsimp only [gName]
      refine stm_use (t := tIfS _ _ _) (fun σ' H' => ∃ (st : Sta) (j : Jb) (p jp d : Addr) (v6 v7 : Option V), OwnAt H' o j ∧ JobAt C H' jp j ∧ j.Ok ∧ StAt c H' p st ∧ H' d = some (.tup st.told) ∧ (st.kd.over = false → st.Good j) ∧ Chg [o] H9 H' ∧
        σ' = [some (.ref a), some (.ref o), some (.ref jp), some (.ref p), some (.ref d), some (.ref hl), v6, v7, some (.int m)]) (fun Q' kk => ?_) ?_
      · refine ⟨_, rfl, d, _, _, _, rfl, rfl, SqT.of hd, atI_nat (j := 0) (told_word st), by show 3 ≤ sizeLine; decide, fun u hu' => ?_⟩
        have su : Same H9 (upd H9 u (.tup [.str "done", .str "broken", .str "cut"])) := same_of hu'
        refine ⟨u, _, rfl, .inr (SqT.of upd_same), rfl, rfl, _, rfl, ite_of (in_over st.kd) (fun ho' => ?_) (fun ho' => ?_)⟩
        · generalize upd H9 u (.tup [.str "done", .str "broken", .str "cut"]) = H10 at su
          refine ⟨_, rfl, _, rfl, n, o, _, rfl, hn, su _ _ ow.at_, fun j' jp' H11 ja' jo' ow' ch' => ?_⟩
          refine ⟨_, rfl, jp', j', rfl, ja', fun p' H12 s12 sp' => ?_⟩
          refine ⟨_, rfl, o, j', rfl, ⟨s12 _ _ ow'.at_⟩, fun d' H13 s13 hd' => ?_⟩
          exact kk _ _ ⟨firstN j'.needs.length, j', p', jp', d', _, _, ⟨s13 _ _ (s12 _ _ ow'.at_)⟩, (ja'.same s12).same s13, jo', sp'.same s13, hd', first_good jo'.tries.1, fun b u hb e => s13 _ _ (s12 _ _ (ch' b u hb (su _ _ e))), rfl⟩
        · generalize upd H9 u (.tup [.str "done", .str "broken", .str "cut"]) = H10 at su
          refine ⟨_, rfl, _, rfl, _, rfl, _, rfl, _, rfl, p, jp, d, o, st, j, m, rfl, hp.same su, su _ _ hd, gd ho', ja.same su, jo, ⟨su _ _ ow.at_⟩, fun s' t q' e H11 s11 ht sq he g' => ?_⟩
          refine ⟨t, _, rfl, SqT.of ht, rfl, _, _, rfl, _, _, rfl, rfl, ?_⟩
          exact kk _ _ ⟨s', j, q', jp, e, _, _, ⟨s11 _ _ (su _ _ ow.at_)⟩, (ja.same su).same s11, jo, sq, he, g', fun b u hb e => s11 _ _ (su _ _ e), rfl⟩
      rintro σ' H14 ⟨st', j', p', jp', d', v6', v7', ow', ja', jo', hp', hd', gd', ch', rfl⟩
      have hh14 : H14 hl = some (.lst (Ts.map V.ref ++ [.ref T])) := ch' _ _ (fun z => ohl (List.mem_singleton.mp z).symm) hh8
      have hsl14 : H14 sl = some (.lst ms) := ch' _ _ (fun z => osl (List.mem_singleton.mp z).symm) hsl8
      have hT14 := hT8.chg ch' ow.at_
      have hTs14 : ∀ U ∈ Ts, Held c H14 U := fun U hU => (hTs9 U hU).chg ch' ow.at_
      clear hTs9 hh8 hsl8 hT8 ch' ow ja hp hd gd
      obtain ⟨q1, e1, s1', a1, b1, f1⟩ := hT14.ex
      refine if_use (fun b H' => b = false ∧ Same H14 H') (fun Q' kk => ?_) (fun H' h => by cases h.1) (fun H15 ⟨_, s15⟩ => next_to ?_)
      · refine ⟨_, rfl, _, rfl, _, rfl, _, _, rfl, rfl, by walk_at "m", p', d', st', _, rfl, hp', hd', fun H15 s15 => ⟨_, rfl, iteF ?_⟩⟩
        obtain ⟨dx, b1'⟩ := (b1.same s15).ex
        refine ⟨_, rfl, 1, rfl, hl, _, _, _, rfl, rfl, SqL.of (s15 _ _ hh14), atI_last _ _, T, _, _, _, rfl, rfl, SqT.of (s15 _ _ a1), atI_nat (j := 0) rfl, q1, s1'.kd, dx, _, rfl, b1', no_told s1', q1, s1', rfl, rfl, b1.same s15, fun t H16 s16' ht => ?_⟩
        have s1516 := s15.trans s16'
        exact ⟨_, rfl, 1, rfl, hl, _, _, _, rfl, rfl, SqL.of (s1516 _ _ hh14), atI_last _ _, T, _, _, _, rfl, rfl, SqT.of (s1516 _ _ a1), atI_nat (j := 1) rfl, t, e1, s1'.told, rfl, ht, s1516 _ _ f1, told_is s1', told_len s1', fun H17 s17' => ⟨_, rfl, kk _ _ ⟨rfl, s1516.trans s17'⟩⟩⟩
      dsimp only
      have hh15 := s15 _ _ hh14
      refine ⟨_, rfl, .inl ⟨rfl, _, SqL.of hh15⟩, _, rfl, _, rfl, by show 2 ≤ sizeLine; decide, fun U hU => ?_⟩
      have s18 : Same H15 (upd H15 U (.tup [.ref p', .ref d'])) := same_of hU
      have u18 : (upd H15 U (.tup [.ref p', .ref d'])) U = some (.tup [.ref p', .ref d']) := upd_same
      generalize upd H15 U (.tup [.ref p', .ref d']) = H18 at s18 u18
      have hh18 := s18 _ _ hh15
      refine ⟨hl, _, _, rfl, rfl, hh18, ?_, ?_⟩
      · rw [List.length_append, List.length_map, hTl]
        exact Nat.lt_of_lt_of_le (show i + 1 < 1000 by omega) (by decide)
      have s1418 := s15.trans s18
      have chL : Chg [hl] H18 (upd H18 hl (.lst (Ts.map V.ref ++ [.ref T] ++ [.ref U]))) := fun b u hb e => by rw [upd_ne (fun z => hb (by simp [z]))]; exact e
      have hU18 : Held c H18 U := ⟨p', d', st', u18, hp'.same s1418, s1418 _ _ hd'⟩
      refine ⟨st', j', p', jp', d', U, Ts ++ [T], _, _, _, ⟨?_⟩, JobAt.chg chL hh18 (ja'.same s1418), jo', (hp'.same s1418).chg chL hh18, chg_ne chL hh18 (s1418 _ _ hd') (fun _ z => by cases z), gd', ?_, ?_, hU18.chg chL hh18, fun V' hV => ?_, ?_, rfl⟩
      · rw [upd_ne ohl]
        exact s1418 _ _ ow'.at_
      · rw [upd_same, List.map_append]
        rfl
      · rw [List.length_append, hTl]
        rfl
      · rcases List.mem_append.mp hV with h | h
        · exact ((hTs14 V' h).same s1418).chg chL hh18
        · rw [List.mem_singleton.mp h]
          exact (hT14.same s1418).chg chL hh18
      · rw [upd_ne (Ne.symm hlsl)]
        exact s1418 _ _ hsl14
    · rintro σ H8 ⟨st, j, p, jp, d, T, Ts, v6, v7, v8, ow, ja, jo, hp, hd, gd, hh8, hTl, hT8, hTs, hsl8, rfl⟩
      have hall : ∀ U ∈ Ts ++ [T], Held c H8 U := fun U hU => by
        rcases List.mem_append.mp hU with h | h
        · exact hTs U h
        · rw [List.mem_singleton.mp h]
          exact hT8
      have hh9 : H8 hl = some (.lst ((Ts ++ [T]).map V.ref)) := by rw [hh8, List.map_append]; rfl
      refine ⟨_, rfl, hl, rfl, ⟨_, SqL.of hh9⟩, ?_⟩
      refine comp2_list (fun i ys H' => Same H8 H' ∧ ys = []) ⟨Same.refl _, rfl⟩ (fun i ys H' _ h => ⟨SqL.of (h.1 _ _ hh9), by rw [h.2]; exact Nat.zero_le _⟩) ?_ (fun i x ys H' Nx hx hv kn => ?_) ?_
      · rw [List.length_map, List.length_append, hTl]
        exact Nat.le_trans (show ms.length + 1 ≤ 1000 by omega) (by decide)
      · obtain ⟨s9, rfl⟩ := hv
        rw [List.getElem?_map] at hx
        obtain ⟨U, hU, rfl⟩ := Option.map_eq_some_iff.mp hx
        obtain ⟨q1, e1, s1', a1, b1, f1⟩ := ((hall U (List.mem_of_getElem? hU)).same s9).ex
        obtain ⟨dx, b1'⟩ := b1.ex
        refine ⟨U, _, _, rfl, SqT.of a1, ?_⟩
        refine ⟨_, rfl, q1, s1'.kd, dx, _, rfl, b1', no_told s1', q1, s1', rfl, rfl, b1, fun t H10 s10 ht => ?_⟩
        exact ⟨_, rfl, t, e1, s1'.told, rfl, ht, s10 _ _ f1, told_is s1', told_len s1', fun H11 s11 => ⟨_, rfl, iteF (kn _ _ ⟨(s9.trans s10).trans s11, rfl⟩)⟩⟩
      · rintro ys H10 ⟨s10, rfl⟩ D hD
        have hD2 : (upd H10 D (.lst [])) D = some (.lst []) := upd_same
        generalize upd H10 D (.lst []) = H11 at hD2
        exact ⟨by decide, fun D2 hD3 => ⟨D, D2, [], [], rfl, rfl, SqL.of ((same_of hD3) _ _ hD2), SqL.of upd_same, rfl, rfl, q _⟩⟩
end
end K12

set_option Elab.async false
set_option linter.all false
set_option maxRecDepth 100000
set_option maxHeartbeats 8000000
namespace K12
open PySem L2
theorem sqT_of {K : PySem.W.Frag} {T : Addr} {its : List Value} {n : Nat} {dd : Option Addr} {sl : Array (Option Value)} {xs : List V} (h : K.lookup T = some ⟨.type "tuple", dd, .seq its.toArray n, sl⟩) (hz : its.length ≤ 100) (r : Vals xs its) (H : Hp) : SqT K H T xs :=
  .inr ⟨_, its.toArray, n, h, rfl, rfl, by rw [List.size_toArray]; exact Nat.le_trans hz (by decide), r⟩
theorem parts_mk {K : PySem.W.Frag} {h : Heap} {mg : Str → Option Value} (X : K.In h) (G : h.Ns mainGlobals mg) {T p0 p1 p2 p3 p4 : Addr} {n n0 n1 n2 n3 n4 : Nat} {d d0 d1 d2 d3 d4 : Option Addr} {sl sl0 sl1 sl2 sl3 sl4 : Array (Option Value)} {a0 b0 c0 a1 b1 c1 a2 b2 c2 a3 b3 c3 a4 b4 c4 : Tok}
    (g : PySem.W.nsIn K mainGlobals "PARTS" = some (some (.ref T))) (l : K.lookup T = some ⟨.type "tuple", d, .seq #[.ref p0, .ref p1, .ref p2, .ref p3, .ref p4] n, sl⟩)
    (l0 : K.lookup p0 = some ⟨.type "tuple", d0, .seq #[.str "rank" a0, .int 0 b0, .int 99 c0] n0, sl0⟩) (l1 : K.lookup p1 = some ⟨.type "tuple", d1, .seq #[.str "span" a1, .int 1 b1, .int 1000 c1] n1, sl1⟩)
    (l2 : K.lookup p2 = some ⟨.type "tuple", d2, .seq #[.str "tries" a2, .int 1 b2, .int 20 c2] n2, sl2⟩) (l3 : K.lookup p3 = some ⟨.type "tuple", d3, .seq #[.str "wait" a3, .int 0 b3, .int 1000 c3] n3, sl3⟩)
    (l4 : K.lookup p4 = some ⟨.type "tuple", d4, .seq #[.str "grow" a4, .int 1 b4, .int 4 c4] n4, sl4⟩) : PartsK K mg := by
  refine ⟨T, [p0, p1, p2, p3, p4], PySem.W.mg_of X G g, rfl, fun H => sqT_of (its := [.ref p0, .ref p1, .ref p2, .ref p3, .ref p4]) (xs := [p0, p1, p2, p3, p4].map V.ref) l (by show 5 ≤ 100; decide) (.cons rfl (.cons rfl (.cons rfl (.cons rfl (.cons rfl .nil))))) H, fun i p hp => ?_⟩
  match i, hp with
  | 0, hp => cases hp; exact ⟨"rank", 0, 99, rfl, fun H => sqT_of (its := [.str "rank" a0, .int 0 b0, .int 99 c0]) (xs := [.str "rank", .int 0, .int 99]) l0 (by show 3 ≤ 100; decide) (.cons ⟨_, rfl⟩ (.cons ⟨_, rfl⟩ (.cons ⟨_, rfl⟩ .nil))) H⟩
  | 1, hp => cases hp; exact ⟨"span", 1, 1000, rfl, fun H => sqT_of (its := [.str "span" a1, .int 1 b1, .int 1000 c1]) (xs := [.str "span", .int 1, .int 1000]) l1 (by show 3 ≤ 100; decide) (.cons ⟨_, rfl⟩ (.cons ⟨_, rfl⟩ (.cons ⟨_, rfl⟩ .nil))) H⟩
  | 2, hp => cases hp; exact ⟨"tries", 1, 20, rfl, fun H => sqT_of (its := [.str "tries" a2, .int 1 b2, .int 20 c2]) (xs := [.str "tries", .int 1, .int 20]) l2 (by show 3 ≤ 100; decide) (.cons ⟨_, rfl⟩ (.cons ⟨_, rfl⟩ (.cons ⟨_, rfl⟩ .nil))) H⟩
  | 3, hp => cases hp; exact ⟨"wait", 0, 1000, rfl, fun H => sqT_of (its := [.str "wait" a3, .int 0 b3, .int 1000 c3]) (xs := [.str "wait", .int 0, .int 1000]) l3 (by show 3 ≤ 100; decide) (.cons ⟨_, rfl⟩ (.cons ⟨_, rfl⟩ (.cons ⟨_, rfl⟩ .nil))) H⟩
  | 4, hp => cases hp; exact ⟨"grow", 1, 4, rfl, fun H => sqT_of (its := [.str "grow" a4, .int 1 b4, .int 4 c4]) (xs := [.str "grow", .int 1, .int 4]) l4 (by show 3 ≤ 100; decide) (.cons ⟨_, rfl⟩ (.cons ⟨_, rfl⟩ (.cons ⟨_, rfl⟩ .nil))) H⟩
  | i + 5, hp => simp at hp
def mkc (b r l t d k c : Addr) : Kd → Addr
  | .blocked => b
  | .ready => r
  | .leased => l
  | .resting => t
  | .done => d
  | .broken => k
  | .cut => c
theorem all_mk {l : PySem.W.OpenLaw} {w : World} {K : PySem.W.Frag} {h : Heap} {mg : Str → Option Value} {fa : Addr} (X : K.In h) (G : h.Ns mainGlobals mg) (hfa : mg "law" = some (.ref fa)) {C Cb Cr Cl Ct Cd Ck Cc cS cO cV f : Addr}
    {od an : Option Addr} {sl : Array (Option Value)} {oc kV dc pm cd ct : Value} {t1 t2 t3 t4 : Tok}
    (is_Job : PySem.W.nsIn K mainGlobals "Job" = some (some (.ref C)))
    (is_Blocked : PySem.W.nsIn K mainGlobals "Blocked" = some (some (.ref Cb)))
    (is_Ready : PySem.W.nsIn K mainGlobals "Ready" = some (some (.ref Cr)))
    (is_Leased : PySem.W.nsIn K mainGlobals "Leased" = some (some (.ref Cl)))
    (is_Resting : PySem.W.nsIn K mainGlobals "Resting" = some (some (.ref Ct)))
    (is_Done : PySem.W.nsIn K mainGlobals "Done" = some (some (.ref Cd)))
    (is_Broken : PySem.W.nsIn K mainGlobals "Broken" = some (some (.ref Ck)))
    (is_Cut : PySem.W.nsIn K mainGlobals "Cut" = some (some (.ref Cc)))
    (is_State : PySem.W.nsIn K mainGlobals "State" = some (some (.ref cS)))
    (is_Open : PySem.W.nsIn K mainGlobals "Open" = some (some (.ref cO)))
    (is_Over : PySem.W.nsIn K mainGlobals "Over" = some (some (.ref cV)))
    (cls_Job : Cls K C)
    (cls_Blocked : Cls K Cb)
    (cls_Ready : Cls K Cr)
    (cls_Leased : Cls K Cl)
    (cls_Resting : Cls K Ct)
    (cls_Done : Cls K Cd)
    (cls_Broken : Cls K Ck)
    (cls_Cut : Cls K Cc)
    (n1 : PySem.W.findIn K (.ref C) "name" = some none)
    (n2 : PySem.W.findIn K (.ref C) "needs" = some none)
    (n3 : PySem.W.findIn K (.ref C) "rank" = some none)
    (n4 : PySem.W.findIn K (.ref C) "span" = some none)
    (n5 : PySem.W.findIn K (.ref C) "tries" = some none)
    (n6 : PySem.W.findIn K (.ref C) "wait" = some none)
    (n7 : PySem.W.findIn K (.ref C) "grow" = some none)
    (na_Blocked_left : PySem.W.findIn K (.ref Cb) "left" = some none)
    (na_Ready_fails : PySem.W.findIn K (.ref Cr) "fails" = some none)
    (na_Leased_fails : PySem.W.findIn K (.ref Cl) "fails" = some none)
    (na_Leased_number : PySem.W.findIn K (.ref Cl) "number" = some none)
    (na_Resting_fails : PySem.W.findIn K (.ref Ct) "fails" = some none)
    (na_Resting_until : PySem.W.findIn K (.ref Ct) "until" = some none)
    (na_Done_fails : PySem.W.findIn K (.ref Cd) "fails" = some none)
    (na_Done_number : PySem.W.findIn K (.ref Cd) "number" = some none)
    (na_Done_turn : PySem.W.findIn K (.ref Cd) "turn" = some none)
    (na_Broken_fails : PySem.W.findIn K (.ref Ck) "fails" = some none)
    (na_Broken_why : PySem.W.findIn K (.ref Ck) "why" = some none)
    (na_Cut_need : PySem.W.findIn K (.ref Cc) "need" = some none)
    (hc_Blocked : PySem.W.findIn K (.ref Cb) "__class__" = some (some (.builtin "object.__class__")))
    (hc_Ready : PySem.W.findIn K (.ref Cr) "__class__" = some (some (.builtin "object.__class__")))
    (hc_Leased : PySem.W.findIn K (.ref Cl) "__class__" = some (some (.builtin "object.__class__")))
    (hc_Resting : PySem.W.findIn K (.ref Ct) "__class__" = some (some (.builtin "object.__class__")))
    (hc_Done : PySem.W.findIn K (.ref Cd) "__class__" = some (some (.builtin "object.__class__")))
    (hc_Broken : PySem.W.findIn K (.ref Ck) "__class__" = some (some (.builtin "object.__class__")))
    (hc_Cut : PySem.W.findIn K (.ref Cc) "__class__" = some (some (.builtin "object.__class__")))
    (hn : PySem.W.specialIn K (.builtin "object.__class__") "__get__" = some (some (.builtin "getset_descriptor.__get__")))
    (htk : PySem.W.takesIn K (.builtin "object.__class__") = some true)
    (hm_Blocked : PySem.W.mroIn K Cb (.type "object") = some true)
    (hm_Ready : PySem.W.mroIn K Cr (.type "object") = some true)
    (hm_Leased : PySem.W.mroIn K Cl (.type "object") = some true)
    (hm_Resting : PySem.W.mroIn K Ct (.type "object") = some true)
    (hm_Done : PySem.W.mroIn K Cd (.type "object") = some true)
    (hm_Broken : PySem.W.mroIn K Ck (.type "object") = some true)
    (hm_Cut : PySem.W.mroIn K Cc (.type "object") = some true)
    (hIs : ∀ k k', PySem.W.kitOne K (.ref ((mkc Cb Cr Cl Ct Cd Ck Cc) k)) (.ref ((mkc Cb Cr Cl Ct Cd Ck Cc) k')) = some (decide (k = k')))
    (hIsS : ∀ k, PySem.W.kitOne K (.ref ((mkc Cb Cr Cl Ct Cd Ck Cc) k)) (.ref cS) = some true)
    (hIsO : ∀ k, PySem.W.kitOne K (.ref ((mkc Cb Cr Cl Ct Cd Ck Cc) k)) (.ref cO) = some (!k.over))
    (hIsV : ∀ k, PySem.W.kitOne K (.ref ((mkc Cb Cr Cl Ct Cd Ck Cc) k)) (.ref cV) = some k.over)
    (i_job : IDefB K C "Job.__init__" s_Job___init__ JForms)
    (pk : PartsK K mg)
    (i_Blocked : IDef K Cb "Blocked.__init__" s_Blocked___init__ ["self", "left"])
    (i_Ready : IDef K Cr "Ready.__init__" s_Ready___init__ ["self", "fails"])
    (i_Leased : IDef K Cl "Leased.__init__" s_Leased___init__ ["self", "fails", "number"])
    (i_Resting : IDef K Ct "Resting.__init__" s_Resting___init__ ["self", "fails", "until"])
    (i_Done : IDef K Cd "Done.__init__" s_Done___init__ ["self", "fails", "number", "turn"])
    (i_Broken : IDef K Ck "Broken.__init__" s_Broken___init__ ["self", "fails", "why"])
    (i_Cut : IDef K Cc "Cut.__init__" s_Cut___init__ ["self", "need"])
    (t_Blocked : MDef K Cb "told" "Blocked.told" s_Blocked_told ["self"])
    (t_Ready : MDef K Cr "told" "Ready.told" s_Ready_told ["self"])
    (t_Leased : MDef K Cl "told" "Leased.told" s_Leased_told ["self"])
    (t_Resting : MDef K Ct "told" "Resting.told" s_Resting_told ["self"])
    (t_Done : MDef K Cd "told" "Done.told" s_Done_told ["self"])
    (t_Broken : MDef K Ck "told" "Broken.told" s_Broken_told ["self"])
    (t_Cut : MDef K Cc "told" "Cut.told" s_Cut_told ["self"])
    (f_Blocked : MDef K Cb "count_fails" "State.count_fails" s_State_count_fails ["self"])
    (f_Ready : MDef K Cr "count_fails" "Ready.count_fails" s_Ready_count_fails ["self"])
    (f_Leased : MDef K Cl "count_fails" "Leased.count_fails" s_Leased_count_fails ["self"])
    (f_Resting : MDef K Ct "count_fails" "Resting.count_fails" s_Resting_count_fails ["self"])
    (f_Done : MDef K Cd "count_fails" "Done.count_fails" s_Done_count_fails ["self"])
    (f_Broken : MDef K Ck "count_fails" "Broken.count_fails" s_Broken_count_fails ["self"])
    (f_Cut : MDef K Cc "count_fails" "State.count_fails" s_State_count_fails ["self"])
    (o_Blocked : MDef K Cb "is_over" "State.is_over" s_State_is_over ["self"])
    (o_Ready : MDef K Cr "is_over" "State.is_over" s_State_is_over ["self"])
    (o_Leased : MDef K Cl "is_over" "State.is_over" s_State_is_over ["self"])
    (o_Resting : MDef K Ct "is_over" "State.is_over" s_State_is_over ["self"])
    (o_Done : MDef K Cd "is_over" "Over.is_over" s_Over_is_over ["self"])
    (o_Broken : MDef K Ck "is_over" "Over.is_over" s_Over_is_over ["self"])
    (o_Cut : MDef K Cc "is_over" "Over.is_over" s_Over_is_over ["self"])
    (w_Blocked : MDef K Cb "word" "State.word" s_State_word ["self"])
    (w_Ready : MDef K Cr "word" "State.word" s_State_word ["self"])
    (w_Leased : MDef K Cl "word" "State.word" s_State_word ["self"])
    (w_Resting : MDef K Ct "word" "State.word" s_State_word ["self"])
    (w_Done : MDef K Cd "word" "State.word" s_State_word ["self"])
    (w_Broken : MDef K Ck "word" "State.word" s_State_word ["self"])
    (w_Cut : MDef K Cc "word" "State.word" s_State_word ["self"])
    (m_freed : MDef K Cb "freed" "Blocked.freed" s_Blocked_freed ["self"])
    (m_cut : MDef K Cb "cut_off" "Blocked.cut_off" s_Blocked_cut_off ["self", "need"])
    (m_leased : MDef K Cr "leased" "Ready.leased" s_Ready_leased ["self", "number"])
    (m_ended : MDef K Cl "ended" "Leased.ended" s_Leased_ended ["self", "turn"])
    (m_failed : MDef K Cl "failed" "Leased.failed" s_Leased_failed ["self", "job", "turn", "why"])
    (m_rested : MDef K Ct "rested" "Resting.rested" s_Resting_rested ["self"])
    (d_first_state : Def K mg "first_state" s_first_state ["job"])
    (d_wait_after : Def K mg "wait_after" s_wait_after ["job", "fails"])
    (d_grown : Def K mg "grown" s_grown ["job", "wait"])
    (d_is_whole : Def K mg "is_whole" s_is_whole ["thing"])
    (d_is_among : Def K mg "is_among" s_is_among ["thing", "least", "most"])
    (d_is_made_of : Def K mg "is_made_of" s_is_made_of ["thing", "signs", "most"])
    (d_is_name : Def K mg "is_name" s_is_name ["thing"])
    (d_check_name : Def K mg "check_name" s_check_name ["name"])
    (d_check_needs : Def K mg "check_needs" s_check_needs ["needs", "name"])
    (d_are_needs : Def K mg "are_needs" s_are_needs ["needs", "name"])
    (d_check_numbers : Def K mg "check_numbers" s_check_numbers ["numbers"])
    (d__law_cell_at : Def K mg "_law_cell_at" s__law_cell_at ["_law_script", "_law_k"])
    (d__law_mixed : Def K mg "_law_mixed" s__law_mixed ["_law_cell", "_law_k"])
    (d__law_whole : Def K mg "_law_whole" s__law_whole ["_law_thing"])
    (d__law_same : Def K mg "_law_same" s__law_same ["_law_found", "_law_due"])
    (d__law_is : Def K mg "_law_is" s__law_is ["_law_word", "_law_state"])
    (d__law_over : Def K mg "_law_over" s__law_over ["_law_state"])
    (d__law_stands : Def K mg "_law_stands" s__law_stands ["_law_state", "_law_due", "_law_cell"])
    (d__law_job : Def K mg "_law_job" s__law_job ["_law_cell", "_law_own"])
    (d__law_rest : Def K mg "_law_rest" s__law_rest ["_law_own", "_law_fails"])
    (d__law_first : Def K mg "_law_first" s__law_first ["_law_own"])
    (d__law_turn : Def K mg "_law_turn" s__law_turn ["_law_number"])
    (d__law_stepped : Def K mg "_law_stepped" s__law_stepped ["_law_state", "_law_job_here", "_law_due", "_law_own", "_law_number"])
    (lk : PySem.W.nsIn K mainGlobals "law" = some (some (.ref f)))
    (ll : K.lookup f = some ⟨oc, od, .func (PySem.W.fnOf "law" "law" (defArgs s_law) (defBody s_law) (defScope s_law) .none kV dc pm an cd ct), sl⟩)
    (lc : PySem.W.codeIn K cd "law" = true)
    (lp : PySem.W.keepIn K (.ref f) = true)
    (b_isinstance : PySem.W.nsIn K mainGlobals "isinstance" = some none)
    (b_len : PySem.W.nsIn K mainGlobals "len" = some none)
    (b_all : PySem.W.nsIn K mainGlobals "all" = some none)
    (b_int : PySem.W.nsIn K mainGlobals "int" = some none)
    (b_bool : PySem.W.nsIn K mainGlobals "bool" = some none)
    (b_str : PySem.W.nsIn K mainGlobals "str" = some none)
    (b_list : PySem.W.nsIn K mainGlobals "list" = some none)
    (b_range : PySem.W.nsIn K mainGlobals "range" = some none)
    (b_zip : PySem.W.nsIn K mainGlobals "zip" = some none)
    (b_tuple : PySem.W.nsIn K mainGlobals "tuple" = some none)
    (b_set : PySem.W.nsIn K mainGlobals "set" = some none)
    (b_sum : PySem.W.nsIn K mainGlobals "sum" = some none)
    (b_min : PySem.W.nsIn K mainGlobals "min" = some none)
    (b_max : PySem.W.nsIn K mainGlobals "max" = some none)
    (b_enumerate : PySem.W.nsIn K mainGlobals "enumerate" = some none)
    (g_MOST_WAIT : PySem.W.nsIn K mainGlobals "MOST_WAIT" = some (some (.int 100000 t1)))
    (g_LETTERS : PySem.W.nsIn K mainGlobals "LETTERS" = some (some (.str LET t2)))
    (g_MOST_LETTERS : PySem.W.nsIn K mainGlobals "MOST_LETTERS" = some (some (.int 12 t3)))
    (g_MOST_NEEDS : PySem.W.nsIn K mainGlobals "MOST_NEEDS" = some (some (.int 8 t4))) :
    ∃ fd : FuncData, (∀ (s : Shared) (v : Value), BindsTo s fd ⟨[v], []⟩ [("_law_script", v)]) ∧ ∀ base : Heap, K.In base → base.Ns mainGlobals mg → FnOk l.prog w K mg base CX0 8 fa fd ["_law_script"] (spLaw K) := by
  have e := hfa.symm.trans (PySem.W.mg_of X G lk)
  cases e
  have B0 : Bltn mg := ⟨PySem.W.mg_none_of X G b_isinstance, PySem.W.mg_none_of X G b_len, PySem.W.mg_none_of X G b_all, PySem.W.mg_none_of X G b_int, PySem.W.mg_none_of X G b_bool, PySem.W.mg_none_of X G b_str, PySem.W.mg_none_of X G b_list, PySem.W.mg_none_of X G b_range⟩
  have B1 : Bw mg := ⟨⟨B0, PySem.W.mg_none_of X G b_zip, PySem.W.mg_none_of X G b_tuple, PySem.W.mg_none_of X G b_set⟩, PySem.W.mg_none_of X G b_sum, PySem.W.mg_none_of X G b_min, PySem.W.mg_none_of X G b_max⟩
  have J : JCls K mg C := ⟨cls_Job, PySem.W.mg_of X G is_Job, n1, n2, n3, n4, n5, n6, n7⟩
  have S : SCls K mg (mkc Cb Cr Cl Ct Cd Ck Cc) cS cO cV := by
    refine ⟨fun k => ?_, fun s f hf => ?_, fun k => ?_, hn, htk, fun k => ?_, hIs, hIsS, hIsO, hIsV, PySem.W.mg_of X G is_State, PySem.W.mg_of X G is_Open, PySem.W.mg_of X G is_Over, PySem.W.mg_of X G is_Blocked, PySem.W.mg_of X G is_Ready, PySem.W.mg_of X G is_Leased, PySem.W.mg_of X G is_Resting, PySem.W.mg_of X G is_Done, PySem.W.mg_of X G is_Broken, PySem.W.mg_of X G is_Cut⟩
    · cases k <;> assumption
    · cases s <;> (simp only [Sta.flds, List.map_cons, List.map_nil, List.mem_cons, List.not_mem_nil, or_false] at hf) <;> (first | (subst hf; assumption) | (rcases hf with rfl | rfl <;> assumption) | (rcases hf with rfl | rfl | rfl <;> assumption))
    · cases k <;> assumption
    · cases k <;> assumption
  refine ⟨PySem.W.fnOf "law" "law" (defArgs s_law) (defBody s_law) (defScope s_law) .none kV dc pm an cd ct, fun s v => .of_eq rfl, fun base _ _ => ?_⟩
  have F := fun_mk (st := s_law) ll lc lp
  have k_is_whole := ok_is_whole (P := l.prog) (w := w) (base := base) d_is_whole B0
  have k_is_among := ok_is_among d_is_among k_is_whole
  have k_is_made_of := ok_is_made_of (P := l.prog) (w := w) (base := base) d_is_made_of B0
  have k_is_name := ok_is_name d_is_name (PySem.W.mg_of X G g_LETTERS) (PySem.W.mg_of X G g_MOST_LETTERS) k_is_made_of
  have k_check_name := ok_check_name d_check_name k_is_name
  have k_are_needs := ok_are_needs d_are_needs B1.j (PySem.W.mg_of X G g_MOST_NEEDS) k_is_name
  have k_check_needs := ok_check_needs d_check_needs k_are_needs
  have k_check_numbers := ok_check_numbers d_check_numbers B1.j pk k_is_among
  have kj := i_job.knows (P := l.prog) (w := w) (mg := mg) (base := base) fun f fd F => ok_job F J B1.j k_check_name k_check_needs k_check_numbers
  have k_grown := ok_grown (P := l.prog) (w := w) (base := base) d_grown B1 J (PySem.W.mg_of X G g_MOST_WAIT)
  have k_wait := ok_wait d_wait_after B1 J k_grown
  have ki_Blocked := ok_mkBlocked (P := l.prog) (w := w) (mg := mg) (base := base) (c := mkc Cb Cr Cl Ct Cd Ck Cc) i_Blocked S
  have ki_Ready := ok_mkReady (P := l.prog) (w := w) (mg := mg) (base := base) (c := mkc Cb Cr Cl Ct Cd Ck Cc) i_Ready S
  have ki_Leased := ok_mkLeased (P := l.prog) (w := w) (mg := mg) (base := base) (c := mkc Cb Cr Cl Ct Cd Ck Cc) i_Leased S
  have ki_Resting := ok_mkResting (P := l.prog) (w := w) (mg := mg) (base := base) (c := mkc Cb Cr Cl Ct Cd Ck Cc) i_Resting S
  have ki_Done := ok_mkDone (P := l.prog) (w := w) (mg := mg) (base := base) (c := mkc Cb Cr Cl Ct Cd Ck Cc) i_Done S
  have ki_Broken := ok_mkBroken (P := l.prog) (w := w) (mg := mg) (base := base) (c := mkc Cb Cr Cl Ct Cd Ck Cc) i_Broken S
  have ki_Cut := ok_mkCut (P := l.prog) (w := w) (mg := mg) (base := base) (c := mkc Cb Cr Cl Ct Cd Ck Cc) i_Cut S
  have k_told : KnowsD CX0 l.prog w K mg base 1 (mkc Cb Cr Cl Ct Cd Ck Cc) "told" ["self"] (spTold (mkc Cb Cr Cl Ct Cd Ck Cc)) := fun k => ⟨by
    cases k
    · exact ok_toldBlocked (P := l.prog) (w := w) (mg := mg) (base := base) (c := mkc Cb Cr Cl Ct Cd Ck Cc) t_Blocked S
    · exact ok_toldReady (P := l.prog) (w := w) (mg := mg) (base := base) (c := mkc Cb Cr Cl Ct Cd Ck Cc) t_Ready S
    · exact ok_toldLeased (P := l.prog) (w := w) (mg := mg) (base := base) (c := mkc Cb Cr Cl Ct Cd Ck Cc) t_Leased S
    · exact ok_toldResting (P := l.prog) (w := w) (mg := mg) (base := base) (c := mkc Cb Cr Cl Ct Cd Ck Cc) t_Resting S
    · exact ok_toldDone (P := l.prog) (w := w) (mg := mg) (base := base) (c := mkc Cb Cr Cl Ct Cd Ck Cc) t_Done S
    · exact ok_toldBroken (P := l.prog) (w := w) (mg := mg) (base := base) (c := mkc Cb Cr Cl Ct Cd Ck Cc) t_Broken S
    · exact ok_toldCut (P := l.prog) (w := w) (mg := mg) (base := base) (c := mkc Cb Cr Cl Ct Cd Ck Cc) t_Cut S
    , S.cl k⟩
  have k_fails : KnowsD CX0 l.prog w K mg base 1 (mkc Cb Cr Cl Ct Cd Ck Cc) "count_fails" ["self"] (spFails (mkc Cb Cr Cl Ct Cd Ck Cc)) := fun k => ⟨by
    cases k
    · exact ok_fails0 (P := l.prog) (w := w) (mg := mg) (base := base) (c := mkc Cb Cr Cl Ct Cd Ck Cc) (k := .blocked) f_Blocked (fun s hs => by cases s <;> first | rfl | cases hs)
    · exact ok_failsReady (P := l.prog) (w := w) (mg := mg) (base := base) (c := mkc Cb Cr Cl Ct Cd Ck Cc) f_Ready S
    · exact ok_failsLeased (P := l.prog) (w := w) (mg := mg) (base := base) (c := mkc Cb Cr Cl Ct Cd Ck Cc) f_Leased S
    · exact ok_failsResting (P := l.prog) (w := w) (mg := mg) (base := base) (c := mkc Cb Cr Cl Ct Cd Ck Cc) f_Resting S
    · exact ok_failsDone (P := l.prog) (w := w) (mg := mg) (base := base) (c := mkc Cb Cr Cl Ct Cd Ck Cc) f_Done S
    · exact ok_failsBroken (P := l.prog) (w := w) (mg := mg) (base := base) (c := mkc Cb Cr Cl Ct Cd Ck Cc) f_Broken S
    · exact ok_fails0 (P := l.prog) (w := w) (mg := mg) (base := base) (c := mkc Cb Cr Cl Ct Cd Ck Cc) (k := .cut) f_Cut (fun s hs => by cases s <;> first | rfl | cases hs)
    , S.cl k⟩
  have k_over : KnowsD CX0 l.prog w K mg base 1 (mkc Cb Cr Cl Ct Cd Ck Cc) "is_over" ["self"] (spOver (mkc Cb Cr Cl Ct Cd Ck Cc)) := fun k => ⟨by
    cases k
    · exact ok_over0 (P := l.prog) (w := w) (mg := mg) (base := base) (c := mkc Cb Cr Cl Ct Cd Ck Cc) (k := .blocked) o_Blocked rfl
    · exact ok_over0 (P := l.prog) (w := w) (mg := mg) (base := base) (c := mkc Cb Cr Cl Ct Cd Ck Cc) (k := .ready) o_Ready rfl
    · exact ok_over0 (P := l.prog) (w := w) (mg := mg) (base := base) (c := mkc Cb Cr Cl Ct Cd Ck Cc) (k := .leased) o_Leased rfl
    · exact ok_over0 (P := l.prog) (w := w) (mg := mg) (base := base) (c := mkc Cb Cr Cl Ct Cd Ck Cc) (k := .resting) o_Resting rfl
    · exact ok_over1 (P := l.prog) (w := w) (mg := mg) (base := base) (c := mkc Cb Cr Cl Ct Cd Ck Cc) (k := .done) o_Done rfl
    · exact ok_over1 (P := l.prog) (w := w) (mg := mg) (base := base) (c := mkc Cb Cr Cl Ct Cd Ck Cc) (k := .broken) o_Broken rfl
    · exact ok_over1 (P := l.prog) (w := w) (mg := mg) (base := base) (c := mkc Cb Cr Cl Ct Cd Ck Cc) (k := .cut) o_Cut rfl
    , S.cl k⟩
  have k_word : KnowsD CX0 l.prog w K mg base 2 (mkc Cb Cr Cl Ct Cd Ck Cc) "word" ["self"] (spWord (mkc Cb Cr Cl Ct Cd Ck Cc)) := fun k => ⟨by
    cases k
    · exact ok_word (k := .blocked) w_Blocked k_told
    · exact ok_word (k := .ready) w_Ready k_told
    · exact ok_word (k := .leased) w_Leased k_told
    · exact ok_word (k := .resting) w_Resting k_told
    · exact ok_word (k := .done) w_Done k_told
    · exact ok_word (k := .broken) w_Broken k_told
    · exact ok_word (k := .cut) w_Cut k_told
    , S.cl k⟩
  have km_freed := ok_freed (P := l.prog) (w := w) (mg := mg) (base := base) (c := mkc Cb Cr Cl Ct Cd Ck Cc) m_freed S ki_Ready ki_Blocked
  have km_cut := ok_cutoff (P := l.prog) (w := w) (mg := mg) (base := base) (c := mkc Cb Cr Cl Ct Cd Ck Cc) m_cut S ki_Cut
  have km_leased := ok_leased (P := l.prog) (w := w) (mg := mg) (base := base) (c := mkc Cb Cr Cl Ct Cd Ck Cc) m_leased S ki_Leased
  have km_ended := ok_ended (P := l.prog) (w := w) (mg := mg) (base := base) (c := mkc Cb Cr Cl Ct Cd Ck Cc) m_ended S ki_Done
  have km_rested := ok_rested (P := l.prog) (w := w) (mg := mg) (base := base) (c := mkc Cb Cr Cl Ct Cd Ck Cc) m_rested S ki_Ready
  have km_failed := ok_failed (P := l.prog) (w := w) (mg := mg) (base := base) (c := mkc Cb Cr Cl Ct Cd Ck Cc) m_failed S J k_wait ki_Broken ki_Ready ki_Resting
  have k_first := ok_first d_first_state S B1 J ki_Blocked ki_Ready
  have k_cell := ok_cell (P := l.prog) (w := w) (base := base) d__law_cell_at B1
  have k_mixed := ok_mixed (P := l.prog) (w := w) (base := base) d__law_mixed
  have k_whole := ok_whole (P := l.prog) (w := w) (base := base) d__law_whole B1
  have k_same := ok_same (P := l.prog) (w := w) (base := base) d__law_same B1
  have k_is := ok_is (P := l.prog) (w := w) (base := base) d__law_is S B1
  have k_lover := ok_lover d__law_over B1 k_over
  have k_stands := ok_stands d__law_stands S B1 k_told k_word k_fails k_is k_same k_lover k_whole
  have k_turn := ok_turn (P := l.prog) (w := w) (base := base) d__law_turn
  have k_lfirst := ok_lfirst (P := l.prog) (w := w) (base := base) d__law_first
  have k_lrest := ok_lrest (P := l.prog) (w := w) (base := base) d__law_rest B1
  have k_job := ok_ljob d__law_job B1 J k_mixed kj
  have k_stepped := ok_stepped d__law_stepped S km_cut km_freed km_leased km_ended km_failed km_rested k_turn k_lrest
  exact ok_law F B1 (PySem.W.mg_none_of X G b_enumerate) k_told k_cell k_mixed k_job k_first k_lfirst k_stands k_stepped k_same
theorem walk {l : PySem.W.OpenLaw} {q : Program} {loose : List Str} {XP : (Str → Option Value) → Heap → Prop} {YP : World → Heap → Prop} {d : DefRec} {K : Params → PySem.W.Frag} (hn : l.most = some 63) (hdf : d.params.defaults = [])
    (hY : ∀ (w : World) (h : Heap), YP w h → (K w.params).In h)
    (F : ∀ (w : World) (mg : Str → Option Value) (fa : Addr) (h : Heap), (K w.params).In h → h.Ns mainGlobals mg → mg d.name = some (.ref fa) →
      ∃ fd : FuncData, (∀ (s : Shared) (u : Value), BindsTo s fd ⟨[u], []⟩ [("_law_script", u)]) ∧ ∀ base : Heap, (K w.params).In base → base.Ns mainGlobals mg → FnOk l.prog w (K w.params) mg base CX0 8 fa fd ["_law_script"] (spLaw (K w.params))) :
    PySem.W.WalkO q loose XP YP l.row.toRowW d [] (fun f vs => PySem.call f vs) :=
  L2.walk_ofW (n := 63) (k := 8) (x := "_law_script") (CX := fun _ => CX0) (sp := fun w => spLaw (K w.params)) hn (by decide) hdf ⟨rfl, by decide, by decide⟩ hY F (fun _ _ a ns hl hsm _ hS => ⟨a, ns, rfl, hS, hl, hsm, fun _ => rfl⟩) fun _ _ _ _ _ z => z
end K12

set_option Elab.async false
set_option linter.all false
namespace PySem.W.Fast
end PySem.W.Fast
open PySem PySem.W PyProof.Rows
set_option maxRecDepth 100000 in
set_option maxHeartbeats 0 in
theorem PySem.Challenge.cw_buildhall_k12_states_step_by_step_holds : PySem.Challenge.rw_buildhall_k12_states_step_by_step.Holds := by
  w_on; o_law; k_head; (case hw => w_witness2)
  k_fill
  refine K12.walk (l := PySem.Challenge.rw_buildhall_k12_states_step_by_step) rfl rfl (fun w h Y => PySem.W.kIn_of Y) ?F
  case F =>
    intro w mg fa h KX G hmg
    refine' K12.all_mk KX G hmg ?is_Job ?is_Blocked ?is_Ready ?is_Leased ?is_Resting ?is_Done ?is_Broken ?is_Cut ?is_State ?is_Open ?is_Over ?cls_Job ?cls_Blocked ?cls_Ready ?cls_Leased ?cls_Resting ?cls_Done ?cls_Broken ?cls_Cut ?n1 ?n2 ?n3 ?n4 ?n5 ?n6 ?n7 ?na_Blocked_left ?na_Ready_fails ?na_Leased_fails ?na_Leased_number ?na_Resting_fails ?na_Resting_until ?na_Done_fails ?na_Done_number ?na_Done_turn ?na_Broken_fails ?na_Broken_why ?na_Cut_need ?hc_Blocked ?hc_Ready ?hc_Leased ?hc_Resting ?hc_Done ?hc_Broken ?hc_Cut ?hn ?htk ?hm_Blocked ?hm_Ready ?hm_Leased ?hm_Resting ?hm_Done ?hm_Broken ?hm_Cut ?hIs ?hIsS ?hIsO ?hIsV ?i_job ?pk ?i_Blocked ?i_Ready ?i_Leased ?i_Resting ?i_Done ?i_Broken ?i_Cut ?t_Blocked ?t_Ready ?t_Leased ?t_Resting ?t_Done ?t_Broken ?t_Cut ?f_Blocked ?f_Ready ?f_Leased ?f_Resting ?f_Done ?f_Broken ?f_Cut ?o_Blocked ?o_Ready ?o_Leased ?o_Resting ?o_Done ?o_Broken ?o_Cut ?w_Blocked ?w_Ready ?w_Leased ?w_Resting ?w_Done ?w_Broken ?w_Cut ?m_freed ?m_cut ?m_leased ?m_ended ?m_failed ?m_rested ?d_first_state ?d_wait_after ?d_grown ?d_is_whole ?d_is_among ?d_is_made_of ?d_is_name ?d_check_name ?d_check_needs ?d_are_needs ?d_check_numbers ?d__law_cell_at ?d__law_mixed ?d__law_whole ?d__law_same ?d__law_is ?d__law_over ?d__law_stands ?d__law_job ?d__law_rest ?d__law_first ?d__law_turn ?d__law_stepped ?lk ?ll ?lc ?lp ?b_isinstance ?b_len ?b_all ?b_int ?b_bool ?b_str ?b_list ?b_range ?b_zip ?b_tuple ?b_set ?b_sum ?b_min ?b_max ?b_enumerate ?g_MOST_WAIT ?g_LETTERS ?g_MOST_LETTERS ?g_MOST_NEEDS
    (case is_Job => k_is)
    (case is_Blocked => k_is)
    (case is_Ready => k_is)
    (case is_Leased => k_is)
    (case is_Resting => k_is)
    (case is_Done => k_is)
    (case is_Broken => k_is)
    (case is_Cut => k_is)
    (case is_State => k_is)
    (case is_Open => k_is)
    (case is_Over => k_is)
    (case cls_Job => refine' ⟨?_, ?_, ?_, ?_⟩ <;> k_is)
    (case cls_Blocked => refine' ⟨?_, ?_, ?_, ?_⟩ <;> k_is)
    (case cls_Ready => refine' ⟨?_, ?_, ?_, ?_⟩ <;> k_is)
    (case cls_Leased => refine' ⟨?_, ?_, ?_, ?_⟩ <;> k_is)
    (case cls_Resting => refine' ⟨?_, ?_, ?_, ?_⟩ <;> k_is)
    (case cls_Done => refine' ⟨?_, ?_, ?_, ?_⟩ <;> k_is)
    (case cls_Broken => refine' ⟨?_, ?_, ?_, ?_⟩ <;> k_is)
    (case cls_Cut => refine' ⟨?_, ?_, ?_, ?_⟩ <;> k_is)
    (case n1 => k_is)
    (case n2 => k_is)
    (case n3 => k_is)
    (case n4 => k_is)
    (case n5 => k_is)
    (case n6 => k_is)
    (case n7 => k_is)
    (case na_Blocked_left => k_is)
    (case na_Ready_fails => k_is)
    (case na_Leased_fails => k_is)
    (case na_Leased_number => k_is)
    (case na_Resting_fails => k_is)
    (case na_Resting_until => k_is)
    (case na_Done_fails => k_is)
    (case na_Done_number => k_is)
    (case na_Done_turn => k_is)
    (case na_Broken_fails => k_is)
    (case na_Broken_why => k_is)
    (case na_Cut_need => k_is)
    (case hc_Blocked => k_is)
    (case hc_Ready => k_is)
    (case hc_Leased => k_is)
    (case hc_Resting => k_is)
    (case hc_Done => k_is)
    (case hc_Broken => k_is)
    (case hc_Cut => k_is)
    (case hn => first | k_is | kernel_rfl)
    (case htk => first | k_is | kernel_rfl)
    (case hm_Blocked => first | k_is | kernel_rfl)
    (case hm_Ready => first | k_is | kernel_rfl)
    (case hm_Leased => first | k_is | kernel_rfl)
    (case hm_Resting => first | k_is | kernel_rfl)
    (case hm_Done => first | k_is | kernel_rfl)
    (case hm_Broken => first | k_is | kernel_rfl)
    (case hm_Cut => first | k_is | kernel_rfl)
    (case hIs => intro k k'; cases k <;> cases k' <;> kernel_rfl)
    (case hIsS => intro k; cases k <;> kernel_rfl)
    (case hIsO => intro k; cases k <;> kernel_rfl)
    (case hIsV => intro k; cases k <;> kernel_rfl)
    case i_job =>
      refine' L2.initB_mk ?a ?n ?l ?c ?mk ?kC ?b
      (case a => k_is); (case n => k_is); (case l => k_is); (case c => k_is); (case mk => k_is); (case kC => k_is)
      case b =>
        refine' ⟨?_⟩
        refine' L2.bt_mk' rfl ?ho ?hs ?hok ?hb
        (case ho => k_is); (case hs => rfl)
        (case hok => exact ⟨trivial, trivial, trivial, trivial, trivial, trivial, trivial, trivial⟩)
        (case hb => exact fun self us ws h1 h2 => match us, ws, h1, h2 with | [_, _, _, _, _, _, _], [], _, _ => ⟨_, rfl, rfl⟩)
    case pk =>
      refine' K12.parts_mk KX G ?g ?l ?l0 ?l1 ?l2 ?l3 ?l4
      (case g => k_is); (case l => k_is); (case l0 => k_is); (case l1 => k_is); (case l2 => k_is); (case l3 => k_is); (case l4 => k_is)
    case i_Blocked =>
      refine' L2.init_mk ?a ?n ?l ?c ?k ?mk ?kC ?b
      (case a => k_is); (case n => k_is); (case l => k_is); (case c => k_is); (case k => k_is); (case mk => k_is); (case kC => k_is)
      (case b => exact fun _ _ _ _ _ _ us hl => match us, hl with | [_, _], _ => rfl)
    case i_Ready =>
      refine' L2.init_mk ?a ?n ?l ?c ?k ?mk ?kC ?b
      (case a => k_is); (case n => k_is); (case l => k_is); (case c => k_is); (case k => k_is); (case mk => k_is); (case kC => k_is)
      (case b => exact fun _ _ _ _ _ _ us hl => match us, hl with | [_, _], _ => rfl)
    case i_Leased =>
      refine' L2.init_mk ?a ?n ?l ?c ?k ?mk ?kC ?b
      (case a => k_is); (case n => k_is); (case l => k_is); (case c => k_is); (case k => k_is); (case mk => k_is); (case kC => k_is)
      (case b => exact fun _ _ _ _ _ _ us hl => match us, hl with | [_, _, _], _ => rfl)
    case i_Resting =>
      refine' L2.init_mk ?a ?n ?l ?c ?k ?mk ?kC ?b
      (case a => k_is); (case n => k_is); (case l => k_is); (case c => k_is); (case k => k_is); (case mk => k_is); (case kC => k_is)
      (case b => exact fun _ _ _ _ _ _ us hl => match us, hl with | [_, _, _], _ => rfl)
    case i_Done =>
      refine' L2.init_mk ?a ?n ?l ?c ?k ?mk ?kC ?b
      (case a => k_is); (case n => k_is); (case l => k_is); (case c => k_is); (case k => k_is); (case mk => k_is); (case kC => k_is)
      (case b => exact fun _ _ _ _ _ _ us hl => match us, hl with | [_, _, _, _], _ => rfl)
    case i_Broken =>
      refine' L2.init_mk ?a ?n ?l ?c ?k ?mk ?kC ?b
      (case a => k_is); (case n => k_is); (case l => k_is); (case c => k_is); (case k => k_is); (case mk => k_is); (case kC => k_is)
      (case b => exact fun _ _ _ _ _ _ us hl => match us, hl with | [_, _, _], _ => rfl)
    case i_Cut =>
      refine' L2.init_mk ?a ?n ?l ?c ?k ?mk ?kC ?b
      (case a => k_is); (case n => k_is); (case l => k_is); (case c => k_is); (case k => k_is); (case mk => k_is); (case kC => k_is)
      (case b => exact fun _ _ _ _ _ _ us hl => match us, hl with | [_, _], _ => rfl)
    case t_Blocked =>
      refine' L2.meth_mk ?a ?n ?l ?c ?k ?b
      (case a => k_is); (case n => k_is); (case l => k_is); (case c => k_is); (case k => k_is)
      (case b => exact fun _ _ _ _ _ _ us hl => match us, hl with | [_], _ => rfl)
    case t_Ready =>
      refine' L2.meth_mk ?a ?n ?l ?c ?k ?b
      (case a => k_is); (case n => k_is); (case l => k_is); (case c => k_is); (case k => k_is)
      (case b => exact fun _ _ _ _ _ _ us hl => match us, hl with | [_], _ => rfl)
    case t_Leased =>
      refine' L2.meth_mk ?a ?n ?l ?c ?k ?b
      (case a => k_is); (case n => k_is); (case l => k_is); (case c => k_is); (case k => k_is)
      (case b => exact fun _ _ _ _ _ _ us hl => match us, hl with | [_], _ => rfl)
    case t_Resting =>
      refine' L2.meth_mk ?a ?n ?l ?c ?k ?b
      (case a => k_is); (case n => k_is); (case l => k_is); (case c => k_is); (case k => k_is)
      (case b => exact fun _ _ _ _ _ _ us hl => match us, hl with | [_], _ => rfl)
    case t_Done =>
      refine' L2.meth_mk ?a ?n ?l ?c ?k ?b
      (case a => k_is); (case n => k_is); (case l => k_is); (case c => k_is); (case k => k_is)
      (case b => exact fun _ _ _ _ _ _ us hl => match us, hl with | [_], _ => rfl)
    case t_Broken =>
      refine' L2.meth_mk ?a ?n ?l ?c ?k ?b
      (case a => k_is); (case n => k_is); (case l => k_is); (case c => k_is); (case k => k_is)
      (case b => exact fun _ _ _ _ _ _ us hl => match us, hl with | [_], _ => rfl)
    case t_Cut =>
      refine' L2.meth_mk ?a ?n ?l ?c ?k ?b
      (case a => k_is); (case n => k_is); (case l => k_is); (case c => k_is); (case k => k_is)
      (case b => exact fun _ _ _ _ _ _ us hl => match us, hl with | [_], _ => rfl)
    case f_Blocked =>
      refine' L2.meth_mk ?a ?n ?l ?c ?k ?b
      (case a => k_is); (case n => k_is); (case l => k_is); (case c => k_is); (case k => k_is)
      (case b => exact fun _ _ _ _ _ _ us hl => match us, hl with | [_], _ => rfl)
    case f_Ready =>
      refine' L2.meth_mk ?a ?n ?l ?c ?k ?b
      (case a => k_is); (case n => k_is); (case l => k_is); (case c => k_is); (case k => k_is)
      (case b => exact fun _ _ _ _ _ _ us hl => match us, hl with | [_], _ => rfl)
    case f_Leased =>
      refine' L2.meth_mk ?a ?n ?l ?c ?k ?b
      (case a => k_is); (case n => k_is); (case l => k_is); (case c => k_is); (case k => k_is)
      (case b => exact fun _ _ _ _ _ _ us hl => match us, hl with | [_], _ => rfl)
    case f_Resting =>
      refine' L2.meth_mk ?a ?n ?l ?c ?k ?b
      (case a => k_is); (case n => k_is); (case l => k_is); (case c => k_is); (case k => k_is)
      (case b => exact fun _ _ _ _ _ _ us hl => match us, hl with | [_], _ => rfl)
    case f_Done =>
      refine' L2.meth_mk ?a ?n ?l ?c ?k ?b
      (case a => k_is); (case n => k_is); (case l => k_is); (case c => k_is); (case k => k_is)
      (case b => exact fun _ _ _ _ _ _ us hl => match us, hl with | [_], _ => rfl)
    case f_Broken =>
      refine' L2.meth_mk ?a ?n ?l ?c ?k ?b
      (case a => k_is); (case n => k_is); (case l => k_is); (case c => k_is); (case k => k_is)
      (case b => exact fun _ _ _ _ _ _ us hl => match us, hl with | [_], _ => rfl)
    case f_Cut =>
      refine' L2.meth_mk ?a ?n ?l ?c ?k ?b
      (case a => k_is); (case n => k_is); (case l => k_is); (case c => k_is); (case k => k_is)
      (case b => exact fun _ _ _ _ _ _ us hl => match us, hl with | [_], _ => rfl)
    case o_Blocked =>
      refine' L2.meth_mk ?a ?n ?l ?c ?k ?b
      (case a => k_is); (case n => k_is); (case l => k_is); (case c => k_is); (case k => k_is)
      (case b => exact fun _ _ _ _ _ _ us hl => match us, hl with | [_], _ => rfl)
    case o_Ready =>
      refine' L2.meth_mk ?a ?n ?l ?c ?k ?b
      (case a => k_is); (case n => k_is); (case l => k_is); (case c => k_is); (case k => k_is)
      (case b => exact fun _ _ _ _ _ _ us hl => match us, hl with | [_], _ => rfl)
    case o_Leased =>
      refine' L2.meth_mk ?a ?n ?l ?c ?k ?b
      (case a => k_is); (case n => k_is); (case l => k_is); (case c => k_is); (case k => k_is)
      (case b => exact fun _ _ _ _ _ _ us hl => match us, hl with | [_], _ => rfl)
    case o_Resting =>
      refine' L2.meth_mk ?a ?n ?l ?c ?k ?b
      (case a => k_is); (case n => k_is); (case l => k_is); (case c => k_is); (case k => k_is)
      (case b => exact fun _ _ _ _ _ _ us hl => match us, hl with | [_], _ => rfl)
    case o_Done =>
      refine' L2.meth_mk ?a ?n ?l ?c ?k ?b
      (case a => k_is); (case n => k_is); (case l => k_is); (case c => k_is); (case k => k_is)
      (case b => exact fun _ _ _ _ _ _ us hl => match us, hl with | [_], _ => rfl)
    case o_Broken =>
      refine' L2.meth_mk ?a ?n ?l ?c ?k ?b
      (case a => k_is); (case n => k_is); (case l => k_is); (case c => k_is); (case k => k_is)
      (case b => exact fun _ _ _ _ _ _ us hl => match us, hl with | [_], _ => rfl)
    case o_Cut =>
      refine' L2.meth_mk ?a ?n ?l ?c ?k ?b
      (case a => k_is); (case n => k_is); (case l => k_is); (case c => k_is); (case k => k_is)
      (case b => exact fun _ _ _ _ _ _ us hl => match us, hl with | [_], _ => rfl)
    case w_Blocked =>
      refine' L2.meth_mk ?a ?n ?l ?c ?k ?b
      (case a => k_is); (case n => k_is); (case l => k_is); (case c => k_is); (case k => k_is)
      (case b => exact fun _ _ _ _ _ _ us hl => match us, hl with | [_], _ => rfl)
    case w_Ready =>
      refine' L2.meth_mk ?a ?n ?l ?c ?k ?b
      (case a => k_is); (case n => k_is); (case l => k_is); (case c => k_is); (case k => k_is)
      (case b => exact fun _ _ _ _ _ _ us hl => match us, hl with | [_], _ => rfl)
    case w_Leased =>
      refine' L2.meth_mk ?a ?n ?l ?c ?k ?b
      (case a => k_is); (case n => k_is); (case l => k_is); (case c => k_is); (case k => k_is)
      (case b => exact fun _ _ _ _ _ _ us hl => match us, hl with | [_], _ => rfl)
    case w_Resting =>
      refine' L2.meth_mk ?a ?n ?l ?c ?k ?b
      (case a => k_is); (case n => k_is); (case l => k_is); (case c => k_is); (case k => k_is)
      (case b => exact fun _ _ _ _ _ _ us hl => match us, hl with | [_], _ => rfl)
    case w_Done =>
      refine' L2.meth_mk ?a ?n ?l ?c ?k ?b
      (case a => k_is); (case n => k_is); (case l => k_is); (case c => k_is); (case k => k_is)
      (case b => exact fun _ _ _ _ _ _ us hl => match us, hl with | [_], _ => rfl)
    case w_Broken =>
      refine' L2.meth_mk ?a ?n ?l ?c ?k ?b
      (case a => k_is); (case n => k_is); (case l => k_is); (case c => k_is); (case k => k_is)
      (case b => exact fun _ _ _ _ _ _ us hl => match us, hl with | [_], _ => rfl)
    case w_Cut =>
      refine' L2.meth_mk ?a ?n ?l ?c ?k ?b
      (case a => k_is); (case n => k_is); (case l => k_is); (case c => k_is); (case k => k_is)
      (case b => exact fun _ _ _ _ _ _ us hl => match us, hl with | [_], _ => rfl)
    case m_freed =>
      refine' L2.meth_mk ?a ?n ?l ?c ?k ?b
      (case a => k_is); (case n => k_is); (case l => k_is); (case c => k_is); (case k => k_is)
      (case b => exact fun _ _ _ _ _ _ us hl => match us, hl with | [_], _ => rfl)
    case m_cut =>
      refine' L2.meth_mk ?a ?n ?l ?c ?k ?b
      (case a => k_is); (case n => k_is); (case l => k_is); (case c => k_is); (case k => k_is)
      (case b => exact fun _ _ _ _ _ _ us hl => match us, hl with | [_, _], _ => rfl)
    case m_leased =>
      refine' L2.meth_mk ?a ?n ?l ?c ?k ?b
      (case a => k_is); (case n => k_is); (case l => k_is); (case c => k_is); (case k => k_is)
      (case b => exact fun _ _ _ _ _ _ us hl => match us, hl with | [_, _], _ => rfl)
    case m_ended =>
      refine' L2.meth_mk ?a ?n ?l ?c ?k ?b
      (case a => k_is); (case n => k_is); (case l => k_is); (case c => k_is); (case k => k_is)
      (case b => exact fun _ _ _ _ _ _ us hl => match us, hl with | [_, _], _ => rfl)
    case m_failed =>
      refine' L2.meth_mk ?a ?n ?l ?c ?k ?b
      (case a => k_is); (case n => k_is); (case l => k_is); (case c => k_is); (case k => k_is)
      (case b => exact fun _ _ _ _ _ _ us hl => match us, hl with | [_, _, _, _], _ => rfl)
    case m_rested =>
      refine' L2.meth_mk ?a ?n ?l ?c ?k ?b
      (case a => k_is); (case n => k_is); (case l => k_is); (case c => k_is); (case k => k_is)
      (case b => exact fun _ _ _ _ _ _ us hl => match us, hl with | [_], _ => rfl)
    case d_first_state =>
      refine' L2.def_mk KX G ?a ?l ?c ?k ?b
      (case a => k_is); (case l => k_is); (case c => k_is); (case k => k_is)
      (case b => exact fun _ _ _ _ _ _ us hl => match us, hl with | [_], _ => rfl)
    case d_wait_after =>
      refine' L2.def_mk KX G ?a ?l ?c ?k ?b
      (case a => k_is); (case l => k_is); (case c => k_is); (case k => k_is)
      (case b => exact fun _ _ _ _ _ _ us hl => match us, hl with | [_, _], _ => rfl)
    case d_grown =>
      refine' L2.def_mk KX G ?a ?l ?c ?k ?b
      (case a => k_is); (case l => k_is); (case c => k_is); (case k => k_is)
      (case b => exact fun _ _ _ _ _ _ us hl => match us, hl with | [_, _], _ => rfl)
    case d_is_whole =>
      refine' L2.def_mk KX G ?a ?l ?c ?k ?b
      (case a => k_is); (case l => k_is); (case c => k_is); (case k => k_is)
      (case b => exact fun _ _ _ _ _ _ us hl => match us, hl with | [_], _ => rfl)
    case d_is_among =>
      refine' L2.def_mk KX G ?a ?l ?c ?k ?b
      (case a => k_is); (case l => k_is); (case c => k_is); (case k => k_is)
      (case b => exact fun _ _ _ _ _ _ us hl => match us, hl with | [_, _, _], _ => rfl)
    case d_is_made_of =>
      refine' L2.def_mk KX G ?a ?l ?c ?k ?b
      (case a => k_is); (case l => k_is); (case c => k_is); (case k => k_is)
      (case b => exact fun _ _ _ _ _ _ us hl => match us, hl with | [_, _, _], _ => rfl)
    case d_is_name =>
      refine' L2.def_mk KX G ?a ?l ?c ?k ?b
      (case a => k_is); (case l => k_is); (case c => k_is); (case k => k_is)
      (case b => exact fun _ _ _ _ _ _ us hl => match us, hl with | [_], _ => rfl)
    case d_check_name =>
      refine' L2.def_mk KX G ?a ?l ?c ?k ?b
      (case a => k_is); (case l => k_is); (case c => k_is); (case k => k_is)
      (case b => exact fun _ _ _ _ _ _ us hl => match us, hl with | [_], _ => rfl)
    case d_check_needs =>
      refine' L2.def_mk KX G ?a ?l ?c ?k ?b
      (case a => k_is); (case l => k_is); (case c => k_is); (case k => k_is)
      (case b => exact fun _ _ _ _ _ _ us hl => match us, hl with | [_, _], _ => rfl)
    case d_are_needs =>
      refine' L2.def_mk KX G ?a ?l ?c ?k ?b
      (case a => k_is); (case l => k_is); (case c => k_is); (case k => k_is)
      (case b => exact fun _ _ _ _ _ _ us hl => match us, hl with | [_, _], _ => rfl)
    case d_check_numbers =>
      refine' L2.def_mk KX G ?a ?l ?c ?k ?b
      (case a => k_is); (case l => k_is); (case c => k_is); (case k => k_is)
      (case b => exact fun _ _ _ _ _ _ us hl => match us, hl with | [_], _ => rfl)
    case d__law_cell_at =>
      refine' L2.def_mk KX G ?a ?l ?c ?k ?b
      (case a => k_is); (case l => k_is); (case c => k_is); (case k => k_is)
      (case b => exact fun _ _ _ _ _ _ us hl => match us, hl with | [_, _], _ => rfl)
    case d__law_mixed =>
      refine' L2.def_mk KX G ?a ?l ?c ?k ?b
      (case a => k_is); (case l => k_is); (case c => k_is); (case k => k_is)
      (case b => exact fun _ _ _ _ _ _ us hl => match us, hl with | [_, _], _ => rfl)
    case d__law_whole =>
      refine' L2.def_mk KX G ?a ?l ?c ?k ?b
      (case a => k_is); (case l => k_is); (case c => k_is); (case k => k_is)
      (case b => exact fun _ _ _ _ _ _ us hl => match us, hl with | [_], _ => rfl)
    case d__law_same =>
      refine' L2.def_mk KX G ?a ?l ?c ?k ?b
      (case a => k_is); (case l => k_is); (case c => k_is); (case k => k_is)
      (case b => exact fun _ _ _ _ _ _ us hl => match us, hl with | [_, _], _ => rfl)
    case d__law_is =>
      refine' L2.def_mk KX G ?a ?l ?c ?k ?b
      (case a => k_is); (case l => k_is); (case c => k_is); (case k => k_is)
      (case b => exact fun _ _ _ _ _ _ us hl => match us, hl with | [_, _], _ => rfl)
    case d__law_over =>
      refine' L2.def_mk KX G ?a ?l ?c ?k ?b
      (case a => k_is); (case l => k_is); (case c => k_is); (case k => k_is)
      (case b => exact fun _ _ _ _ _ _ us hl => match us, hl with | [_], _ => rfl)
    case d__law_stands =>
      refine' L2.def_mk KX G ?a ?l ?c ?k ?b
      (case a => k_is); (case l => k_is); (case c => k_is); (case k => k_is)
      (case b => exact fun _ _ _ _ _ _ us hl => match us, hl with | [_, _, _], _ => rfl)
    case d__law_job =>
      refine' L2.def_mk KX G ?a ?l ?c ?k ?b
      (case a => k_is); (case l => k_is); (case c => k_is); (case k => k_is)
      (case b => exact fun _ _ _ _ _ _ us hl => match us, hl with | [_, _], _ => rfl)
    case d__law_rest =>
      refine' L2.def_mk KX G ?a ?l ?c ?k ?b
      (case a => k_is); (case l => k_is); (case c => k_is); (case k => k_is)
      (case b => exact fun _ _ _ _ _ _ us hl => match us, hl with | [_, _], _ => rfl)
    case d__law_first =>
      refine' L2.def_mk KX G ?a ?l ?c ?k ?b
      (case a => k_is); (case l => k_is); (case c => k_is); (case k => k_is)
      (case b => exact fun _ _ _ _ _ _ us hl => match us, hl with | [_], _ => rfl)
    case d__law_turn =>
      refine' L2.def_mk KX G ?a ?l ?c ?k ?b
      (case a => k_is); (case l => k_is); (case c => k_is); (case k => k_is)
      (case b => exact fun _ _ _ _ _ _ us hl => match us, hl with | [_], _ => rfl)
    case d__law_stepped =>
      refine' L2.def_mk KX G ?a ?l ?c ?k ?b
      (case a => k_is); (case l => k_is); (case c => k_is); (case k => k_is)
      (case b => exact fun _ _ _ _ _ _ us hl => match us, hl with | [_, _, _, _, _], _ => rfl)
    (case lk => k_is)
    (case ll => k_is)
    (case lc => k_is)
    (case lp => k_is)
    (case b_isinstance => k_is)
    (case b_len => k_is)
    (case b_all => k_is)
    (case b_int => k_is)
    (case b_bool => k_is)
    (case b_str => k_is)
    (case b_list => k_is)
    (case b_range => k_is)
    (case b_zip => k_is)
    (case b_tuple => k_is)
    (case b_set => k_is)
    (case b_sum => k_is)
    (case b_min => k_is)
    (case b_max => k_is)
    (case b_enumerate => k_is)
    (case g_MOST_WAIT => k_is)
    (case g_LETTERS => k_is)
    (case g_MOST_LETTERS => k_is)
    (case g_MOST_NEEDS => k_is)
#print axioms PySem.Challenge.cw_buildhall_k12_states_step_by_step_holds
