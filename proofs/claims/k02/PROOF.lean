import PyProof.Rows.All
import Wide.All
import OpenK.AllK
import Wide.FinOn
import Lean
import PyProof.EqAt
import PyProof.EqKinds
import PyProof.TupleCall
import PyProof.ExcBaseAll.ValueError
import KE.KDictList
import PyProof.WalkInts
import PyProof.SeqI3
import PyProof.Rows.SetFrom
import PyProof.CompUse
import PyProof.ZipIter
import PyProof.ListRange
import PyProof.Rows.SumAny
import PyProof.Rows.SetObj
import PyProof.SetRoads
import KE.KIsAll
import PyProof.AttrMissSeq
import KE.KDictOf
import PyProof.Rows.SortShell
import PyProof.Rows.SortWalk
import KE.KIsNot
import PyProof.ExcArgs
import PyProof.Seq
import PyProof.Rows.TupIter
import PyProof.RulesAs
import PyProof.DictWalks
import PyProof.Rows.FStr
import KE.KEqDict
import KE.KDictSum
import PyProof.StrBlock2
import PySem.Challenge.RW_buildhall_k02_jobs_made
import PyProof.Rows.StrClip
set_option Elab.async false
set_option linter.all false
set_option maxRecDepth 100000
namespace PySem.W.Fast
def tw9055230991795386432 : Unit := ()
def tw9783929319712857216 : Unit := ()
def tw17829445363608989856 : Unit := ()
def tw14971807117047813280 : Unit := ()
def tw15609055867137128736 : Unit := ()
def tw16243154148937336128 : Unit := ()
def tw4035033976732182880 : Unit := ()
def tw13204520745373855072 : Unit := ()
def tw17445748603059420576 : Unit := ()
def tw15197886712272440736 : Unit := ()
def tw12749245454879314464 : Unit := ()
def tw16149015848016829024 : Unit := ()
def tw15647730294361483936 : Unit := ()
def tw11956916703170592416 : Unit := ()
def tw5089853747387105056 : Unit := ()
def tw11912052715675758432 : Unit := ()
def tw15759579973091119040 : Unit := ()
def tw10578605505978823681 : Unit := ()
def tw7921385299047189601 : Unit := ()
def tw10810860976156070049 : Unit := ()
def tw16428520750500065473 : Unit := ()
def tw10012253948250790177 : Unit := ()
def tw15505758646786442561 : Unit := ()
def tw14926390190508036449 : Unit := ()
def tw1135642001159803233 : Unit := ()
def tw10001721283004509665 : Unit := ()
def tw8572465607333917281 : Unit := ()
def tw3814762037233571425 : Unit := ()
def tw4517015368842088065 : Unit := ()
def tw12497436278433620609 : Unit := ()
def tw2639147026712062593 : Unit := ()
def tw10028836290718035681 : Unit := ()
def tw1520518142508812065 : Unit := ()
def tw11440809515997468481 : Unit := ()
def tw10052904819859772289 : Unit := ()
def tw2231873372908700609 : Unit := ()
def tw10009029981429179394 : Unit := ()
def tw13776192354013639682 : Unit := ()
def tw3118546736470016034 : Unit := ()
def tw9113010821533946914 : Unit := ()
def tw13170510344886710370 : Unit := ()
def tw9737269337884802178 : Unit := ()
def tw17232321904054325410 : Unit := ()
def tw5302546731991395490 : Unit := ()
def tw1230711461591491778 : Unit := ()
def tw9087871870978788578 : Unit := ()
def tw5478406943888665954 : Unit := ()
def tw11120274477107231106 : Unit := ()
def tw14141305903564643746 : Unit := ()
def tw3896615322342325698 : Unit := ()
def tw1050947213319716322 : Unit := ()
def tw13712235065324079618 : Unit := ()
def tw11332484945307094530 : Unit := ()
def tw17333786573287919138 : Unit := ()
def tw8538886724620332578 : Unit := ()
def tw357183167208379042 : Unit := ()
def tw5765887071295222466 : Unit := ()
def tw9320307170611974978 : Unit := ()
def tw14849113488143814530 : Unit := ()
def tw13782347947781244834 : Unit := ()
def tw3403315720487498851 : Unit := ()
def tw4027446138943149187 : Unit := ()
def tw12768557654030538883 : Unit := ()
def tw9397080180440821955 : Unit := ()
def tw5997780377737216579 : Unit := ()
def tw14975135613363355235 : Unit := ()
def tw2128275808408968835 : Unit := ()
def tw1187039545115989635 : Unit := ()
def tw15735079043824240419 : Unit := ()
def tw13909216607090529123 : Unit := ()
def tw10381281506632387491 : Unit := ()
def tw8340969187796767651 : Unit := ()
def tw6289419918483290083 : Unit := ()
def tw7221675417755052100 : Unit := ()
def tw917537223236488420 : Unit := ()
def tw15655004086679297252 : Unit := ()
def tw15152925259998973284 : Unit := ()
def tw280026268836672900 : Unit := ()
def tw9980173520118298020 : Unit := ()
def tw10718341238137020868 : Unit := ()
def tw2172405570546167236 : Unit := ()
def tw4732927583034788356 : Unit := ()
def tw1921603298700208932 : Unit := ()
def tw9518163299228950340 : Unit := ()
def tw11214533819177721700 : Unit := ()
def tw16354504991587556260 : Unit := ()
def tw9630746424139363300 : Unit := ()
def tw5749587772684576837 : Unit := ()
def tw17196988853427207237 : Unit := ()
def tw9941577697544019141 : Unit := ()
def tw14920001537494003045 : Unit := ()
def tw8189901910094645861 : Unit := ()
def tw2152462634076008133 : Unit := ()
def tw11354099619104562917 : Unit := ()
def tw2220399406749592293 : Unit := ()
def tw6466433935119167205 : Unit := ()
def tw5130973452018396965 : Unit := ()
def tw17269472993784097669 : Unit := ()
def tw182445479428567013 : Unit := ()
def tw18308038926142264326 : Unit := ()
def tw10656127510816756774 : Unit := ()
def tw7166244533010155590 : Unit := ()
def tw11903907348465966182 : Unit := ()
def tw17659014301910119590 : Unit := ()
def tw3440142967316223270 : Unit := ()
def tw3135253492702768422 : Unit := ()
def tw16981322714886542726 : Unit := ()
def tw1768444204858548806 : Unit := ()
def tw5752145489364337318 : Unit := ()
def tw14647688727370410726 : Unit := ()
def tw17848884118639665894 : Unit := ()
def tw16354717067899521798 : Unit := ()
def tw14625943421852972902 : Unit := ()
def tw5974874025512978310 : Unit := ()
def tw7970319085412339590 : Unit := ()
def tw4607693024549032870 : Unit := ()
def tw4416692152760164262 : Unit := ()
def tw16272243917489734598 : Unit := ()
def tw4457949745066936327 : Unit := ()
def tw9174961133886048295 : Unit := ()
def tw15122828271534954695 : Unit := ()
def tw17983398449586866407 : Unit := ()
def tw1872122783293153575 : Unit := ()
def tw15706809059189233159 : Unit := ()
def tw868761285502244359 : Unit := ()
def tw17452260502340018727 : Unit := ()
def tw11462352280312336935 : Unit := ()
def tw16773537148182605415 : Unit := ()
def tw7973681389989930759 : Unit := ()
def tw9809736493787985671 : Unit := ()
def tw11655869515701338919 : Unit := ()
def tw7405281990114989927 : Unit := ()
def tw7070457748976834503 : Unit := ()
def tw7734304001465062408 : Unit := ()
def tw12513830966875372552 : Unit := ()
def tw14723608442810489992 : Unit := ()
def tw6439906035774073000 : Unit := ()
def tw7777674420663320776 : Unit := ()
def tw16909998091200658632 : Unit := ()
def tw11161893418869761256 : Unit := ()
def tw10672171314451216616 : Unit := ()
def tw16426796567615729064 : Unit := ()
def tw11213398224459830824 : Unit := ()
def tw6789689189026695752 : Unit := ()
def tw10693794398781458056 : Unit := ()
def tw7201150399694160648 : Unit := ()
def tw11263931301317477160 : Unit := ()
def tw7165566856457053992 : Unit := ()
def tw3776451842689720168 : Unit := ()
def tw17615275324657802152 : Unit := ()
def tw442391365939253160 : Unit := ()
def tw4109101022931486664 : Unit := ()
def tw7243247881562601416 : Unit := ()
def tw6540601029523682280 : Unit := ()
def tw7219886034189215753 : Unit := ()
def tw10582792159327503401 : Unit := ()
def tw10942334327961374953 : Unit := ()
def tw15533351390080065769 : Unit := ()
def tw9877163727086021897 : Unit := ()
def tw1071664527216864585 : Unit := ()
def tw4399795282775204201 : Unit := ()
def tw11847185223205593513 : Unit := ()
def tw7334609563830957577 : Unit := ()
def tw2167704178165587497 : Unit := ()
def tw11533407633590624809 : Unit := ()
def tw17565101903864038025 : Unit := ()
def tw4459141382764786377 : Unit := ()
def tw9863693254185131753 : Unit := ()
def tw2024178527397715817 : Unit := ()
def tw11745303273155013642 : Unit := ()
def tw8214186801462251594 : Unit := ()
def tw608075276918216778 : Unit := ()
def tw1944594347722903658 : Unit := ()
def tw5166942892576792746 : Unit := ()
def tw5019178387307036906 : Unit := ()
def tw15211676172201643434 : Unit := ()
def tw2126424017760547274 : Unit := ()
def tw14799554387422652906 : Unit := ()
def tw7166202344444273322 : Unit := ()
def tw4927378102929478378 : Unit := ()
def tw9446163563639920394 : Unit := ()
def tw16944927481844727626 : Unit := ()
def tw4335744006944158570 : Unit := ()
def tw16217123138962746346 : Unit := ()
def tw14373489773348037643 : Unit := ()
def tw2952873951726567499 : Unit := ()
def tw1688011554244080715 : Unit := ()
def tw10371757408122813515 : Unit := ()
def tw5263625440924961931 : Unit := ()
def tw7474392987654541451 : Unit := ()
def tw2083941661311876363 : Unit := ()
def tw1976226603930733899 : Unit := ()
def tw17203664899169515883 : Unit := ()
def tw6180373156766527915 : Unit := ()
def tw18346541424345732523 : Unit := ()
def tw18032623923188070891 : Unit := ()
def tw14819616073933889099 : Unit := ()
def tw11554057933657931339 : Unit := ()
def tw4718533761206611563 : Unit := ()
def tw8875891997994699403 : Unit := ()
def tw5426226428641415883 : Unit := ()
def tw8413949261927456459 : Unit := ()
def tw17178805725312983755 : Unit := ()
def tw17829651390164214603 : Unit := ()
def tw14007104995892790123 : Unit := ()
def tw3851603809111828395 : Unit := ()
def tw9559346874340299755 : Unit := ()
def tw5801277308024620076 : Unit := ()
def tw13542164657237696620 : Unit := ()
def tw3729933001418072204 : Unit := ()
def tw9118922636895991980 : Unit := ()
def tw2829669224912918764 : Unit := ()
def tw16632030580452804876 : Unit := ()
def tw4600128119076418892 : Unit := ()
def tw3721887057322871148 : Unit := ()
def tw3916409166467685772 : Unit := ()
def tw12193072643229012524 : Unit := ()
def tw4287239301779649164 : Unit := ()
def tw9799876161840019116 : Unit := ()
def tw7723622277507821260 : Unit := ()
def tw15654907964265296588 : Unit := ()
def tw12372690757097045772 : Unit := ()
def tw2847529855215453964 : Unit := ()
def tw6633014348139107148 : Unit := ()
def tw11341027261256030124 : Unit := ()
def tw6905549833423249324 : Unit := ()
def tw943872638170089420 : Unit := ()
def tw11985753894182295597 : Unit := ()
def tw16259629080547257453 : Unit := ()
def tw2601905723125021837 : Unit := ()
def tw10132105074600920525 : Unit := ()
def tw3955898032446910989 : Unit := ()
def tw10081276961405294157 : Unit := ()
def tw12270914633159791277 : Unit := ()
def tw121089282393682797 : Unit := ()
def tw13095713724023424877 : Unit := ()
def tw9783493642885335949 : Unit := ()
def tw5294626893912161197 : Unit := ()
def tw7675928073717254093 : Unit := ()
def tw10160828314159653902 : Unit := ()
def tw9512553508863430734 : Unit := ()
def tw18240604183530545262 : Unit := ()
def tw12265522559203896462 : Unit := ()
def tw657711126221741262 : Unit := ()
def tw3023030113318937838 : Unit := ()
def tw5912110632797316366 : Unit := ()
def tw15559346898269634862 : Unit := ()
def tw18200505304189036942 : Unit := ()
def tw7522889578662059438 : Unit := ()
def tw17445741732847988174 : Unit := ()
def tw14679188172353356238 : Unit := ()
def tw14177219059005616622 : Unit := ()
def tw252677521741195822 : Unit := ()
def tw18268082247318232718 : Unit := ()
def tw1886722539115001518 : Unit := ()
def tw8325387447201733454 : Unit := ()
def tw16368576572201765742 : Unit := ()
def tw4148708647327894414 : Unit := ()
def tw4910692567307781102 : Unit := ()
def tw8063162764880764047 : Unit := ()
def tw9074249673444061327 : Unit := ()
def tw12737277851081368751 : Unit := ()
def tw16736506777432289583 : Unit := ()
def tw5388282919710948687 : Unit := ()
def tw7721824711708328303 : Unit := ()
def tw14333553378238123407 : Unit := ()
def tw5741514865797835183 : Unit := ()
def tw5839477018980594127 : Unit := ()
def tw18272596915047636463 : Unit := ()
def tw15818651433977162223 : Unit := ()
def tw16745917528430812687 : Unit := ()
def tw6546664769253876335 : Unit := ()
def tw15929867125743066863 : Unit := ()
def tw4738588830278549295 : Unit := ()
def tw11826673990875277135 : Unit := ()
def tw1842971619061194607 : Unit := ()
def tw310182159435230127 : Unit := ()
def tw10684593516932041679 : Unit := ()
def tw2066466287190178767 : Unit := ()
def tw6456152678877293551 : Unit := ()
def tw15999110967642600496 : Unit := ()
def tw11015740762581265552 : Unit := ()
def tw16432484958063929616 : Unit := ()
def tw1781151894253281584 : Unit := ()
def tw6769806274077795632 : Unit := ()
def tw14115120515956627824 : Unit := ()
def tw2003965717152406928 : Unit := ()
def tw5435963027077135792 : Unit := ()
def tw8425753242895533552 : Unit := ()
def tw728635080327136816 : Unit := ()
def tw2612006095014315568 : Unit := ()
def tw5063511817703739952 : Unit := ()
def tw14798506808663123536 : Unit := ()
def tw15607971909350885008 : Unit := ()
def tw2197262099584721552 : Unit := ()
def tw13303902166643754640 : Unit := ()
def tw1215913765076702896 : Unit := ()
def tw587999697245948848 : Unit := ()
def tw10762103875049947056 : Unit := ()
def tw3959736073568722961 : Unit := ()
def tw1953349791471535185 : Unit := ()
def tw16877814937492489361 : Unit := ()
def tw9560727992599623825 : Unit := ()
def tw15687417645863905489 : Unit := ()
def tw9901056408901179601 : Unit := ()
def tw15280468243603271921 : Unit := ()
def tw15453601916656098577 : Unit := ()
def tw6019023977227785553 : Unit := ()
def tw14498010482203534737 : Unit := ()
def tw17708868036577739153 : Unit := ()
def tw4341340601190884817 : Unit := ()
def tw472188862054447601 : Unit := ()
def tw6226999783607008753 : Unit := ()
def tw16558089146212648465 : Unit := ()
def tw17877923186490198609 : Unit := ()
def tw9421694250098514545 : Unit := ()
def tw855681428447557265 : Unit := ()
def tw10332057184985490129 : Unit := ()
def tw9493289233398415185 : Unit := ()
def tw2304687970821915505 : Unit := ()
def tw13293549070999698450 : Unit := ()
def tw4194321145972842514 : Unit := ()
def tw2832356335345770578 : Unit := ()
def tw13913416419131794674 : Unit := ()
def tw12057137147965678866 : Unit := ()
def tw15070799316366772594 : Unit := ()
def tw1114314885832376786 : Unit := ()
def tw3936623088610354674 : Unit := ()
def tw1578995257990302194 : Unit := ()
def tw3153726328683165170 : Unit := ()
def tw4887545993394759218 : Unit := ()
def tw17884549645690543698 : Unit := ()
def tw341595305158635090 : Unit := ()
def tw4851073956851939922 : Unit := ()
def tw2453362976283492978 : Unit := ()
def tw32064890174126802 : Unit := ()
def tw1110370765428667218 : Unit := ()
def tw9888637165364969394 : Unit := ()
def tw18382619773918757874 : Unit := ()
def tw4825281823606215699 : Unit := ()
def tw6581519495677273107 : Unit := ()
def tw10888628205834199091 : Unit := ()
def tw6457726001430989907 : Unit := ()
def tw15785873950926775731 : Unit := ()
def tw4082159458436233779 : Unit := ()
def tw2719251494400750163 : Unit := ()
def tw15130660301122739859 : Unit := ()
def tw785818814798429843 : Unit := ()
def tw11037972465374147411 : Unit := ()
def tw11716891739366001619 : Unit := ()
def tw9340101428473476051 : Unit := ()
def tw2631634817632952307 : Unit := ()
def tw6621583497794303028 : Unit := ()
def tw18431327278165686484 : Unit := ()
def tw1387912235718205684 : Unit := ()
def tw9481756618201925012 : Unit := ()
def tw17966471817505377908 : Unit := ()
def tw3304589306311984820 : Unit := ()
def tw18146423391896514260 : Unit := ()
def tw4267907501431067476 : Unit := ()
def tw9195542867022073684 : Unit := ()
def tw11147131487541258100 : Unit := ()
def tw15999168040129726356 : Unit := ()
def tw17770924430071041940 : Unit := ()
def tw9565659019515559828 : Unit := ()
def tw5833981303693897652 : Unit := ()
def tw15346175603292903412 : Unit := ()
def tw8705273404056269812 : Unit := ()
def tw11760508512827405397 : Unit := ()
def tw5399475091871430773 : Unit := ()
def tw11765721678481080501 : Unit := ()
def tw12495262020555239669 : Unit := ()
def tw7502026954127236405 : Unit := ()
def tw16158583459102840277 : Unit := ()
def tw11631002296377168373 : Unit := ()
def tw1449551393036941877 : Unit := ()
def tw11911164164913271381 : Unit := ()
def tw5561977434480195189 : Unit := ()
def tw6027395513959404245 : Unit := ()
def tw4479093883741659861 : Unit := ()
def tw8018332133527349013 : Unit := ()
def tw3239043855728947029 : Unit := ()
def tw5934447074082686869 : Unit := ()
def tw12776453561324107701 : Unit := ()
def tw7204613875682311093 : Unit := ()
def tw2020811438774453237 : Unit := ()
def tw11570234546154348533 : Unit := ()
def tw12605725424114079862 : Unit := ()
def tw14551001216431587542 : Unit := ()
def tw13709017813097511126 : Unit := ()
def tw8541054705243964758 : Unit := ()
def tw15652640320107507094 : Unit := ()
def tw18284907923703593366 : Unit := ()
def tw11154148182244164054 : Unit := ()
def tw3056944098608034262 : Unit := ()
def tw12918934486404414966 : Unit := ()
def tw7614856416382700086 : Unit := ()
def tw15135177933306814038 : Unit := ()
def tw1007166607915735670 : Unit := ()
def tw13725068332354288278 : Unit := ()
def tw16539637011481769686 : Unit := ()
def tw9786727783250777814 : Unit := ()
def tw17959646970928595702 : Unit := ()
def tw8175676231176926966 : Unit := ()
def tw8300981246415545238 : Unit := ()
def tw14256136326525091798 : Unit := ()
def tw11317844443360870390 : Unit := ()
def tw13698483023297766455 : Unit := ()
def tw17342329809047622743 : Unit := ()
def tw3387960571955835991 : Unit := ()
def tw1049055172483816599 : Unit := ()
def tw15764356867067158711 : Unit := ()
def tw8267117455611952343 : Unit := ()
def tw332158179165070583 : Unit := ()
def tw1478755997526221207 : Unit := ()
def tw14772903854481241495 : Unit := ()
def tw12740967295504743831 : Unit := ()
def tw12154632715797399991 : Unit := ()
def tw16179780842694948279 : Unit := ()
def tw9008347812625694135 : Unit := ()
def tw1134939988855620087 : Unit := ()
def tw12277138242181543447 : Unit := ()
def tw3736506364273629751 : Unit := ()
def tw15386829520942045751 : Unit := ()
def tw2491494692226903607 : Unit := ()
def tw7028277378632221303 : Unit := ()
def tw16020153486424774263 : Unit := ()
def tw9627631739111826039 : Unit := ()
def tw15386244274686152375 : Unit := ()
def tw16474552730535294647 : Unit := ()
def tw6272415318149262039 : Unit := ()
def tw6847723465293496023 : Unit := ()
def tw15044690609998569271 : Unit := ()
def tw7725798975742011223 : Unit := ()
def tw2917633459178041175 : Unit := ()
def tw16164607993080657815 : Unit := ()
def tw14768722835619768215 : Unit := ()
def tw16084759424469735448 : Unit := ()
def tw3646464586596365336 : Unit := ()
def tw15289199742691922104 : Unit := ()
def tw7210463505865072856 : Unit := ()
def tw10889417407220851032 : Unit := ()
def tw7718122075749971384 : Unit := ()
def tw17035381408517693976 : Unit := ()
def tw5767000504436651576 : Unit := ()
def tw1780623077278042904 : Unit := ()
def tw15263198945308353336 : Unit := ()
def tw13558180815876112441 : Unit := ()
def tw940362516988395609 : Unit := ()
def tw5179717124746164345 : Unit := ()
def tw7529864976654899385 : Unit := ()
def tw16988901283587955993 : Unit := ()
def tw17937994457459404121 : Unit := ()
def tw6498452479576277369 : Unit := ()
def tw14228016407965009273 : Unit := ()
def tw15655588630977441145 : Unit := ()
def tw12306314654341150105 : Unit := ()
def tw7900969288056036921 : Unit := ()
def tw8742595900804519513 : Unit := ()
def tw3619657721657568921 : Unit := ()
def tw3956607805335014137 : Unit := ()
def tw7736318375837995034 : Unit := ()
def tw4883442790772725786 : Unit := ()
def tw1683845178853756986 : Unit := ()
def tw14441325606583460922 : Unit := ()
def tw1340461759620569178 : Unit := ()
def tw14079592131819981978 : Unit := ()
def tw12838138041749857690 : Unit := ()
def tw1034498776179268026 : Unit := ()
def tw10922829047531884058 : Unit := ()
def tw15608645315020942874 : Unit := ()
def tw12347390555686881882 : Unit := ()
def tw17719956886417921658 : Unit := ()
def tw199656059450652378 : Unit := ()
def tw17698921308170713914 : Unit := ()
def tw2670587496783622042 : Unit := ()
def tw12463287624465361850 : Unit := ()
def tw14803905457187003515 : Unit := ()
def tw7585046726476366011 : Unit := ()
def tw9774789856730830011 : Unit := ()
def tw15951771045114985819 : Unit := ()
def tw6515468661912001979 : Unit := ()
def tw13204899690764249787 : Unit := ()
def tw10085797778024231611 : Unit := ()
def tw4888076228944677595 : Unit := ()
def tw4884168844725683963 : Unit := ()
def tw1837794589707094811 : Unit := ()
def tw14741003066235190075 : Unit := ()
def tw7692041490048758812 : Unit := ()
def tw15916615974314033212 : Unit := ()
def tw17074321336427488348 : Unit := ()
def tw8145992738262934652 : Unit := ()
def tw10300128256434910396 : Unit := ()
def tw2257184630008334684 : Unit := ()
def tw9875025058099695036 : Unit := ()
def tw17384733544149366300 : Unit := ()
def tw10945672949550069276 : Unit := ()
def tw15362172168327555644 : Unit := ()
def tw1896850854880377404 : Unit := ()
def tw5361792517095213756 : Unit := ()
def tw17017237083569267516 : Unit := ()
def tw4639348190684149564 : Unit := ()
def tw64907399402732380 : Unit := ()
def tw15925567007668031324 : Unit := ()
def tw3985017913039218556 : Unit := ()
def tw13417324143735669821 : Unit := ()
def tw1253834615579086941 : Unit := ()
def tw12496851045841097085 : Unit := ()
def tw2055109499006137757 : Unit := ()
def tw6923908870732882429 : Unit := ()
def tw14080971115727204861 : Unit := ()
def tw14406321178007823005 : Unit := ()
def tw14740984409199968029 : Unit := ()
def tw11402582472270648157 : Unit := ()
def tw3345464618983325661 : Unit := ()
def tw7761263321751103485 : Unit := ()
def tw3197537445432195102 : Unit := ()
def tw14875966830207663166 : Unit := ()
def tw4382075685905356926 : Unit := ()
def tw6536618924288830622 : Unit := ()
def tw186939663756722366 : Unit := ()
def tw189332371010473150 : Unit := ()
def tw3505262856969054526 : Unit := ()
def tw22871296923829662 : Unit := ()
def tw6500478775911157150 : Unit := ()
def tw13934024891817258398 : Unit := ()
def tw7698811438279433694 : Unit := ()
def tw18162397646496705054 : Unit := ()
def tw6046716422288552478 : Unit := ()
def tw6458535786493499134 : Unit := ()
def tw5338939186475873054 : Unit := ()
def tw18359235599719240606 : Unit := ()
def tw10216327206477862814 : Unit := ()
def tw12760140576356801438 : Unit := ()
def tw17000199275882664958 : Unit := ()
def tw17365528188871009278 : Unit := ()
def tw14459338674486873151 : Unit := ()
def tw2438166534135794751 : Unit := ()
def tw1434936847199063135 : Unit := ()
def tw6671442999228226719 : Unit := ()
def tw10569256369123905791 : Unit := ()
def tw2031755284777302271 : Unit := ()
def tw11718671276984915231 : Unit := ()
def tw2403122412710422847 : Unit := ()
def tw13238295320510626175 : Unit := ()
def tw11519263861608734143 : Unit := ()
def tw16314256295326596607 : Unit := ()
def tw7017677690891776575 : Unit := ()
def tw1787710744560226911 : Unit := ()
def tw7676728228264820383 : Unit := ()
def tw10228561673451301567 : Unit := ()
def tw587299655415952063 : Unit := ()
def tw2617464318454205215 : Unit := ()
def tw8537451644304007967 : Unit := ()
def tw1960919759702084383 : Unit := ()
def tw18002890842257146815 : Unit := ()
def tw12850255542574984159 : Unit := ()
end PySem.W.Fast
set_option Elab.async false
set_option linter.all false
set_option maxRecDepth 100000
/-! THE HAND LAYER, for ints, bools, texts, own classes, LISTS and tuples (index, slices, in, append, pop ..), calls, loops. Paste it whole ahead of your own text; what your proof does not reach may be deleted. -/
namespace L2
open PySem PySem.Spec PyProof.Rows

/-- a key: an int or a str -/
abbrev Key := Sum Int Str
def keyIs : Key → Value → Bool
  | .inl k, v => Value.isInt k v
  | .inr x, v => Value.isStrOf x v
def keyH (w : World) : Key → Int
  | .inl k => hashInt k
  | .inr x => hashStr w x
theorem keyIs_shape : ∀ {k : Key} {v : Value}, keyIs k v = true → (∃ i t, k = Sum.inl i ∧ v = Value.int i t) ∨ (∃ x t, k = Sum.inr x ∧ v = Value.str x t)
  | .inl i, v, h => by
    obtain ⟨t, e⟩ := Value.isInt_shape (k := i) (v := v) h
    exact .inl ⟨i, t, rfl, e⟩
  | .inr x, v, h => by
    obtain ⟨t, e⟩ := Value.isStrOf_shape (x := x) (v := v) h
    exact .inr ⟨x, t, rfl, e⟩
theorem keyIs_int (i : Int) (t : Tok) : keyIs (.inl i) (.int i t) = true := by simp [keyIs, Value.isInt]
theorem keyIs_str (x : Str) (t : Tok) : keyIs (.inr x) (.str x t) = true := by simp [keyIs, Value.isStrOf]
theorem key_ll (a b : Int) : decide ((Sum.inl a : Key) = Sum.inl b) = (a == b) := by
  by_cases e : a = b
  · subst e; simp
  · have h : ¬ (Sum.inl a : Key) = Sum.inl b := fun q => e (Sum.inl.inj q)
    rw [decide_eq_false h]
    exact (beq_eq_false_iff_ne.mpr e).symm
theorem key_rr (a b : Str) : decide ((Sum.inr a : Key) = Sum.inr b) = decide (a = b) := by
  by_cases e : a = b
  · subst e; simp
  · have h : ¬ (Sum.inr a : Key) = Sum.inr b := fun q => e (Sum.inr.inj q)
    rw [decide_eq_false h, decide_eq_false e]
theorem key_lr (a : Int) (b : Str) : decide ((Sum.inl a : Key) = Sum.inr b) = false := decide_eq_false (fun q => nomatch q)
theorem key_rl (a : Str) (b : Int) : decide ((Sum.inr a : Key) = Sum.inl b) = false := decide_eq_false (fun q => nomatch q)

def mixKind (prog : Program) (w : World) : PySem.KeyKind prog w Key where
  is := keyIs
  hash := keyH w
  inj := fun v a b ha hb => by
    rcases keyIs_shape ha with ⟨i, t, rfl, rfl⟩ | ⟨x, t, rfl, rfl⟩
    · rcases keyIs_shape hb with ⟨j, u, rfl, e⟩ | ⟨y, u, rfl, e⟩
      · injection e with e1 _; rw [e1]
      · exact nomatch e
    · rcases keyIs_shape hb with ⟨j, u, rfl, e⟩ | ⟨y, u, rfl, e⟩
      · exact nomatch e
      · injection e with e1 _; rw [e1]
  byValue := fun k v h => by
    rcases keyIs_shape h with ⟨i, t, rfl, rfl⟩ | ⟨x, t, rfl, rfl⟩ <;> rfl
  pyHash := fun hv h => by
    rcases keyIs_shape hv with ⟨i, t, rfl, rfl⟩ | ⟨x, t, rfl, rfl⟩
    · exact wpAny_pyHash_int h
    · exact wpAny_pyHash_str h
  eqBool := fun hu hv h => by
    rcases keyIs_shape hu with ⟨i, t, rfl, rfl⟩ | ⟨x, t, rfl, rfl⟩
    · rcases keyIs_shape hv with ⟨j, u, rfl, rfl⟩ | ⟨y, u, rfl, rfl⟩
      · rw [key_ll] at h; exact wpAny_eqBool_int h
      · rw [key_lr] at h; exact SeqAt.EqAt.int_str i t y u _ _ _ _ h
    · rcases keyIs_shape hv with ⟨j, u, rfl, rfl⟩ | ⟨y, u, rfl, rfl⟩
      · rw [key_rl] at h; exact SeqAt.EqAt.str_int x t j u _ _ _ _ h
      · rw [key_rr] at h; exact wpAny_eqBool_str h
  «strs» := fun k x t v h => by
    rcases keyIs_shape h with ⟨i, u, rfl, e⟩ | ⟨y, u, rfl, e⟩
    · exact nomatch e
    · injection e with e1 _
      subst e1
      cases v <;> rfl

theorem mixKind_int (prog : Program) (w : World) (i : Int) (t : Tok) : (mixKind prog w).is (.inl i) (.int i t) = true := keyIs_int i t
theorem mixKind_str (prog : Program) (w : World) (x : Str) (t : Tok) : (mixKind prog w).is (.inr x) (.str x t) = true := keyIs_str x t
end L2

namespace L2
open PySem PySem.Spec PyProof.Rows

/-- a value, without the heap -/
inductive V where
  | non | bl (b : Bool) | int (i : Int) | str (x : Str) | byt (b : Array UInt8) | flt (b : UInt64) | ref (a : Addr) | ty (n : String)
  deriving DecidableEq

def RelV : V → Value → Prop
  | .non, u => u = Value.none
  | .bl b, u => u = Value.bool b
  | .int i, u => ∃ t, u = Value.int i t
  | .str x, u => ∃ t, u = Value.str x t
  | .byt b, u => ∃ t, u = Value.bytes b t
  | .flt b, u => ∃ t, u = Value.float b t
  | .ref a, u => u = Value.ref a
  | .ty n, u => u = Value.type n

abbrev Vals : List V → List Value → Prop := Paired RelV
theorem Vals.length {xs : List V} {us : List Value} (r : Vals xs us) : xs.length = us.length := Paired.length r
theorem Vals.get : ∀ {xs : List V} {us : List Value} {i : Nat} {x : V}, Vals xs us → xs[i]? = some x → ∃ u, us[i]? = some u ∧ RelV x u
  | _, _, _, _, .nil, e => by simp at e
  | _, _, 0, _, .cons r _, e => by simp at e; subst e; exact ⟨_, rfl, r⟩
  | _, _, i + 1, x, .cons _ t, e => by
    obtain ⟨u, h1, h2⟩ := Vals.get (i := i) (x := x) t (by simpa using e)
    exact ⟨u, by simpa using h1, h2⟩
theorem Vals.set {x : V} {u : Value} (r : RelV x u) : ∀ {xs : List V} {us : List Value} (i : Nat), Vals xs us → Vals (xs.set i x) (us.set i u)
  | _, _, _, .nil => .nil
  | _, _, 0, .cons _ t => .cons r t
  | _, _, i + 1, .cons q t => .cons q (Vals.set r i t)
theorem Vals.append : ∀ {xs ys : List V} {us ws : List Value}, Vals xs us → Vals ys ws → Vals (xs ++ ys) (us ++ ws)
  | _, _, _, _, .nil, s => s
  | _, _, _, _, .cons r t, s => .cons r (Vals.append t s)
theorem Vals.take : ∀ {xs : List V} {us : List Value} (n : Nat), Vals xs us → Vals (xs.take n) (us.take n)
  | _, _, 0, _ => .nil
  | _, _, _ + 1, .nil => .nil
  | _, _, n + 1, .cons r t => .cons r (Vals.take n t)
theorem Vals.drop : ∀ {xs : List V} {us : List Value} (n : Nat), Vals xs us → Vals (xs.drop n) (us.drop n)
  | _, _, 0, r => r
  | _, _, _ + 1, .nil => .nil
  | _, _, n + 1, .cons _ t => Vals.drop n t

def RelO : Option V → Option Value → Prop
  | some v, some u => RelV v u
  | none, none => True
  | _, _ => False
def KV {κ : Type} : List (κ × V) → List (κ × Value) → Prop := Paired fun (p : κ × V) (q : κ × Value) => p.1 = q.1 ∧ RelV p.2 q.2

/-- a key of a dict (00_mix): an int or a text -/
def kV : Key → V
  | .inl i => .int i
  | .inr x => .str x

/-- what stands at a tracked address -/
inductive HO where
  /-- a list -/
  | lst (xs : List V)
  /-- a tuple (never changes) -/
  | tup (xs : List V)
  /-- a dict whose keys are ints and texts; one whose keys are tuples of ints and texts (the empty one is both) -/
  | dK (kvs : List (Key × V)) | dT (kvs : List (List Key × V))
  /-- a set of ints: its members, its size -/
  | set (S : Int → Bool) (n : Nat)
  /-- an instance of the class at C, its dict at dx, its attributes -/
  | ins (C dx : Addr) (fs : List (Str × V))
  /-- the dict of the instance at x -/
  | own (x : Addr)
  /-- the dict of an exception -/
  | xd (fs : List (Str × V))
  /-- a bound method, f of x -/
  | met (f x : Addr)
  /-- a range object lo, lo + 1, .. below hi -/
  | rng (lo hi : Int)
  /-- a thing that is known to the object (the script; a dict while a loop walks it): read, never written while it is so -/
  | frz (o : Obj) (u : HO)
  /-- a code object's table -/
  | tbl (ps : Array Value)
  /-- any other thing, by what is true of its one object (a def of one's own: SetO a S n := HO.ext fun h => ..) -/
  | ext (φ : Heap → Prop)

abbrev Hp := Addr → Option HO
def upd (H : Hp) (a : Addr) (o : HO) : Hp := fun b => if b = a then some o else H b
theorem upd_same {H : Hp} {a : Addr} {o : HO} : upd H a o a = some o := by unfold upd; rw [if_pos rfl]
theorem upd_ne {H : Hp} {a b : Addr} {o : HO} (h : b ≠ a) : upd H a o b = H b := by unfold upd; rw [if_neg h]
theorem ne_of_none {H : Hp} {a b : Addr} {o : HO} (h : H a = some o) (h' : H b = none) : a ≠ b := by
  intro e; subst e; rw [h] at h'; cases h'

section
variable (P : Program) (w : World)
def ObjOk (H : Hp) (h : Heap) (a : Addr) : HO → Prop
  | .lst xs => xs.length ≤ sizeLine ∧ ∃ (its : List Value) (n : Nat), Vals xs its ∧ h.get? a = some { cls := .type "list", data := .seq its.toArray n }
  | .tup xs => xs.length ≤ sizeLine ∧ ∃ its : List Value, Vals xs its ∧ IsTup h a its.toArray
  | .dK kvs => kvs.length ≤ sizeLine ∧ (a == sysModules) = false ∧ ∃ vs, KV kvs vs ∧ h.DictOf (mixKind P w) a vs
  | .dT kvs => kvs.length ≤ sizeLine ∧ (a == sysModules) = false ∧ ∃ xs : List (List Key × Addr × Value),
      Paired (fun (p : List Key × V) (q : List Key × Addr × Value) => p.1 = q.1 ∧ H q.2.1 = some (.tup (p.1.map kV)) ∧ RelV p.2 q.2.2) kvs xs ∧
      ∃ o es ep, h.get? a = some o ∧ o.ExactDict ∧ o.data = .dict es ep ∧ es.toList = xs.map (entryOfKey (tupleKind (mixKind P w))) ∧ (xs.map (·.1)).Nodup
  | .set S n => h.SetOf (intKind P w) a S n
  | .ins C dx fs => H dx = some (.own a) ∧ fs.length ≤ 1000 ∧ dx ≠ a ∧ h.get? a = some (PySem.W.instObj C dx) ∧
      ∃ mA, h.Ns1 dx mA ∧ (∀ f, RelO (fs.lookup f) (mA f)) ∧ PySem.Within mA (fs.map (·.1))
  | .own _ => ∃ o, h.get? a = some o
  | .xd fs => ∃ mA, h.Ns1 a mA ∧ ∀ f, RelO (fs.lookup f) (mA f)
  | .rng lo hi => ∃ t u v, h.get? a = some { cls := .type "range", data := .fields #[.int lo t, .int hi u, .int 1 v] }
  | .frz o u => h.get? a = some o ∧ ObjOk H h a u
  | .tbl ps => h.get? a = some { cls := .none, data := .fields ps }
  | .met f x => h.get? a = some (PySem.W.methodObj (.ref f) (.ref x))
  | .ext φ => φ h ∧ (∃ o, h.get? a = some o) ∧ ∀ h1 h2 : Heap, φ h1 → (∀ o, h1.get? a = some o → h2.get? a = some o) → φ h2
/-- the abstract heap is held -/
def HOk (H : Hp) (h : Heap) : Prop := ∀ a o, H a = some o → ObjOk P w H h a o
end

section
variable {P : Program} {w : World} {H H' : Hp} {h h' : Heap} {a : Addr} {o : HO}
theorem ObjOk.lt (x : ObjOk P w H h a o) : a < h.objs.size := by
  cases o with
  | lst xs => obtain ⟨_, _, _, _, e⟩ := x; exact Heap.lt_size e
  | tup xs => obtain ⟨_, _, _, p⟩ := x; exact p.lt
  | dK kvs => obtain ⟨_, _, _, _, o, _, _, e, _⟩ := x; exact Heap.lt_size e
  | dT kvs => obtain ⟨_, _, _, _, o, _, _, e, _⟩ := x; exact Heap.lt_size e
  | set S n => obtain ⟨o, _, _, _, e, _⟩ := x; exact Heap.lt_size e
  | ins C dx fs => obtain ⟨_, _, _, e, _⟩ := x; exact Heap.lt_size e
  | own y => obtain ⟨_, e⟩ := x; exact Heap.lt_size e
  | xd fs => obtain ⟨_, ⟨_, _, _, e, _⟩, _⟩ := x; exact Heap.lt_size e
  | rng lo hi => obtain ⟨_, _, _, e⟩ := x; exact Heap.lt_size e
  | frz ob u => obtain ⟨e, _⟩ := x; exact Heap.lt_size e
  | tbl ps => exact Heap.lt_size (show h.get? a = some _ from x)
  | met f y => exact Heap.lt_size (show h.get? a = some _ from x)
  | ext φ => obtain ⟨_, ⟨_, e⟩, _⟩ := x; exact Heap.lt_size e
theorem Paired.mapP {α β : Type} {F G : α → β → Prop} : ∀ {l₁ : List α} {l₂ : List β}, Paired F l₁ l₂ → (∀ a b, F a b → G a b) → Paired G l₁ l₂
  | _, _, .nil, _ => .nil
  | _, _, .cons r t, f => .cons (f _ _ r) (Paired.mapP t f)
/-- what an object's description leans on: its own object, its own dict, the tuples -/
theorem ObjOk.stay (x : ObjOk P w H h a o) (k : ∀ b u, (b = a ∨ H b = some (.own a)) → h.get? b = some u → h'.get? b = some u)
    (ho : ∀ b, H b = some (.own a) → H' b = some (.own a)) (ht : ∀ b xs, H b = some (.tup xs) → H' b = some (.tup xs)) : ObjOk P w H' h' a o := by
  induction o with
  | lst xs => obtain ⟨z, its, n, r, e⟩ := x; exact ⟨z, its, n, r, k _ _ (.inl rfl) e⟩
  | tup xs => obtain ⟨z, its, r, ob, e, c⟩ := x; exact ⟨z, its, r, ob, k _ _ (.inl rfl) e, c⟩
  | dK kvs => obtain ⟨z, y, vs, r, ob, es, ep, e, c⟩ := x; exact ⟨z, y, vs, r, ob, es, ep, k _ _ (.inl rfl) e, c⟩
  | dT kvs =>
    obtain ⟨z, y, xs, r, ob, es, ep, e, c⟩ := x
    exact ⟨z, y, xs, Paired.mapP r fun p q z => ⟨z.1, ht _ _ z.2.1, z.2.2⟩, ob, es, ep, k _ _ (.inl rfl) e, c⟩
  | set S n => obtain ⟨ob, es, ep, t, e, c⟩ := x; exact ⟨ob, es, ep, t, k _ _ (.inl rfl) e, c⟩
  | ins C dx fs =>
    obtain ⟨d, z, ne, e, mA, ⟨od, es, ep, e2, c⟩, r⟩ := x
    exact ⟨ho _ d, z, ne, k _ _ (.inl rfl) e, mA, ⟨od, es, ep, k _ _ (.inr d) e2, c⟩, r⟩
  | own y => obtain ⟨ob, e⟩ := x; exact ⟨ob, k _ _ (.inl rfl) e⟩
  | xd fs => obtain ⟨mA, ⟨od, es, ep, e, c⟩, r⟩ := x; exact ⟨mA, ⟨od, es, ep, k _ _ (.inl rfl) e, c⟩, r⟩
  | rng lo hi => obtain ⟨t, u, v, e⟩ := x; exact ⟨t, u, v, k _ _ (.inl rfl) e⟩
  | frz ob u ih => obtain ⟨e, q⟩ := x; exact ⟨k _ _ (.inl rfl) e, ih q⟩
  | tbl ps =>
    have e : h.get? a = some { cls := .none, data := .fields ps } := x
    show h'.get? a = some { cls := .none, data := .fields ps }
    exact k a _ (.inl rfl) e
  | met f y =>
    have e : h.get? a = some (PySem.W.methodObj (.ref f) (.ref y)) := x
    show h'.get? a = some (PySem.W.methodObj (.ref f) (.ref y))
    exact k a _ (.inl rfl) e
  | ext φ => obtain ⟨p, ⟨o, e⟩, st⟩ := x; exact ⟨st _ _ p fun o q => k _ _ (.inl rfl) q, ⟨o, k _ _ (.inl rfl) e⟩, st⟩
theorem HOk.lt (x : HOk P w H h) (e : H a = some o) : a < h.objs.size := (x a o e).lt
theorem HOk.fresh (x : HOk P w H h) (e : h.objs.size ≤ a) : H a = none := by
  cases q : H a with
  | none => rfl
  | some u => exact absurd (Nat.lt_of_lt_of_le (x.lt q) e) (Nat.lt_irrefl _)
/-- every object of the heap is kept -/
theorem HOk.kept (x : HOk P w H h) (k : ∀ b u, h.get? b = some u → h'.get? b = some u) : HOk P w H h' := fun a o e =>
  (x a o e).stay (fun b u _ q => k b u q) (fun _ q => q) fun _ _ q => q
/-- a new object is laid and tracked -/
theorem HOk.laid (x : HOk P w H h) (k : ∀ b u, h.get? b = some u → h'.get? b = some u) (hp : h.objs.size ≤ a) (new : ObjOk P w (upd H a o) h' a o) : HOk P w (upd H a o) h' := fun b u e => by
  have hn := x.fresh hp
  by_cases hb : b = a
  · subst hb; rw [upd_same] at e; cases e; exact new
  · rw [upd_ne hb] at e
    exact (x b u e).stay (fun c v _ q => k c v q) (fun c q => by rw [upd_ne (ne_of_none q hn)]; exact q) fun c xs q => by rw [upd_ne (ne_of_none q hn)]; exact q
end

/-- what may be read as u: it is u, or a known u -/
def Rd (H : Hp) (a : Addr) (u : HO) : Prop := H a = some u ∨ ∃ o, H a = some (.frz o u)
theorem Rd.ok {P : Program} {w : World} {H : Hp} {h : Heap} {a : Addr} {u : HO} (r : Rd H a u) (x : HOk P w H h) : ObjOk P w H h a u := by
  rcases r with r | ⟨o, r⟩
  · exact x a u r
  · obtain ⟨_, q⟩ := x a _ r
    exact q
/-- what may be written -/
def Mut : Option HO → Prop
  | some (.lst _) => True
  | some (.dK _) => True
  | some (.dT _) => True
  | some (.set _ _) => True
  | some (.ins _ _ _) => True
  | some (.ext _) => True
  | _ => False
section
variable {P : Program} {w : World} {H : Hp} {h h' : Heap} {x e : Addr} {o' : HO}
/-- the object at e is changed: x itself, or the dict of the instance x -/
theorem HOk.write (ok : HOk P w H h) (mu : Mut (H x)) (he : e = x ∨ H e = some (.own x)) (k : ∀ b u, b ≠ e → h.get? b = some u → h'.get? b = some u) (heo : ∃ u, h'.get? e = some u)
    (new : ObjOk P w (upd H x o') h' x o') : HOk P w (upd H x o') h' := fun b u q => by
  have nown : ∀ c y, H c = some (.own y) → c ≠ x := fun c y r z => by subst z; rw [r] at mu; exact mu
  have ntup : ∀ c xs, H c = some (.tup xs) → c ≠ x := fun c xs r z => by subst z; rw [r] at mu; exact mu
  by_cases hb : b = x
  · subst hb; rw [upd_same] at q; cases q; exact new
  · rw [upd_ne hb] at q
    by_cases hbe : b = e
    · have q' : H b = some (.own x) := by
        rcases he with z | z
        · exact absurd (hbe.trans z) hb
        · rw [hbe]; exact z
      rw [q] at q'; cases q'
      obtain ⟨v, hv⟩ := heo
      exact ⟨v, by rw [hbe]; exact hv⟩
    · refine (ok b u q).stay (fun c v hc r => k c v ?_ r) (fun c r => by rw [upd_ne (nown c b r)]; exact r) fun c xs r => by rw [upd_ne (ntup c xs r)]; exact r
      rcases hc with rfl | hc
      · exact hbe
      · rintro rfl
        rcases he with z | z
        · exact nown c b hc z
        · rw [hc] at z; cases z; exact hb rfl
end

/-! ### kept unless tracked; of the frames at fs (the callers') the slots may change (an exception that passes writes there); of the records at ex (iterators) nothing is said -/
structure Un (fs ex : List Addr) (H H' : Hp) (h h' : Heap) : Prop where
  keep : ∀ b o, h.get? b = some o → H b = none → b ∉ fs → b ∉ ex → h'.get? b = some o
  slot : ∀ b o, h.get? b = some o → H b = none → b ∈ fs → b ∉ ex → ∃ sl, h'.get? b = some { o with slots := sl }
  free : ∀ b o, h.get? b = some o → H b = none → b ∉ ex → H' b = none
  there : ∀ b o, h.get? b = some o → b ∉ ex → ∃ o', h'.get? b = some o'
  tups : ∀ b xs, H b = some (.tup xs) → H' b = some (.tup xs)
  frzs : ∀ b o u, H b = some (.frz o u) → H' b = some (.frz o u)
  tbls : ∀ b ps, H b = some (.tbl ps) → ∃ more, H' b = some (.tbl (ps ++ more))
section
variable {fs fs' ex ex' : List Addr} {H H1 H2 : Hp} {h h1 h2 h' : Heap} {a x e : Addr} {o : HO}
theorem Un.any (u : Un fs ex H H1 h h1) {b : Addr} {ob : Obj} (q : h.get? b = some ob) (n : H b = none) (hx : b ∉ ex) : ∃ sl, h1.get? b = some { ob with slots := sl } := by
  by_cases hb : b ∈ fs
  · exact u.slot b ob q n hb hx
  · exact ⟨ob.slots, u.keep b ob q n hb hx⟩
theorem Un.kept (k : ∀ b u, h.get? b = some u → h'.get? b = some u) : Un fs ex H H h h' :=
  ⟨fun b ob q _ _ _ => k b ob q, fun b ob q _ _ _ => ⟨ob.slots, k b ob q⟩, fun _ _ _ n _ => n, fun b ob q _ => ⟨ob, k b ob q⟩, fun _ _ q => q, fun _ _ _ q => q, fun _ ps q => ⟨#[], by rw [q]; simp⟩⟩
theorem Un.refl : Un fs ex H H h h := Un.kept fun _ _ q => q
theorem Un.laid (k : ∀ b u, h.get? b = some u → h'.get? b = some u) (hp : h.objs.size ≤ a) (hn : H a = none) : Un fs ex H (upd H a o) h h' where
  keep := fun b u q _ _ _ => k b u q
  slot := fun b u q _ _ _ => ⟨u.slots, k b u q⟩
  free := fun b u q n _ => by rw [upd_ne (Nat.ne_of_lt (Nat.lt_of_lt_of_le (Heap.lt_size q) hp))]; exact n
  there := fun b u q _ => ⟨u, k b u q⟩
  tups := fun b xs q => by rw [upd_ne (ne_of_none q hn)]; exact q
  frzs := fun b u xs q => by rw [upd_ne (ne_of_none q hn)]; exact q
  tbls := fun b ps q => ⟨#[], by rw [upd_ne (ne_of_none q hn), q]; simp⟩
theorem Un.write (mu : Mut (H x)) (he : e = x ∨ H e = some (.own x)) (k : ∀ b u, b ≠ e → h.get? b = some u → h'.get? b = some u) (heo : ∃ u, h'.get? e = some u) : Un fs ex H (upd H x o) h h' := by
  have hx : ∀ b, H b = none → b ≠ x := fun b n z => by subst z; rw [n] at mu; exact mu
  have hb : ∀ b, H b = none → b ≠ e := fun b n z => by
    subst z
    rcases he with r | r
    · exact hx b n r
    · rw [n] at r; cases r
  have hm : ∀ b u, H b = some u → ¬ Mut (some u) → b ≠ x := fun b u q nm z => by subst z; rw [q] at mu; exact nm mu
  refine ⟨fun b u q n _ _ => k b u (hb b n) q, fun b u q n _ _ => ⟨u.slots, k b u (hb b n) q⟩, fun b u q n _ => by rw [upd_ne (hx b n)]; exact n, fun b u q _ => ?_,
    fun b xs q => by rw [upd_ne (hm b _ q fun z => z)]; exact q, fun b u xs q => by rw [upd_ne (hm b _ q fun z => z)]; exact q, fun b ps q => ⟨#[], by rw [upd_ne (hm b _ q fun z => z), q]; simp⟩⟩
  by_cases hbe : b = e
  · subst hbe; exact heo
  · exact ⟨u, k b u hbe q⟩
end

/-! ### the heap without what is tracked -/
def trk (h : Heap) (H : Hp) : List Addr := (List.range h.objs.size).filter fun a => (H a).isSome
def hidT (h : Heap) (H : Hp) : Heap := PySem.W.hideAll h (trk h H)
theorem hidT_size (h : Heap) (H : Hp) : (hidT h H).objs.size = h.objs.size := PySem.W.hideAll_size _ _
theorem hidT_get {h : Heap} {H : Hp} {b : Addr} {o : Obj} (e : h.get? b = some o) (n : H b = none) : (hidT h H).get? b = some o :=
  PySem.W.hideAll_get _ e fun hm => by
    have q : (H b).isSome = true := (List.mem_filter.mp hm).2
    rw [n] at q; simp at q
theorem of_hidT {h : Heap} {H : Hp} {b : Addr} {o : Obj} (e : (hidT h H).get? b = some o) : h.get? b = some o ∧ H b = none := by
  have e' : h.get? b = some o := PySem.W.of_hideAll (trk h H) e
  refine ⟨e', ?_⟩
  cases q : H b with
  | none => rfl
  | some x =>
    have hm : b ∈ trk h H := List.mem_filter.mpr ⟨List.mem_range.mpr (Heap.lt_size e'), by simp [q]⟩
    have z : (hidT h H).get? b = none := PySem.W.hideAll_none (trk h H) hm
    rw [z] at e; cases e

/-! ### OpenK's ledger, filled with every new object but one -/
end L2

namespace L2
open PySem PySem.Spec PyProof.Rows

/-- the module's facts, over the base: the heap at the law's entry without what is tracked there -/
structure Mod (K : PySem.W.Frag) (mg : Str → Option Value) (base : Heap) : Prop where
  kin : K.In base
  glob : base.Ns mainGlobals mg
  blt : ∃ mb, base.Ns builtinsNs mb ∧ ∀ x : Str, x ≠ "__name__" → mb x = bootBuiltins x
  nolimit : base.NoLimit

/-- the context: a def's body (or a comprehension's block) running. base: fixed through the whole law; s₀, H₀: the entry; outer: the frames whose slots others may change (a def's callers); stack: all frames that run;
   ex: iterators that were made ahead of the entry and are walked here (a comprehension's); fn: the names whose cells were made at the entry (a def: all; a comprehension's block: its own); calm: not within an except suite; pn: pins that every state bears; xe: what is wanted of an exception that leaves the code -/
structure Cx where
  prog : Program
  w : World
  K : PySem.W.Frag
  mg : Str → Option Value
  base : Heap
  A : Around
  N : List Str
  s₀ : Shared
  H₀ : Hp
  env : Env
  outer : List Env
  stack : List Env
  ex : List Addr
  fn : Str → Bool
  calm : Bool
  pn : List (Addr × Obj)
  xe : Value → Shared → Prop
/-- the callers' frames -/
def frs (l : List Env) : List Addr := l.filterMap (·.frame)
abbrev Cx.fs (X : Cx) : List Addr := frs X.outer

def Vis (sc : Scope) (x : Str) : Prop := sc.names.lookup x = some .local ∨ sc.names.lookup x = some .cell ∨ sc.names.lookup x = some .free
def Loc (sc : Scope) (x : Str) : Prop := sc.names.lookup x = some .local ∨ sc.names.lookup x = some .cell
def Look (env : Env) (h : Heap) (m : Str → Option Value) (x : Str) (u : Value) : Prop :=
  (env.kindOf x = some .local ∧ m x = some u) ∨ ((env.kindOf x = some .cell ∨ env.kindOf x = some .free) ∧ ∃ c, env.cells.lookup x = some c ∧ h.IsCell c (some u))

structure Cx.Ok (X : Cx) : Prop where
  mod : Mod X.K X.mg X.base
  kind : X.env.scope.kind = .function
  glob : X.env.globals = mainGlobals
  blt : X.env.builtins = builtinsNs
  above : X.s₀.heap.objs.size ≤ X.env.locals
  inj : ∀ x y c, X.env.cells.lookup x = some c → X.env.cells.lookup y = some c → x = y
  has : ∀ x, (X.env.kindOf x = some .cell ∨ X.env.kindOf x = some .free) → ∃ c, X.env.cells.lookup x = some c
  cab : ∀ x c, X.fn x = true → X.env.cells.lookup x = some c → X.s₀.heap.objs.size ≤ c
  hd : X.calm = true → X.A.handled = none
  frames : X.A.frames = some X.stack
  stk : X.stack = X.outer ∨ (X.stack = X.env :: X.outer ∧ X.env.frame = some X.env.locals)
  exf : ∀ b ∈ X.ex, b ≠ X.env.locals ∧ ∀ x c, X.env.cells.lookup x = some c → c ≠ b
  bs : ∀ b o, X.base.get? b = some o → X.s₀.heap.get? b = some o ∧ X.H₀ b = none
  bsz : X.base.objs.size ≤ X.s₀.heap.objs.size
  noex : ∀ b o, X.base.get? b = some o → b ∉ X.ex
  exfs : ∀ b ∈ X.ex, b ∉ X.fs
  funs : X.s₀.heap.FunFrames X.base X.outer
  frf : ∀ b ∈ X.fs, X.H₀ b = none

structure Inv (X : Cx) (pins : List (Addr × Obj)) (σ : List (Option V)) (H : Hp) (s : Shared) : Prop where
  ok : X.Ok
  os : s.os = X.s₀.os
  bare : AllBare s.gens
  base : Un X.fs X.ex X.H₀ H X.s₀.heap s.heap
  loc : ∃ m, s.heap.Ns X.env.locals m ∧ ∀ (i : Nat) (x : Str) (v : V), X.N[i]? = some x → σ[i]? = some (some v) → Vis X.env.scope x → ∃ u, RelV v u ∧ Look X.env s.heap m x u
  cell : ∀ x c, X.env.cells.lookup x = some c → ∃ v, s.heap.IsCell c v
  free : H X.env.locals = none
  freeC : ∀ x c, X.env.cells.lookup x = some c → H c = none
  pin : ∀ p ∈ X.pn ++ pins, s.heap.get? p.1 = some p.2 ∧ H p.1 = none ∧ p.1 ≠ X.env.locals ∧ p.1 ∉ X.fs ∧ ∀ v, p.2.data ≠ .cell v
  hok : HOk X.prog X.w H s.heap
  len : σ.length = X.N.length

section
variable {X : Cx} {pins : List (Addr × Obj)} {σ : List (Option V)} {H H' : Hp} {s : Shared} {h' : Heap}

theorem Cx.Ok.nofr (ok : X.Ok) {b : Addr} {o : Obj} (e : X.base.get? b = some o) : b ∉ X.fs := fun hb => by
  have := (ok.funs.mem hb).1
  rw [e] at this; cases this
theorem Inv.bs (I : Inv X pins σ H s) : ∀ b o, X.base.get? b = some o → s.heap.get? b = some o ∧ H b = none := fun b o e =>
  ⟨I.base.keep b o (I.ok.bs b o e).1 (I.ok.bs b o e).2 (I.ok.nofr e) (I.ok.noex b o e), I.base.free b o (I.ok.bs b o e).1 (I.ok.bs b o e).2 (I.ok.noex b o e)⟩
theorem Inv.bk (I : Inv X pins σ H s) : ∀ b o, X.base.get? b = some o → s.heap.get? b = some o := fun b o e => (I.bs b o e).1
theorem Inv.mod (I : Inv X pins σ H s) : Mod X.K X.mg X.base := I.ok.mod
theorem Inv.kIn (I : Inv X pins σ H s) : X.K.In s.heap := I.ok.mod.kin.keeps I.bk
theorem Inv.lt (I : Inv X pins σ H s) : X.env.locals < s.heap.objs.size := let ⟨_, hn, _⟩ := I.loc; hn.lt
theorem Inv.sz (I : Inv X pins σ H s) : X.s₀.heap.objs.size ≤ s.heap.objs.size := Nat.le_trans I.ok.above (Nat.le_of_lt I.lt)
theorem Inv.nofs (I : Inv X pins σ H s) {a : Addr} (h : s.heap.objs.size ≤ a) : a ∉ X.fs := fun hb => by
  obtain ⟨_, o, ho, _⟩ := I.ok.funs.mem hb
  exact absurd (Nat.lt_of_lt_of_le (Heap.lt_size ho) (Nat.le_trans I.sz h)) (Nat.lt_irrefl _)
theorem Inv.cne (I : Inv X pins σ H s) : ∀ x c, X.env.cells.lookup x = some c → c ≠ X.env.locals := fun x c e z => by
  obtain ⟨v, o, ho, hd⟩ := I.cell x c e
  obtain ⟨m, ⟨o', es, ep, ho', hd', _⟩, _⟩ := I.loc
  rw [z, ho'] at ho; cases ho; rw [hd'] at hd; cases hd
theorem Inv.funs (I : Inv X pins σ H s) : s.heap.FunFrames X.base X.outer := by
  have all : ∀ (l : List Env), (∀ b ∈ frs l, b ∈ X.fs) → X.s₀.heap.FunFrames X.base l → s.heap.FunFrames X.base l := by
    intro l
    induction l with
    | nil => intro _ _; trivial
    | cons env r ih =>
      intro hs hl
      obtain ⟨hk, ⟨L, o, hf, hn, ho, hd⟩, hr⟩ := hl
      have hL : L ∈ X.fs := hs L (by unfold frs; rw [List.filterMap_cons, hf]; exact List.mem_cons_self)
      obtain ⟨sl, e⟩ := I.base.slot L o ho (I.ok.frf L hL) hL fun z => I.ok.exfs L z hL
      exact ⟨hk, ⟨L, _, hf, hn, e, hd⟩, ih (fun b hb => hs b (by unfold frs; rw [List.filterMap_cons, hf]; exact List.mem_cons_of_mem _ hb)) hr⟩
  exact all X.outer (fun _ hb => hb) I.ok.funs

/-- the frames that run, for a call -/
theorem Inv.stack (I : Inv X pins σ H s) : s.heap.FunFrames X.base X.stack := by
  rcases I.ok.stk with e | ⟨e, hf⟩
  · rw [e]; exact I.funs
  · rw [e]
    obtain ⟨m, hn, _⟩ := I.loc
    refine .cons (by rw [I.ok.kind]; decide) hf hn ?_ I.funs
    exact Heap.get?_none_of_le (Nat.le_trans I.ok.bsz I.ok.above)
theorem Inv.stkSub (I : Inv X pins σ H s) : ∀ b ∈ frs X.stack, b ∈ X.env.locals :: X.fs := fun b hb => by
  rcases I.ok.stk with e | ⟨e, hf⟩
  · rw [e] at hb; exact List.mem_cons_of_mem _ hb
  · rw [e] at hb
    unfold frs at hb
    rw [List.filterMap_cons, hf] at hb
    exact hb
theorem Inv.stkFree (I : Inv X pins σ H s) : ∀ b ∈ frs X.stack, H b = none := fun b hb => by
  rcases List.mem_cons.mp (I.stkSub b hb) with e | hb
  · rw [e]; exact I.free
  · obtain ⟨_, o, ho, _⟩ := I.ok.funs.mem hb
    exact I.base.free b o ho (I.ok.frf b hb) fun z => I.ok.exfs b z hb

/-- THE STEP: the untracked objects but the frame and the records at ch are kept (the callers' frames up to slots), the frame's map is kept, the new abstract heap is held -/
theorem Inv.step {g' : Array GenState} {t' : Nat} {d' : Drawn} {ch : List Addr} (I : Inv X pins σ H s)
    (hch : ∀ b ∈ ch, (b ∈ X.ex ∨ X.s₀.heap.objs.size ≤ b) ∧ b ≠ X.env.locals ∧ (∀ x c, X.env.cells.lookup x = some c → c ≠ b) ∧ ∀ p ∈ X.pn ++ pins, p.1 ≠ b)
    (keep : ∀ b o, b ≠ X.env.locals → b ∉ X.fs → b ∉ ch → s.heap.get? b = some o → H b = none → h'.get? b = some o)
    (slot : ∀ b o, b ≠ X.env.locals → b ∈ X.fs → b ∉ ch → s.heap.get? b = some o → H b = none → ∃ sl, h'.get? b = some { o with slots := sl }) (free : ∀ b o, b ∉ ch → s.heap.get? b = some o → H b = none → H' b = none)
    (there : ∀ b o, b ∉ ch → s.heap.get? b = some o → ∃ o', h'.get? b = some o')
    (tups : ∀ b xs, H b = some (.tup xs) → H' b = some (.tup xs)) (frzs : ∀ b o u, H b = some (.frz o u) → H' b = some (.frz o u)) (tbls : ∀ b ps, H b = some (.tbl ps) → ∃ more, H' b = some (.tbl (ps ++ more)))
    (ns : ∀ m, s.heap.Ns X.env.locals m → h'.Ns X.env.locals m) (hok : HOk X.prog X.w H' h') (hg : AllBare g') :
    Inv X pins σ H' { s with heap := h', gens := g', drawn := d', toks := t' } := by
  have neL : ∀ b o, X.s₀.heap.get? b = some o → b ≠ X.env.locals := fun b o e => Nat.ne_of_lt (Nat.lt_of_lt_of_le (Heap.lt_size e) I.ok.above)
  have neC : ∀ b o, X.s₀.heap.get? b = some o → b ∉ X.ex → b ∉ ch := fun b o e hx hb => by
    rcases (hch b hb).1 with z | z
    · exact hx z
    · exact absurd (Nat.lt_of_lt_of_le (Heap.lt_size e) z) (Nat.lt_irrefl _)
  have cellK : ∀ x c, X.env.cells.lookup x = some c → ∀ v, s.heap.IsCell c v → h'.IsCell c v := fun x c e v ⟨o, ho, hd⟩ => by
    have nch : c ∉ ch := fun z => (hch c z).2.2.1 x c e rfl
    by_cases hc : c ∈ X.fs
    · obtain ⟨sl, q⟩ := slot c o (I.cne x c e) hc nch ho (I.freeC x c e)
      exact ⟨_, q, hd⟩
    · exact ⟨o, keep c o (I.cne x c e) hc nch ho (I.freeC x c e), hd⟩
  refine ⟨I.ok, I.os, hg, ⟨fun b o e n hb hx => ?_, fun b o e n hb hx => ?_, fun b o e n hx => ?_, fun b o e hx => ?_, fun b xs e => tups b xs (I.base.tups b xs e), fun b o xs e => frzs b o xs (I.base.frzs b o xs e), fun b ps e => ?_⟩, ?_, fun x c e => ?_, ?_, fun x c e => ?_, fun p hp => ?_, hok, I.len⟩
  · exact keep b o (neL b o e) hb (neC b o e hx) (I.base.keep b o e n hb hx) (I.base.free b o e n hx)
  · obtain ⟨sl, e1⟩ := I.base.slot b o e n hb hx
    obtain ⟨sl', e2⟩ := slot b _ (neL b o e) hb (neC b o e hx) e1 (I.base.free b o e n hx)
    exact ⟨sl', e2⟩
  · obtain ⟨o', e1⟩ := I.base.there b o e hx
    exact free b o' (neC b o e hx) e1 (I.base.free b o e n hx)
  · obtain ⟨o', e1⟩ := I.base.there b o e hx
    exact there b o' (neC b o e hx) e1
  · obtain ⟨m1, e1⟩ := I.base.tbls b ps e
    obtain ⟨m2, e2⟩ := tbls b _ e1
    exact ⟨m1 ++ m2, by rw [e2, Array.append_assoc]⟩
  · obtain ⟨m, hn, hl⟩ := I.loc
    refine ⟨m, ns m hn, fun i x v e1 e2 e3 => ?_⟩
    obtain ⟨u, r, l⟩ := hl i x v e1 e2 e3
    refine ⟨u, r, ?_⟩
    rcases l with l | ⟨k, c, e, z⟩
    · exact .inl l
    · exact .inr ⟨k, c, e, cellK x c e _ z⟩
  · obtain ⟨v, z⟩ := I.cell x c e
    exact ⟨v, cellK x c e v z⟩
  · obtain ⟨m, ⟨o, _, _, ho, _⟩, _⟩ := I.loc
    exact free _ o (fun z => (hch _ z).2.1 rfl) ho I.free
  · obtain ⟨v, o, ho, hd⟩ := I.cell x c e
    exact free c o (fun z => (hch c z).2.2.1 x c e rfl) ho (I.freeC x c e)
  · obtain ⟨e, n, ne, nf, d⟩ := I.pin p hp
    have nch : p.1 ∉ ch := fun z => (hch p.1 z).2.2.2 p hp rfl
    exact ⟨keep p.1 p.2 ne nf nch e n, free p.1 p.2 nch e n, ne, nf, d⟩
/-- .. where the frame's own object is kept too -/
theorem Inv.un {t' : Nat} (I : Inv X pins σ H s) (u : Un X.fs [] H H' s.heap h') (hok : HOk X.prog X.w H' h') : Inv X pins σ H' { s with heap := h', toks := t' } := by
  obtain ⟨m, ⟨o, es, ep, ho, r⟩, _⟩ := id I.loc
  obtain ⟨sl, hL⟩ := u.any ho I.free (by simp)
  exact I.step (g' := s.gens) (d' := s.drawn) (ch := []) (fun _ z => nomatch z) (fun b o _ hb _ e n => u.keep b o e n hb (by simp)) (fun b o _ hb _ e n => u.slot b o e n hb (by simp)) (fun b o _ e n => u.free b o e n (by simp)) (fun b o _ e => u.there b o e (by simp)) u.tups u.frzs u.tbls (fun m' hm => by
    obtain ⟨o', es', ep', ho', r'⟩ := hm
    rw [ho] at ho'; cases ho'
    exact ⟨_, es', ep', hL, r'⟩) hok I.bare
/-- behind a call (or a comprehension's block): the slots of this frame may have changed too, the records at ch may have turned -/
theorem Inv.call {g' : Array GenState} {t' : Nat} {d' : Drawn} {ch : List Addr} (I : Inv X pins σ H s) (u : Un (frs X.stack) ch H H' s.heap h') (hok : HOk X.prog X.w H' h') (hg : AllBare g')
    (hch : ∀ b ∈ ch, (b ∈ X.ex ∨ X.s₀.heap.objs.size ≤ b) ∧ b ≠ X.env.locals ∧ (∀ x c, X.env.cells.lookup x = some c → c ≠ b) ∧ ∀ p ∈ X.pn ++ pins, p.1 ≠ b) :
    Inv X pins σ H' { s with heap := h', gens := g', drawn := d', toks := t' } := by
  obtain ⟨m, ⟨o, es, ep, ho, r⟩, _⟩ := id I.loc
  obtain ⟨sl, hL⟩ := u.any ho I.free fun z => (hch _ z).2.1 rfl
  exact I.step (ch := ch) hch (fun b o hL hb hc e n => u.keep b o e n (fun z => (List.mem_cons.mp (I.stkSub b z)).elim hL hb) hc) (fun b o _ _ hc e n => u.any e n hc) (fun b o hc e n => u.free b o e n hc) (fun b o hc e => u.there b o e hc) u.tups u.frzs u.tbls (fun m' hm => by
    obtain ⟨o', es', ep', ho', r'⟩ := hm
    rw [ho] at ho'; cases ho'
    exact ⟨_, es', ep', hL, r'⟩) hok hg
/-- an untracked record of ours (an iterator) has turned -/
theorem Inv.turned {t' : Nat} {it : Addr} (I : Inv X pins σ H s) (k : ∀ b o, b ≠ it → s.heap.get? b = some o → h'.get? b = some o) (hn : H it = none) (hL : it ≠ X.env.locals)
    (h1 : it ∈ X.ex ∨ X.s₀.heap.objs.size ≤ it) (h2 : ∀ x c, X.env.cells.lookup x = some c → c ≠ it) (h3 : ∀ p ∈ X.pn ++ pins, p.1 ≠ it) : Inv X pins σ H { s with heap := h', toks := t' } := by
  have nit : ∀ b u, H b = some u → b ≠ it := fun b u e z => by rw [z, hn] at e; cases e
  refine I.step (g' := s.gens) (d' := s.drawn) (ch := [it]) (fun b hb => ?_) (fun b o _ _ hc e _ => k b o (fun z => hc (by simp [z])) e) (fun b o _ _ hc e _ => ⟨o.slots, k b o (fun z => hc (by simp [z])) e⟩) (fun _ _ _ _ n => n)
    (fun b o hc e => ⟨o, k b o (fun z => hc (by simp [z])) e⟩) (fun _ _ e => e) (fun _ _ _ e => e) (fun b ps e => ⟨#[], by rw [e]; simp⟩) (fun m hm => ?_) (fun b u e => ?_) I.bare
  · have e : b = it := by simpa using hb
    subst e
    exact ⟨h1, hL, h2, h3⟩
  · obtain ⟨o, es, ep, ho, r⟩ := hm
    exact ⟨o, es, ep, k _ o (Ne.symm hL) ho, r⟩
  · refine (I.hok b u e).stay (fun c v hc q => k c v ?_ q) (fun _ q => q) fun _ _ q => q
    rcases hc with z | z
    · rw [z]; exact nit b u e
    · exact nit c _ z
theorem Inv.tok (I : Inv X pins σ H s) (t : Nat) : Inv X pins σ H { s with toks := t } := I.un (h' := s.heap) (t' := t) Un.refl I.hok
/-- all objects kept -/
theorem Inv.kept {t' : Nat} (I : Inv X pins σ H s) (k : ∀ b u, s.heap.get? b = some u → h'.get? b = some u) : Inv X pins σ H { s with heap := h', toks := t' } := I.un (Un.kept k) (I.hok.kept k)
/-- a new object laid and tracked -/
theorem Inv.laid {a : Addr} {o : HO} {t' : Nat} (I : Inv X pins σ H s) (k : ∀ b u, s.heap.get? b = some u → h'.get? b = some u) (hp : s.heap.objs.size ≤ a) (new : ObjOk X.prog X.w (upd H a o) h' a o) :
    Inv X pins σ (upd H a o) { s with heap := h', toks := t' } := I.un (Un.laid k hp (I.hok.fresh hp)) (I.hok.laid k hp new)
/-- an object written -/
theorem Inv.write {x e : Addr} {o : HO} {t' : Nat} (I : Inv X pins σ H s) (mu : Mut (H x)) (he : e = x ∨ H e = some (.own x)) (k : ∀ b u, b ≠ e → s.heap.get? b = some u → h'.get? b = some u) (heo : ∃ u, h'.get? e = some u)
    (new : ObjOk X.prog X.w (upd H x o) h' x o) : Inv X pins σ (upd H x o) { s with heap := h', toks := t' } := I.un (Un.write mu he k heo) (I.hok.write mu he k heo new)
theorem Inv.pins_of {pins' : List (Addr × Obj)} (I : Inv X pins σ H s) (h : ∀ p ∈ pins', s.heap.get? p.1 = some p.2 ∧ H p.1 = none ∧ p.1 ≠ X.env.locals ∧ p.1 ∉ X.fs ∧ ∀ v, p.2.data ≠ .cell v) : Inv X pins' σ H s :=
  ⟨I.ok, I.os, I.bare, I.base, I.loc, I.cell, I.free, I.freeC, fun p hp => (List.mem_append.mp hp).elim (fun z => I.pin p (List.mem_append_left _ z)) (h p), I.hok, I.len⟩

theorem nodup_ix {N : List Str} (hN : N.Nodup) {i j : Nat} {x : Str} (a : N[i]? = some x) (b : N[j]? = some x) : i = j := by
  obtain ⟨h1, e1⟩ := List.getElem?_eq_some_iff.mp a
  obtain ⟨h2, e2⟩ := List.getElem?_eq_some_iff.mp b
  exact (List.getElem_inj hN).mp (e1.trans e2.symm)

/-- a name is stored; what changed -/
theorem store_ok2 {M : Model} {A : Around} {E : Value → Shared → Prop} {i : Nat} {x : Str} {v : V} {u : Value} {Q : Unit → Shared → Prop} (I : Inv X pins σ H s) (hN : X.N.Nodup) (hi : X.N[i]? = some x) (hx : Loc X.env.scope x) (r : RelV v u)
    (h : ∀ s', Inv X pins (σ.set i (some v)) H s' → (∃ a, Heap.SameBut a s.heap s'.heap ∧ (a = X.env.locals ∨ X.env.cells.lookup x = some a)) → Q () s') (hf : X.fn x = true ∨ X.env.scope.names.lookup x = some .local := by first | exact .inl rfl | exact .inr rfl | assumption) : wpAny M A (storeName X.env x u) Q E s := by
  obtain ⟨m, hn, hl⟩ := id I.loc
  have hcls : (X.env.scope.kind == .class || (X.env.scope.kind == .module && X.env.locals != X.env.globals)) = false := by rw [I.ok.kind]; rfl
  have hiσ : i < σ.length := by rw [I.len]; exact (List.getElem?_eq_some_iff.mp hi).1
  have cne := I.cne
  have tracked : ∀ {a : Addr} {h' : Heap}, (∃ o, s.heap.get? a = some o ∧ H a = none) → Heap.SameBut a s.heap h' → HOk X.prog X.w H h' := fun {a h'} ha hs b ob e => by
    obtain ⟨_, _, hfree⟩ := ha
    refine (I.hok b ob e).stay (fun c w' hc q => (hs.2 c ?_).trans q) (fun _ q => q) fun _ _ q => q
    rintro rfl
    rcases hc with rfl | hc
    · rw [hfree] at e; cases e
    · rw [hfree] at hc; cases hc
  rcases hx with hk | hk
  · refine wpAny_storeName_local hk hn (fun h' hn' hs => ?_) hcls
    obtain ⟨oL, _, _, hoL, _⟩ := id hn
    refine h _ ⟨I.ok, I.os, I.bare, ⟨fun b o e n hb hx => ?_, fun b o e n hb hx => ?_, I.base.free, fun b o e hx => ?_, I.base.tups, I.base.frzs, I.base.tbls⟩, ⟨_, hn', fun j y v' e1 e2 e3 => ?_⟩, fun y c e => ?_, I.free, I.freeC, fun p hp => ?_, tracked ⟨oL, hoL, I.free⟩ hs, by simpa using I.len⟩ ⟨_, hs, .inl rfl⟩
    · exact (hs.2 b (Nat.ne_of_lt (Nat.lt_of_lt_of_le (Heap.lt_size e) I.ok.above))).trans (I.base.keep b o e n hb hx)
    · obtain ⟨sl, e1⟩ := I.base.slot b o e n hb hx
      exact ⟨sl, (hs.2 b (Nat.ne_of_lt (Nat.lt_of_lt_of_le (Heap.lt_size e) I.ok.above))).trans e1⟩
    · obtain ⟨o', e1⟩ := I.base.there b o e hx
      exact ⟨o', (hs.2 b (Nat.ne_of_lt (Nat.lt_of_lt_of_le (Heap.lt_size e) I.ok.above))).trans e1⟩
    · by_cases hj : j = i
      · subst hj
        rw [hi] at e1; cases e1
        rw [List.getElem?_set_self hiσ] at e2
        cases e2
        exact ⟨u, r, .inl ⟨hk, by simp⟩⟩
      · rw [List.getElem?_set_ne (Ne.symm hj)] at e2
        obtain ⟨u', r', q⟩ := hl j y v' e1 e2 e3
        refine ⟨u', r', ?_⟩
        rcases q with ⟨k, e⟩ | ⟨k, c, e, z⟩
        · refine .inl ⟨k, ?_⟩
          have : y ≠ x := fun e => hj (nodup_ix hN e1 (e ▸ hi))
          simp [this, e]
        · exact .inr ⟨k, c, e, z.sameBut hs (cne y c e)⟩
    · obtain ⟨w', z⟩ := I.cell y c e
      exact ⟨w', z.sameBut hs (cne y c e)⟩
    · obtain ⟨e, n, ne, nf, d⟩ := I.pin p hp
      exact ⟨(hs.2 p.1 ne).trans e, n, ne, nf, d⟩
  · have hfn : X.fn x = true := by
      rcases hf with z | z
      · exact z
      · rw [z] at hk; cases hk
    obtain ⟨c, hc⟩ := I.ok.has x (.inl hk)
    obtain ⟨w', z⟩ := I.cell x c hc
    refine wpAny_storeName_cell I.ok.kind hk hc z (fun h' hc' hs => ?_)
    obtain ⟨oc, hoc, hocd⟩ := id z
    refine h { s with heap := h' } ⟨I.ok, I.os, I.bare, ⟨fun b o e n hb hx => ?_, fun b o e n hb hx => ?_, I.base.free, fun b o e hx => ?_, I.base.tups, I.base.frzs, I.base.tbls⟩, ⟨m, hn.sameBut hs (Ne.symm (cne x c hc)), fun j y v' e1 e2 e3 => ?_⟩, fun y c' e => ?_, I.free, I.freeC, fun p hp => ?_, tracked ⟨oc, hoc, I.freeC x c hc⟩ hs, by simpa using I.len⟩ ⟨c, hs, .inr hc⟩
    · exact (hs.2 b (Nat.ne_of_lt (Nat.lt_of_lt_of_le (Heap.lt_size e) (I.ok.cab x c hfn hc)))).trans (I.base.keep b o e n hb hx)
    · obtain ⟨sl, e1⟩ := I.base.slot b o e n hb hx
      exact ⟨sl, (hs.2 b (Nat.ne_of_lt (Nat.lt_of_lt_of_le (Heap.lt_size e) (I.ok.cab x c hfn hc)))).trans e1⟩
    · obtain ⟨o', e1⟩ := I.base.there b o e hx
      exact ⟨o', (hs.2 b (Nat.ne_of_lt (Nat.lt_of_lt_of_le (Heap.lt_size e) (I.ok.cab x c hfn hc)))).trans e1⟩
    · by_cases hj : j = i
      · subst hj
        rw [hi] at e1; cases e1
        rw [List.getElem?_set_self hiσ] at e2
        cases e2
        exact ⟨u, r, .inr ⟨.inl hk, c, hc, hc'⟩⟩
      · rw [List.getElem?_set_ne (Ne.symm hj)] at e2
        obtain ⟨u', r', q⟩ := hl j y v' e1 e2 e3
        refine ⟨u', r', ?_⟩
        rcases q with q | ⟨k, c', e, z'⟩
        · exact .inl q
        · refine .inr ⟨k, c', e, z'.sameBut hs ?_⟩
          rintro rfl
          exact hj (nodup_ix hN e1 (I.ok.inj _ _ _ e hc ▸ hi))
    · by_cases hcc : c' = c
      · subst hcc; exact ⟨_, hc'⟩
      · obtain ⟨w2, z2⟩ := I.cell y c' e
        exact ⟨w2, z2.sameBut hs hcc⟩
    · obtain ⟨e, n, ne, nf, d⟩ := I.pin p hp
      refine ⟨(hs.2 p.1 ?_).trans e, n, ne, nf, d⟩
      intro q
      rw [q, hoc] at e
      have q' : oc = p.2 := Option.some.inj e
      exact d w' (by rw [← q']; exact hocd)
theorem store_ok {M : Model} {A : Around} {E : Value → Shared → Prop} {i : Nat} {x : Str} {v : V} {u : Value} {Q : Unit → Shared → Prop} (I : Inv X pins σ H s) (hN : X.N.Nodup) (hi : X.N[i]? = some x) (hx : Loc X.env.scope x) (r : RelV v u)
    (h : ∀ s', Inv X pins (σ.set i (some v)) H s' → Q () s') (hf : X.fn x = true ∨ X.env.scope.names.lookup x = some .local := by first | exact .inl rfl | exact .inr rfl | assumption) : wpAny M A (storeName X.env x u) Q E s :=
  store_ok2 I hN hi hx r (fun s' I' _ => h s' I') hf
/-- behind a call or a block, the state as it is -/
theorem Inv.call' {s' : Shared} {ch : List Addr} (I : Inv X pins σ H s) (ho : s'.os = s.os) (u : Un (frs X.stack) ch H H' s.heap s'.heap) (hok : HOk X.prog X.w H' s'.heap) (hg : AllBare s'.gens)
    (hch : ∀ b ∈ ch, (b ∈ X.ex ∨ X.s₀.heap.objs.size ≤ b) ∧ b ≠ X.env.locals ∧ (∀ x c, X.env.cells.lookup x = some c → c ≠ b) ∧ ∀ p ∈ X.pn ++ pins, p.1 ≠ b) : Inv X pins σ H' s' := by
  obtain ⟨h', g', d', t', o'⟩ := s'
  have e : o' = s.os := ho
  subst e
  exact I.call (g' := g') (t' := t') (d' := d') u hok hg hch
end

/-! ### the judgements -/
/-- an exception: its class, its own dict's address (where it has one), the abstract heap behind it -/
abbrev XK := Value → Option Addr → Hp → Prop
abbrev St := List (Option V)
abbrev VK := V → Hp → Prop
/-- an expression's reading; a test's; an argument list's -/
abbrev TE := St → Hp → VK → Prop
abbrev TT := St → Hp → (Bool → Hp → Prop) → Prop
abbrev TA := St → Hp → (List V → Hp → Prop) → Prop
/-- what is wanted behind a statement -/
structure Ends where
  nx : St → Hp → Prop
  rt : VK
  bk : St → Hp → Prop := fun _ _ => False
  ct : St → Hp → Prop := fun _ _ => False
abbrev TS := Ends → St → Hp → Prop

def EP (X : Cx) (pins : List (Addr × Obj)) (σ : St) (Q : VK) (u : Value) (s' : Shared) : Prop := ∃ v H', Inv X pins σ H' s' ∧ RelV v u ∧ Q v H'
def TP (X : Cx) (pins : List (Addr × Obj)) (σ : St) (Q : Bool → Hp → Prop) (b : Bool) (s' : Shared) : Prop := ∃ H', Inv X pins σ H' s' ∧ Q b H'
def AP (X : Cx) (pins : List (Addr × Obj)) (σ : St) (Q : List V → Hp → Prop) (us : List Value) (s' : Shared) : Prop := ∃ vs H', Inv X pins σ H' s' ∧ Vals vs us ∧ Q vs H'
def SP (X : Cx) (pins : List (Addr × Obj)) (D : Ends) (f : Flow) (s' : Shared) : Prop :=
  match f with
  | .next => ∃ σ' H', Inv X pins σ' H' s' ∧ D.nx σ' H'
  | .brk => ∃ σ' H', Inv X pins σ' H' s' ∧ D.bk σ' H'
  | .cont => ∃ σ' H', Inv X pins σ' H' s' ∧ D.ct σ' H'
  | .ret u => ∃ v σ' H', Inv X pins σ' H' s' ∧ RelV v u ∧ D.rt v H'

def PE (X : Cx) (e : Expr) (t : TE) : Prop :=
  ∀ (pins : List (Addr × Obj)) (s : Shared) (σ : St) (H : Hp) (Q : VK), Inv X pins σ H s → t σ H Q → wpAny (model X.prog X.w) X.A (eval e X.env) (EP X pins σ Q) X.xe s
def PT (X : Cx) (e : Expr) (t : TT) : Prop :=
  ∀ (pins : List (Addr × Obj)) (s : Shared) (σ : St) (H : Hp) (Q : Bool → Hp → Prop), Inv X pins σ H s → t σ H Q → wpAny (model X.prog X.w) X.A (isTrue e X.env (eval e X.env)) (TP X pins σ Q) X.xe s
/-- a test whatever its 'whole' is (and, or) -/
def PW (X : Cx) (e : Expr) (t : TT) : Prop :=
  ∀ (whole : Sem Value) (pins : List (Addr × Obj)) (s : Shared) (σ : St) (H : Hp) (Q : Bool → Hp → Prop), Inv X pins σ H s → t σ H Q → wpAny (model X.prog X.w) X.A (isTrue e X.env whole) (TP X pins σ Q) X.xe s
theorem PW.pt {X : Cx} {e : Expr} {t : TT} (h : PW X e t) : PT X e t := h _
/-- an argument list (no star), from the left -/
def PA (X : Cx) (es : List Expr) (t : TA) : Prop :=
  ∀ (pos : Pos) (pins : List (Addr × Obj)) (s : Shared) (σ : St) (H : Hp) (Q : List V → Hp → Prop), Inv X pins σ H s → t σ H Q → wpAny (model X.prog X.w) X.A (spliced (backTo pos (starEach es X.env))) (AP X pins σ Q) X.xe s
def PS (X : Cx) (st : Stmt) (t : TS) : Prop :=
  ∀ (pins : List (Addr × Obj)) (s : Shared) (σ : St) (H : Hp) (D : Ends), Inv X pins σ H s → t D σ H → wpAny (model X.prog X.w) X.A (exec st X.env) (SP X pins D) X.xe s
def PSs (X : Cx) (st : List Stmt) (t : TS) : Prop :=
  ∀ (pins : List (Addr × Obj)) (s : Shared) (σ : St) (H : Hp) (D : Ends), Inv X pins σ H s → t D σ H → wpAny (model X.prog X.w) X.A (execs st X.env) (SP X pins D) X.xe s
/-- weaken the end -/
theorem thn {α : Type} {t : Sem α} {Q Q' : α → Shared → Prop} {M : Model} {A : Around} {E : Value → Shared → Prop} {s : Shared} (h : wpAny M A t Q E s) (hQ : ∀ a s, Q a s → Q' a s) : wpAny M A t Q' E s := wpAny_mono h hQ fun _ _ x => x
end L2

namespace L2
open PySem PySem.Spec PyProof.Rows
section
variable {X : Cx}


/-! ### names and constants -/
def tVar (i : Nat) : TE := fun σ H Q => ∃ v, σ[i]? = some (some v) ∧ Q v H
def tC (v : V) : TE := fun _ H Q => Q v H
theorem pe_var {i : Nat} {x : Str} {pos : Pos} (hN : X.N[i]? = some x) (hv : Vis X.env.scope x) (hd : (x == ("__debug__" : Str)) = false := by decide) (hcd : (x == ("__classdict__" : Str)) = false := by decide) : PE X (.Name x pos) (tVar i) := by
  intro pins s σ H Q I h
  obtain ⟨v, e, h⟩ := h
  obtain ⟨m, hn, hl⟩ := I.loc
  obtain ⟨u, r, l⟩ := hl i x v hN e hv
  have fin : EP X pins σ Q u s := ⟨v, H, I, r, h⟩
  rcases l with ⟨hk, hm⟩ | ⟨hk, c, hc, hcell⟩
  · exact wpAny_Name (wpAny_loadName_local I.ok.kind hk hn hm fin) hd
  · rcases hk with hk | hk
    · exact wpAny_Name (wpAny_loadName_cell I.ok.kind hk hc hcell fin) hd
    · exact wpAny_Name (wpAny_loadName_free I.ok.kind hk hc hcell fin hcd) hd
theorem pe_int {i j pos} : PE X (.Constant (.int i) j pos) (tC (.int i)) := fun _ _ _ H _ I h => wpAny_Constant_int ⟨.int i, H, I.tok _, ⟨_, rfl⟩, h⟩
theorem pe_bl {b j pos} : PE X (.Constant (.bool b) j pos) (tC (.bl b)) := fun _ _ _ H _ I h => Constant_bool ⟨.bl b, H, I, rfl, h⟩
theorem pe_non {j pos} : PE X (.Constant .none j pos) (tC .non) := fun _ _ _ H _ I h => Constant_none ⟨.non, H, I, rfl, h⟩
theorem pe_str {x j pos} : PE X (.Constant (.str x) j pos) (tC (.str x)) := fun _ _ _ H _ I h => Calls.Constant_str ⟨.str x, H, I.tok _, ⟨_, rfl⟩, h⟩

/-- a global name of the def -/
def Gl (X : Cx) (x : Str) : Prop := X.env.kindOf x = some .globalImplicit
theorem ld_glob {E : Value → Shared → Prop} {pins : List (Addr × Obj)} {s : Shared} {σ : St} {H : Hp} {x : Str} {u : Value} {pos : Pos} {Q : Value → Shared → Prop} (I : Inv X pins σ H s) (hg : Gl X x) (hm : X.mg x = some u) (h : Q u s)
    (hd : (x == ("__debug__" : Str)) = false := by decide) : wpAny (model X.prog X.w) X.A (eval (.Name x pos) X.env) Q E s :=
  Calls.Name_function_global I.ok.kind hg (Calls.loadGlobal_global (by rw [I.ok.glob]; exact I.mod.glob.keeps I.bk) hm h) hd
theorem ld_blt {E : Value → Shared → Prop} {pins : List (Addr × Obj)} {s : Shared} {σ : St} {H : Hp} {x : Str} {u : Value} {pos : Pos} {Q : Value → Shared → Prop} (I : Inv X pins σ H s) (hg : Gl X x) (hm : X.mg x = none) (hv : bootBuiltins x = some u) (h : Q u s)
    (hn : x ≠ "__name__" := by decide) (hd : (x == ("__debug__" : Str)) = false := by decide) : wpAny (model X.prog X.w) X.A (eval (.Name x pos) X.env) Q E s := by
  obtain ⟨mb, h1, h2⟩ := I.mod.blt
  exact Calls.Name_function_global I.ok.kind hg (Calls.loadGlobal_builtin (by rw [I.ok.glob]; exact I.mod.glob.keeps I.bk) hm (by rw [I.ok.blt]; exact h1.keeps I.bk) ((h2 x hn).trans hv) h) hd
/-- a module's constant, a class, a function, as a value -/
theorem pe_glob {x : Str} {v : V} {u : Value} {pos : Pos} (hg : Gl X x) (hm : X.mg x = some u) (r : RelV v u) (hd : (x == ("__debug__" : Str)) = false := by decide) : PE X (.Name x pos) (tC v) :=
  fun _ _ _ H _ I h => ld_glob I hg hm ⟨v, H, I, r, h⟩ hd
theorem pe_bltn {x : Str} {v : V} {u : Value} {pos : Pos} (hg : Gl X x) (hm : X.mg x = none) (hv : bootBuiltins x = some u) (r : RelV v u) (hn : x ≠ "__name__" := by decide) (hd : (x == ("__debug__" : Str)) = false := by decide) : PE X (.Name x pos) (tC v) :=
  fun _ _ _ H _ I h => ld_blt I hg hm hv ⟨v, H, I, r, h⟩ hn hd

/-! ### arithmetic -/
variable {a b : Expr} {ta tb : TE} {pos : Pos}

/-! ### comparisons -/
def PC (X : Cx) (op : CmpOp) (a b : Expr) (t : TE) : Prop :=
  ∀ (pins : List (Addr × Obj)) (s : Shared) (σ : St) (H : Hp) (Q : VK), Inv X pins σ H s → t σ H Q →
    wpAny (model X.prog X.w) X.A (eval a X.env) (fun v s₁ => wpAny (model X.prog X.w) X.A (eval b X.env) (fun u s₂ => wpAny (model X.prog X.w) X.A (compareOp op v u) (EP X pins σ Q) X.xe s₂) X.xe s₁) X.xe s
/-- a comparison as a value, as a test -/
def tB (t : TE) : TT := fun σ H Q => t σ H fun x H1 => ∃ c, x = .bl c ∧ Q c H1
/-- an expression whose value is a bool, as a test -/
theorem pt_val {e : Expr} {t : TE} (h : PE X e t) (he : ∀ whole, isTrue e X.env whole = (do let v ← whole; standAt e.pos; holding [v] (truthy v)) := by intro _; rfl) : PT X e (tB t) := by
  intro pins s σ H Q I hw
  refine isTrue_plain (thn (h pins s σ H _ I hw) fun v s1 ⟨x, H1, I1, r1, q1⟩ => ?_) (he _)
  obtain ⟨d, rfl, q⟩ := q1
  cases r1
  exact wpAny_truthy_bool ⟨H1, I1, q⟩

/-! ### and, or, not -/
variable {tA tB' : TT} {rest : List Expr}
def tAnd (t u : TT) : TT := fun σ H Q => t σ H fun c H1 => if c = true then u σ H1 Q else Q false H1
def tOr (t u : TT) : TT := fun σ H Q => t σ H fun c H1 => if c = true then Q true H1 else u σ H1 Q
def tNot (t : TT) : TT := fun σ H Q => t σ H fun c H1 => Q (!c) H1
theorem pw_and1 (ha : PT X a tA) : PW X (.BoolOp .And [a] pos) tA := by
  intro wh pins s σ H Q I h
  refine isTrue_and (thn (ha pins s σ H Q I h) fun c s1 e => ?_)
  cases c with
  | true => exact isTrue_and_nil e
  | false => exact e
theorem pw_or1 (ha : PT X a tA) : PW X (.BoolOp .Or [a] pos) tA := by
  intro wh pins s σ H Q I h
  refine isTrue_or (thn (ha pins s σ H Q I h) fun c s1 e => ?_)
  cases c with
  | false => exact isTrue_or_nil e
  | true => exact e
theorem pw_and (ha : PT X a tA) (hb : PW X (.BoolOp .And (b :: rest) pos) tB') : PW X (.BoolOp .And (a :: b :: rest) pos) (tAnd tA tB') := by
  intro wh pins s σ H Q I h
  refine isTrue_and (thn (ha pins s σ H _ I h) fun c s1 ⟨H1, I1, q1⟩ => ?_)
  cases c with
  | true => exact hb wh pins s1 σ H1 Q I1 q1
  | false => exact ⟨H1, I1, q1⟩
theorem pw_or (ha : PT X a tA) (hb : PW X (.BoolOp .Or (b :: rest) pos) tB') : PW X (.BoolOp .Or (a :: b :: rest) pos) (tOr tA tB') := by
  intro wh pins s σ H Q I h
  refine isTrue_or (thn (ha pins s σ H _ I h) fun c s1 ⟨H1, I1, q1⟩ => ?_)
  cases c with
  | true => exact ⟨H1, I1, q1⟩
  | false => exact hb wh pins s1 σ H1 Q I1 q1
theorem pt_not (ha : PT X a tA) : PT X (.UnaryOp .Not a pos) (tNot tA) := by
  intro pins s σ H Q I h
  exact isTrue_not (ha pins s σ H (fun c H1 => Q (!c) H1) I h)
/-- .. as values (bools) -/
def tAndV (ta tb : TE) : TE := fun σ H Q => ta σ H fun x H1 => ∃ c, x = .bl c ∧ if c = true then tb σ H1 Q else Q (.bl false) H1
def tNotV (ta : TE) : TE := fun σ H Q => ta σ H fun x H1 => ∃ c, x = .bl c ∧ Q (.bl (!c)) H1
theorem pe_one {op} {t : TE} (h : PE X a t) : PE X (.BoolOp op [a] pos) t := fun pins s σ H Q I hw => BoolOp_one (h pins s σ H Q I hw)
theorem pe_and (ha : PE X a ta) (hb : PE X (.BoolOp .And (b :: rest) pos) tb) : PE X (.BoolOp .And (a :: b :: rest) pos) (tAndV ta tb) := by
  intro pins s σ H Q I h
  refine BoolOp_and (thn (ha pins s σ H _ I h) fun v s1 ⟨x, H1, I1, r1, q1⟩ => ?_)
  obtain ⟨c, rfl, q1⟩ := q1
  cases r1
  refine wpAny_truthy_bool ?_
  cases c with
  | true => exact hb pins s1 σ H1 Q I1 q1
  | false => exact ⟨.bl false, H1, I1, rfl, q1⟩
theorem pe_not (ha : PE X a ta) : PE X (.UnaryOp .Not a pos) (tNotV ta) := by
  intro pins s σ H Q I h
  refine UnaryOp_ (thn (ha pins s σ H _ I h) fun v s1 ⟨x, H1, I1, r1, q1⟩ => ?_)
  obtain ⟨c, rfl, q1⟩ := q1
  cases r1
  exact not_of (wpAny_truthy_bool ⟨.bl (!c), H1, I1, rfl, q1⟩)
/-- a if t else b -/
def tIf (t : TT) (ta tb : TE) : TE := fun σ H Q => t σ H fun c H1 => if c = true then ta σ H1 Q else tb σ H1 Q
theorem pe_ifExp {c : Expr} (hc : PT X c tA) (ha : PE X a ta) (hb : PE X b tb) : PE X (.IfExp c a b pos) (tIf tA ta tb) := by
  intro pins s σ H Q I h
  refine wpAny_IfExp (thn (hc pins s σ H _ I h) fun d s1 ⟨H1, I1, q1⟩ => ?_)
  cases d with
  | true => exact ha pins s1 σ H1 Q I1 q1
  | false => exact hb pins s1 σ H1 Q I1 q1
end
end L2

namespace L2
open PySem PySem.Spec PyProof.Rows

/-! ### a list, a tuple that is read: tracked, frozen, or an object of the module -/
def SqL (K : PySem.W.Frag) (H : Hp) (a : Addr) (xs : List V) : Prop :=
  Rd H a (.lst xs) ∨
    ∃ (o : Obj) (its : Array Value) (n : Nat), K.lookup a = some o ∧ o.cls = .type "list" ∧ o.dict = none ∧ o.data = .seq its n ∧ its.size ≤ sizeLine ∧ Vals xs its.toList
def SqT (K : PySem.W.Frag) (H : Hp) (a : Addr) (xs : List V) : Prop :=
  Rd H a (.tup xs) ∨
    ∃ (o : Obj) (its : Array Value) (n : Nat), K.lookup a = some o ∧ o.cls = .type "tuple" ∧ o.data = .seq its n ∧ its.size ≤ sizeLine ∧ Vals xs its.toList
def absV : Value → Option V
  | .none => some .non
  | .bool b => some (.bl b)
  | .int i _ => some (.int i)
  | .str x _ => some (.str x)
  | .bytes b _ => some (.byt b)
  | .float b _ => some (.flt b)
  | .ref a => some (.ref a)
  | .type n => some (.ty n)
  | _ => none
theorem RelV.abs {x : V} {u : Value} (r : RelV x u) : absV u = some x := by
  cases x with
  | non => cases r; rfl
  | bl _ => cases r; rfl
  | int _ => obtain ⟨t, rfl⟩ := r; rfl
  | str _ => obtain ⟨t, rfl⟩ := r; rfl
  | byt _ => obtain ⟨t, rfl⟩ := r; rfl
  | flt _ => obtain ⟨t, rfl⟩ := r; rfl
  | ref _ => cases r; rfl
  | ty _ => cases r; rfl
theorem RelV.inj {x y : V} {u : Value} (r : RelV x u) (q : RelV y u) : x = y := Option.some.inj (r.abs.symm.trans q.abs)
theorem Vals.inj : ∀ {xs ys : List V} {us : List Value}, Vals xs us → Vals ys us → xs = ys
  | _, _, _, .nil, .nil => rfl
  | _, _, _, .cons r t, .cons r' t' => by rw [r.inj r', Vals.inj t t']
section
variable {X : Cx} {pins : List (Addr × Obj)} {σ : St} {H : Hp} {s : Shared} {a : Addr} {xs ys : List V}
theorem SqL.of {K : PySem.W.Frag} (h : H a = some (.lst xs)) : SqL K H a xs := .inl (.inl h)
theorem SqT.of {K : PySem.W.Frag} (h : H a = some (.tup xs)) : SqT K H a xs := .inl (.inl h)
theorem Inv.list (I : Inv X pins σ H s) (h : SqL X.K H a xs) : ∃ its : List Value, Vals xs its ∧ PlainL s.heap a its.toArray ∧ xs.length ≤ sizeLine := by
  rcases h with h | ⟨o, its, n, hk, hc, hd, hs, hz, r⟩
  · obtain ⟨z, its, n, r, e⟩ := h.ok I.hok
    exact ⟨its, r, ⟨_, n, e, rfl, rfl, rfl⟩, z⟩
  · refine ⟨its.toList, r, ⟨o, n, I.kIn a o hk, hc, hd, by simpa using hs⟩, ?_⟩
    have e := r.length
    simp only [Array.length_toList] at e
    omega
theorem Inv.tuple (I : Inv X pins σ H s) (h : SqT X.K H a xs) : ∃ its : List Value, Vals xs its ∧ IsTup s.heap a its.toArray ∧ xs.length ≤ sizeLine := by
  rcases h with h | ⟨o, its, n, hk, hc, hs, hz, r⟩
  · obtain ⟨z, its, r, p⟩ := h.ok I.hok
    exact ⟨its, r, p, z⟩
  · refine ⟨its.toList, r, ⟨o, I.kIn a o hk, hc, n, by simpa using hs⟩, ?_⟩
    have e := r.length
    simp only [Array.length_toList] at e
    omega
theorem Inv.list_inj (I : Inv X pins σ H s) (h : SqL X.K H a xs) (h' : SqL X.K H a ys) : xs = ys := by
  obtain ⟨its, r, ⟨o, n, e, _, _, d⟩, _⟩ := I.list h
  obtain ⟨its', r', ⟨o', n', e', _, _, d'⟩, _⟩ := I.list h'
  rw [e] at e'; cases e'
  rw [d] at d'
  injection d' with d1 _
  have : its = its' := by simpa using congrArg Array.toList d1
  subst this
  exact r.inj r'
theorem Inv.tuple_inj (I : Inv X pins σ H s) (h : SqT X.K H a xs) (h' : SqT X.K H a ys) : xs = ys := by
  obtain ⟨its, r, ⟨o, e, _, n, d⟩, _⟩ := I.tuple h
  obtain ⟨its', r', ⟨o', e', _, n', d'⟩, _⟩ := I.tuple h'
  rw [e] at e'; cases e'
  rw [d] at d'
  injection d' with d1 _
  have : its = its' := by simpa using congrArg Array.toList d1
  subst this
  exact r.inj r'
end

/-! ### another wish about exceptions -/
abbrev Cx.wish (X : Cx) (E : Value → Shared → Prop) : Cx := { X with xe := E }
/-- no exception leaves -/
abbrev Cx.nox (X : Cx) : Cx := X.wish fun _ _ => False
theorem Cx.Ok.wish {X : Cx} (ok : X.Ok) (E : Value → Shared → Prop) : (X.wish E).Ok :=
  ⟨ok.mod, ok.kind, ok.glob, ok.blt, ok.above, ok.inj, ok.has, ok.cab, ok.hd, ok.frames, ok.stk, ok.exf, ok.bs, ok.bsz, ok.noex, ok.exfs, ok.funs, ok.frf⟩
theorem Cx.Ok.unwish {X : Cx} {E : Value → Shared → Prop} (ok : (X.wish E).Ok) : X.Ok :=
  ⟨ok.mod, ok.kind, ok.glob, ok.blt, ok.above, ok.inj, ok.has, ok.cab, ok.hd, ok.frames, ok.stk, ok.exf, ok.bs, ok.bsz, ok.noex, ok.exfs, ok.funs, ok.frf⟩
section
variable {X : Cx} {pins : List (Addr × Obj)} {σ : St} {H : Hp} {s : Shared} {E : Value → Shared → Prop}
theorem Inv.wish (I : Inv X pins σ H s) (E : Value → Shared → Prop) : Inv (X.wish E) pins σ H s := ⟨I.ok.wish E, I.os, I.bare, I.base, I.loc, I.cell, I.free, I.freeC, I.pin, I.hok, I.len⟩
theorem Inv.unwish (I : Inv (X.wish E) pins σ H s) : Inv X pins σ H s := ⟨I.ok.unwish, I.os, I.bare, I.base, I.loc, I.cell, I.free, I.freeC, I.pin, I.hok, I.len⟩
theorem SP.unwish {D : Ends} {f : Flow} {s' : Shared} (h : SP (X.wish E) pins D f s') : SP X pins D f s' := by
  cases f with
  | next => obtain ⟨σ', H', I, q⟩ := h; exact ⟨σ', H', I.unwish, q⟩
  | brk => obtain ⟨σ', H', I, q⟩ := h; exact ⟨σ', H', I.unwish, q⟩
  | cont => obtain ⟨σ', H', I, q⟩ := h; exact ⟨σ', H', I.unwish, q⟩
  | ret u => obtain ⟨v, σ', H', I, r, q⟩ := h; exact ⟨v, σ', H', I.unwish, r, q⟩
theorem PSs.nox {st : List Stmt} {t : TS} (h : PSs X.nox st t) : PSs X st t := fun pins s σ H D I hw =>
  wpAny_mono (h pins s σ H D (I.wish _) hw) (fun _ _ q => q.unwish) fun _ _ z => False.elim z
end

/-! ### blocks and small statements -/
section
variable {X : Cx} {st : Stmt} {rest : List Stmt} {t u : TS} {e : Expr} {te : TE} {pos : Pos}
def tNext : TS := fun D σ H => D.nx σ H
def tSeq (t u : TS) : TS := fun D σ H => t { D with nx := u D } σ H
theorem pss_nil : PSs X [] tNext := fun _ _ σ H _ I h => wpAny_execs_nil ⟨σ, H, I, h⟩
theorem pss_cons (h1 : PS X st t) (h2 : PSs X rest u) : PSs X (st :: rest) (tSeq t u) := by
  intro pins s σ H D I h
  refine wpAny_execs_cons (thn (h1 pins s σ H { D with nx := u D } I h) fun f s1 q => ?_)
  cases f with
  | next =>
    obtain ⟨σ', H', I', q⟩ := q
    exact h2 pins s1 σ' H' D I' q
  | ret v => exact q
  | brk => exact q
  | cont => exact q
theorem pss_one (h1 : PS X st t) : PSs X [st] t := by
  intro pins s σ H D I h
  refine wpAny_execs_cons (thn (h1 pins s σ H D I h) fun f s1 q => ?_)
  cases f with
  | next => exact wpAny_execs_nil q
  | ret v => exact q
  | brk => exact q
  | cont => exact q
/-- in a def's body nothing is shown -/
theorem Inv.quiet {pins : List (Addr × Obj)} {σ : St} {H : Hp} {s : Shared} (I : Inv X pins σ H s) : interactive X.env = false := by simp [interactive, I.ok.kind]
/-- an expression whose value is dropped -/
def tDrop (te : TE) : TS := fun D σ H => te σ H fun _ H1 => D.nx σ H1
theorem ps_expr (he : PE X e te) (hs : swapsWith e none pos.line X.env = pure false := by rfl) : PS X (.Expr e pos) (tDrop te) := by
  intro pins s σ H D I h
  exact wpAny_Expr_any (thn (he pins s σ H _ I h) fun v s1 ⟨x, H1, I1, r1, q1⟩ => ⟨σ, H1, I1, q1⟩) I.quiet hs
def tRet (te : TE) : TS := fun D σ H => te σ H D.rt
theorem ps_ret (he : PE X e te) : PS X (.Return (some e) pos) (tRet te) := by
  intro pins s σ H D I h
  exact wpAny_Return_some (thn (he pins s σ H _ I h) fun v s1 ⟨x, H1, I1, r1, q1⟩ => ⟨x, σ, H1, I1, r1, q1⟩)
def tIfS (c : TT) (t u : TS) : TS := fun D σ H => c σ H fun b H1 => if b = true then t D σ H1 else u D σ H1
theorem ps_if {c : Expr} {a b : List Stmt} {tc : TT} (hc : PT X c tc) (ha : PSs X a t) (hb : PSs X b u) : PS X (.If c a b pos) (tIfS tc t u) := by
  intro pins s σ H D I h
  refine wpAny_If (thn (hc pins s σ H _ I h) fun d s1 ⟨H1, I1, q1⟩ => ?_)
  cases d with
  | true => exact ha pins s1 σ H1 D I1 q1
  | false => exact hb pins s1 σ H1 D I1 q1
end

/-! ### targets -/
abbrev TG := V → St → Hp → (St → Hp → Prop) → Prop
abbrev TGs := List V → St → Hp → (St → Hp → Prop) → Prop
def PG (X : Cx) (target : Expr) (t : TG) : Prop :=
  ∀ (pins : List (Addr × Obj)) (s : Shared) (σ : St) (H : Hp) (v : V) (u : Value) (Q : St → Hp → Prop), Inv X pins σ H s → RelV v u → t v σ H Q →
    wpAny (model X.prog X.w) X.A (assign target X.env u) (fun _ s' => ∃ σ' H', Inv X pins σ' H' s' ∧ Q σ' H') X.xe s
/-- several targets, one after another -/
def PGs (X : Cx) (ts : List Expr) (t : TGs) : Prop :=
  ∀ (pins : List (Addr × Obj)) (s : Shared) (σ : St) (H : Hp) (vs : List V) (us : List Value) (Q : St → Hp → Prop), Inv X pins σ H s → Vals vs us → t vs σ H Q →
    wpAny (model X.prog X.w) X.A (assignInOrder ((assignEach ts X.env).map (·.2)) us) (fun _ s' => ∃ σ' H', Inv X pins σ' H' s' ∧ Q σ' H') X.xe s
/-- o[i] = v, by values -/
abbrev TSet := V → V → V → Hp → (Hp → Prop) → Prop
def PSet (X : Cx) (t : TSet) : Prop :=
  ∀ (pins : List (Addr × Obj)) (s : Shared) (σ : St) (H : Hp) (o i v : V) (ov iv u : Value) (Q : Hp → Prop), Inv X pins σ H s → RelV o ov → RelV i iv → RelV v u → t o i v H Q →
    wpAny (model X.prog X.w) X.A (setItem ov iv u) (fun _ s' => ∃ H', Inv X pins σ H' s' ∧ Q H') X.xe s
/-- a op= b, by values -/
abbrev TIp := V → V → Hp → VK → Prop
def PIp (X : Cx) (op : Operator) (t : TIp) : Prop :=
  ∀ (pins : List (Addr × Obj)) (s : Shared) (σ : St) (H : Hp) (x y : V) (v u : Value) (Q : VK), Inv X pins σ H s → RelV x v → RelV y u → t x y H Q →
    wpAny (model X.prog X.w) X.A (inplaceOp op v u) (EP X pins σ Q) X.xe s
section
variable {X : Cx} {pos : Pos}
def gName (i : Nat) : TG := fun v σ H Q => Q (σ.set i (some v)) H
theorem pg_name {i : Nat} {x : Str} (hN : X.N.Nodup) (hi : X.N[i]? = some x) (hx : Loc X.env.scope x) (hf : X.fn x = true ∨ X.env.scope.names.lookup x = some .local := by first | exact .inl rfl | exact .inr rfl | assumption) : PG X (.Name x pos) (gName i) := by
  intro pins s σ H v u Q I r h
  exact wpAny_assign_Name (store_ok I hN hi hx r (fun s' I' => ⟨_, H, I', h⟩) hf)
def gNil : TGs := fun vs σ H Q => vs = [] ∧ Q σ H
def gCons (t : TG) (u : TGs) : TGs := fun vs σ H Q => ∃ v r, vs = v :: r ∧ t v σ H fun σ' H' => u r σ' H' Q
theorem pgs_nil : PGs X [] gNil := by
  intro pins s σ H vs us Q I r h
  obtain ⟨e, h⟩ := h
  subst e
  cases r
  exact assignInOrder_nil ⟨σ, H, I, h⟩
theorem pgs_cons {e : Expr} {es : List Expr} {t : TG} {u : TGs} (h1 : PG X e t) (h2 : PGs X es u)
    (hs : (assignEach (e :: es) X.env).map (·.2) = assign e X.env :: (assignEach es X.env).map (·.2) := by rfl) : PGs X (e :: es) (gCons t u) := by
  intro pins s σ H vs us Q I r h
  obtain ⟨v, vr, e1, h⟩ := h
  subst e1
  cases r with
  | cons r rr =>
    rw [hs]
    refine assignInOrder_cons (thn (h1 pins s σ H _ _ _ I r h) fun _ s1 ⟨σ1, H1, I1, q1⟩ => ?_)
    exact h2 pins s1 σ1 H1 _ _ Q I1 rr q1
/-- (a, b, ..) = a tuple of that length -/
def gTup (K : PySem.W.Frag) (n : Nat) (t : TGs) : TG := fun v σ H Q => ∃ a xs, v = .ref a ∧ SqT K H a xs ∧ xs.length = n ∧ t xs σ H Q
theorem pg_tup {es : List Expr} {k : Nat} {t : TGs} {n : Nat} (hc : X.calm = true) (h : PGs X es t)
    (hn : (assignEach es X.env).length = n := by rfl) (hst : (assignEach es X.env).findIdx? (·.1) = none := by rfl) : PG X (.Tuple es k pos) (gTup X.K n t) := by
  intro pins s σ H v u Q I r hw
  obtain ⟨a, xs, e1, hq, hl, hw⟩ := hw
  subst e1
  cases r
  obtain ⟨its, rv, ht, hz⟩ := I.tuple hq
  refine assign_Tuple_tuple (I.ok.hd hc) ht (by simp [hn, ← hl, rv.length]) hst fun h' hx => ?_
  have I1 : Inv X pins σ H { s with heap := h' } := I.kept (t' := s.toks) fun b o e => hx b o (Nat.ne_of_lt (Heap.lt_size e)) e
  exact h pins _ σ H xs _ Q I1 (by simpa using rv) hw
/-- o[i] = .. -/
def gSub (to ti : TE) (t : TSet) : TG := fun v σ H Q => to σ H fun o H1 => ti σ H1 fun i H2 => t o i v H2 fun H3 => Q σ H3
theorem pg_sub {o i : Expr} {to ti : TE} {t : TSet} (ho : PE X o to) (hi : PE X i ti) (hs : PSet X t)
    (ha : ∀ v, assign (.Subscript o i pos) X.env v = (do
      let ov ← holding [v] (eval o X.env)
      let iv ← holding [v, ov] (eval i X.env)
      standAt pos
      holding [v, ov, iv] (setItem ov iv v)
      release [v, ov, iv] []) := by intro _; rfl) : PG X (.Subscript o i pos) (gSub to ti t) := by
  intro pins s σ H v u Q I r h
  rw [ha]
  refine wpAny_bind (wpAny_holding (thn (ho pins s σ H _ I h) fun ov s1 ⟨x, H1, I1, r1, q1⟩ => ?_))
  refine wpAny_bind (wpAny_holding (thn (hi pins s1 σ H1 _ I1 q1) fun iv s2 ⟨y, H2, I2, r2, q2⟩ => ?_))
  refine wpAny_bind (wpAny_standAt (wpAny_bind (wpAny_holding (thn (hs pins s2 σ H2 x y v ov iv u _ I2 r1 r2 r q2) fun _ s3 ⟨H3, I3, q3⟩ => ?_))))
  exact wpAny_release ⟨σ, H3, I3, q3⟩
/-- target = value -/
def tAsg (te : TE) (g : TG) : TS := fun D σ H => te σ H fun x H1 => g x σ H1 D.nx
theorem ps_asg {tg e : Expr} {te : TE} {g : TG} (he : PE X e te) (hg : PG X tg g) (hs : swapsWithSole [tg] e pos.line X.env = pure false := by rfl) (hw : swappedStores [tg] e X.env = pure none := by rfl)
    (h1 : (assignEach [tg] X.env).map (·.2) = [assign tg X.env] := by rfl) : PS X (.Assign [tg] e pos) (tAsg te g) := by
  intro pins s σ H D I h
  refine wpAny_Assign_stores (thn (he pins s σ H _ I h) fun v s1 ⟨x, H1, I1, r1, q1⟩ => ?_) hs hw
  rw [h1]
  exact thn (hg pins s1 σ H1 x v _ I1 r1 q1) fun _ s2 q => q
/-- name = value -/
theorem ps_set {i : Nat} {x : Str} {e : Expr} {te : TE} {pos' : Pos} (hN : X.N.Nodup) (hi : X.N[i]? = some x) (hx : Loc X.env.scope x) (he : PE X e te) (hs : swapsWith e (some (.Name x pos')) pos.line X.env = pure false := by rfl) (hf : X.fn x = true ∨ X.env.scope.names.lookup x = some .local := by first | exact .inl rfl | exact .inr rfl | assumption) :
    PS X (.Assign [.Name x pos'] e pos) (tAsg te (gName i)) := by
  intro pins s σ H D I h
  refine wpAny_Assign_Name (thn (he pins s σ H _ I h) fun v s1 ⟨y, H1, I1, r1, q1⟩ => ?_) hs
  exact store_ok I1 hN hi hx r1 (fun s2 I2 => ⟨_, H1, I2, q1⟩) hf
/-- o[i], by values -/
def PGet (X : Cx) (t : V → V → Hp → VK → Prop) : Prop :=
  ∀ (pins : List (Addr × Obj)) (s : Shared) (σ : St) (H : Hp) (o i : V) (ov iv : Value) (Q : VK), Inv X pins σ H s → RelV o ov → RelV i iv → t o i H Q →
    wpAny (model X.prog X.w) X.A (getItem ov iv) (EP X pins σ Q) X.xe s
end

/-! ### while -/
section
variable {X : Cx} {pos : Pos}
end

/-! ### what a loop or a comprehension walks -/
/-- at turn i: it yields x (the heap may grow), or it stops -/
structure It where
  go : Nat → Hp → Prop
  yld : Nat → Hp → V → Hp → Prop
  stop : Nat → Hp → Prop
/-- the iterator's own objects may turn: they are not the frame's, not pinned, younger than the entry (or a comprehension's own) -/
def FpOk (X : Cx) (pins : List (Addr × Obj)) (H : Hp) (b : Addr) : Prop :=
  H b = none ∧ b ≠ X.env.locals ∧ b ∉ X.fs ∧ (b ∈ X.ex ∨ X.s₀.heap.objs.size ≤ b) ∧ (∀ x c, X.env.cells.lookup x = some c → c ≠ b) ∧ ∀ p ∈ X.pn ++ pins, p.1 ≠ b
theorem Inv.fpOk {X : Cx} {pins : List (Addr × Obj)} {σ : St} {H H' : Hp} {s : Shared} {b : Addr} (I : Inv X pins σ H s) (hb : s.heap.objs.size ≤ b) (hn : H' b = none) : FpOk X pins H' b := by
  refine ⟨hn, Nat.ne_of_gt (Nat.lt_of_lt_of_le I.lt hb), I.nofs hb, .inr (Nat.le_trans I.sz hb), fun x c e z => ?_, fun p hp z => ?_⟩
  · obtain ⟨v, q⟩ := I.cell x c e
    exact absurd (Nat.lt_of_lt_of_le q.lt (by rw [z]; exact hb)) (Nat.lt_irrefl _)
  · exact absurd (Nat.lt_of_lt_of_le (Heap.lt_size (I.pin p hp).1) (by rw [z]; exact hb)) (Nat.lt_irrefl _)
structure Turn (P : Program) (w : World) (K : PySem.W.Frag) (tg : Expr) (J : It) (fp : List Addr) (it : Addr) (tn : Nat → Heap → Prop) : Prop where
  mem : it ∈ fp
  obj : ∀ i h, tn i h → ∀ b ∈ fp, ∃ o, h.get? b = some o ∧ ∀ v, o.data ≠ .cell v
  keep : ∀ i h h', tn i h → (∀ b ∈ fp, ∀ o, h.get? b = some o → h'.get? b = some o) → tn i h'
  item : ∀ (X : Cx), X.prog = P → X.w = w → X.K = K → X.calm = true → ∀ (i : Nat) (pins : List (Addr × Obj)) (s : Shared) (σ : St) (H : Hp) (E : Value → Shared → Prop), Inv X pins σ H s → (∀ b ∈ fp, FpOk X pins H b) → tn i s.heap → J.go i H →
    wpAny (model P w) X.A (pyNext (.ref it)) (fun r s1 => ∃ u, r = some u ∧
      wpAny (model P w) X.A (letOwnedTupleGo tg (.ref it) u) (fun _ s2 => ∃ x H', Inv X pins σ H' s2 ∧ RelV x u ∧ J.yld i H x H' ∧ tn (i + 1) s2.heap ∧ ∀ b ∈ fp, H' b = none) E s1) E s
  done : ∀ (X : Cx), X.prog = P → X.w = w → X.K = K → X.calm = true → ∀ (i : Nat) (pins : List (Addr × Obj)) (s : Shared) (σ : St) (H : Hp) (E : Value → Shared → Prop), Inv X pins σ H s → (∀ b ∈ fp, FpOk X pins H b) → tn i s.heap → J.stop i H →
    wpAny (model P w) X.A (pyNext (.ref it)) (fun r s1 => r = none ∧ Inv X pins σ H s1) E s
  self : ∀ (A : Around) (i : Nat) (s : Shared) (Q : Value → Shared → Prop) (E : Value → Shared → Prop), tn i s.heap → Q (.ref it) s → wpAny (model P w) A (pyIter (.ref it)) Q E s
abbrev TI := St → Hp → (It → Hp → Prop) → Prop
/-- an iterator has come -/
def PIE (X : Cx) (pins : List (Addr × Obj)) (σ : St) (tg : Expr) (R : It → Hp → Prop) (itv : Value) (s2 : Shared) : Prop :=
  ∃ (it : Addr) (fp : List Addr) (tn : Nat → Heap → Prop) (J : It) (H' : Hp), itv = .ref it ∧ Inv X pins σ H' s2 ∧ Turn X.prog X.w X.K tg J fp it tn ∧ tn 0 s2.heap ∧ (∀ b ∈ fp, FpOk X pins H' b) ∧ R J H'
def PI (X : Cx) (tg iter : Expr) (wi : TI) : Prop :=
  ∀ (pins : List (Addr × Obj)) (s : Shared) (σ : St) (H : Hp) (R : It → Hp → Prop), Inv X pins σ H s → wi σ H R →
    wpAny (model X.prog X.w) X.A (eval iter X.env) (fun v s1 => wpAny (model X.prog X.w) X.A (pyIter v) (PIE X pins σ tg R) X.xe s1) X.xe s

/-- the step ahead of the store is nothing for an iterator that keeps no tuple -/
theorem go_of {M : Model} {A : Around} {E : Value → Shared → Prop} {s : Shared} {tg : Expr} {it : Addr} {u : Value} {o : Obj} {n : String} {vs : Array Value} {Q : Unit → Shared → Prop} (ho : s.heap.get? it = some o) (hc : o.cls = .type n) (hd : o.data = .fields vs)
    (hn : ["enumerate", "zip", "dict_itemiterator", "dict_reverseitemiterator", "odict_iterator", "itertools.zip_longest", "itertools.pairwise"].contains n = false) (hQ : Q () s) : wpAny M A (letOwnedTupleGo tg (.ref it) u) Q E s := by
  unfold letOwnedTupleGo
  cases tg <;> first
    | exact wpAny_pure hQ
    | (cases u <;> first
        | exact wpAny_pure hQ
        | (refine wpAny_bind (wpAny_load ho ?_)
           rw [hc, hd]
           show wpAny M A (if (["enumerate", "zip", "dict_itemiterator", "dict_reverseitemiterator", "odict_iterator", "itertools.zip_longest", "itertools.pairwise"].contains n && vs[0]? == some (rawInt _)) = true then _ else _) Q E s
           rw [if_neg (by intro h; rw [hn, Bool.false_and] at h; cases h)]
           exact wpAny_pure hQ))

/-- the list at a, as it stands at each turn (a loop may append to it) -/
def Itl (K : PySem.W.Frag) (a : Addr) : It :=
  ⟨fun i H => ∃ xs x, SqL K H a xs ∧ xs[i]? = some x, fun i H x H' => H' = H ∧ ∀ xs, SqL K H a xs → xs[i]? = some x, fun i H => ∃ xs, SqL K H a xs ∧ xs.length ≤ i⟩
def Itt (K : PySem.W.Frag) (a : Addr) : It :=
  ⟨fun i H => ∃ xs x, SqT K H a xs ∧ xs[i]? = some x, fun i H x H' => H' = H ∧ ∀ xs, SqT K H a xs → xs[i]? = some x, fun i H => ∃ xs, SqT K H a xs ∧ xs.length ≤ i⟩
/-- lo, lo + 1, .. (n of them) -/
def Itr (lo : Int) (n : Nat) : It := ⟨fun i _ => i < n, fun i H x H' => H' = H ∧ x = .int (lo + i), fun i _ => n ≤ i⟩
theorem turn_list {P : Program} {w : World} {K : PySem.W.Frag} {tg : Expr} (a it : Addr) : Turn P w K tg (Itl K a) [it] it (fun i h => h.IsListIter it a i) where
  mem := by simp
  obj := fun i h st b hb => by
    have e : b = it := by simpa using hb
    subst e
    obtain ⟨o, e, c, d⟩ := st
    exact ⟨o, e, fun v z => by rw [d] at z; cases z⟩
  keep := fun i h h' st k => st.at fun o e => k it (by simp) o e
  item := by
    intro X hP hw hK hc i pins s σ H E I hf st hg
    subst hP hw hK
    obtain ⟨xs, x, hq, hx⟩ := hg
    obtain ⟨its, rv, p, hz⟩ := I.list hq
    obtain ⟨u, hu, ru⟩ := rv.get hx
    obtain ⟨f0, f1, f2, f3, f4, f5⟩ := hf it (by simp)
    refine wpAny_pyNext_list_item st p.isList (x := u) (by simpa using hu) fun h' st' sb => ?_
    have I1 : Inv X pins σ H { s with heap := h' } := I.turned (t' := s.toks) (fun b o hb e => (sb.2 b hb).trans e) f0 f1 f3 f4 f5
    obtain ⟨o, e, c, d⟩ := id st'
    exact ⟨u, rfl, go_of (s := { s with heap := h' }) e c d (by decide) ⟨x, H, I1, ru, ⟨rfl, fun ys hy => by rw [I.list_inj hy hq]; exact hx⟩, st', fun b hb => (hf b hb).1⟩⟩
  done := by
    intro X hP hw hK hc i pins s σ H E I hf st hg
    subst hP hw hK
    obtain ⟨xs, hq, hx⟩ := hg
    obtain ⟨its, rv, p, hz⟩ := I.list hq
    obtain ⟨f0, f1, f2, f3, f4, f5⟩ := hf it (by simp)
    have hl := rv.length
    exact wpAny_pyNext_list_end (I.ok.hd hc) st p.isList (by simp; omega) fun h' eb => ⟨rfl, I.turned (t' := s.toks) (fun b o hb e => eb b o hb e) f0 f1 f3 f4 f5⟩
  self := fun _ _ _ _ _ st h => wpAny_pyIter_listiter st h
theorem turn_tuple {P : Program} {w : World} {K : PySem.W.Frag} {tg : Expr} (a it : Addr) : Turn P w K tg (Itt K a) [it] it (fun i h => h.IsTupleIter it a i) where
  mem := by simp
  obj := fun i h st b hb => by
    have e : b = it := by simpa using hb
    subst e
    obtain ⟨o, e, c, d⟩ := st
    exact ⟨o, e, fun v z => by rw [d] at z; cases z⟩
  keep := fun i h h' st k => st.at fun o e => k it (by simp) o e
  item := by
    intro X hP hw hK hc i pins s σ H E I hf st hg
    subst hP hw hK
    obtain ⟨xs, x, hq, hx⟩ := hg
    obtain ⟨its, rv, p, hz⟩ := I.tuple hq
    obtain ⟨u, hu, ru⟩ := rv.get hx
    obtain ⟨f0, f1, f2, f3, f4, f5⟩ := hf it (by simp)
    refine wpAny_pyNext_tuple_item st (show s.heap.IsTuple a its.toArray from p) (x := u) (by simpa using hu) fun h' st' sb => ?_
    have I1 : Inv X pins σ H { s with heap := h' } := I.turned (t' := s.toks) (fun b o hb e => (sb.2 b hb).trans e) f0 f1 f3 f4 f5
    obtain ⟨o, e, c, d⟩ := id st'
    exact ⟨u, rfl, go_of (s := { s with heap := h' }) e c d (by decide) ⟨x, H, I1, ru, ⟨rfl, fun ys hy => by rw [I.tuple_inj hy hq]; exact hx⟩, st', fun b hb => (hf b hb).1⟩⟩
  done := by
    intro X hP hw hK hc i pins s σ H E I hf st hg
    subst hP hw hK
    obtain ⟨xs, hq, hx⟩ := hg
    obtain ⟨its, rv, p, hz⟩ := I.tuple hq
    obtain ⟨f0, f1, f2, f3, f4, f5⟩ := hf it (by simp)
    have hl := rv.length
    exact wpAny_pyNext_tuple_end (I.ok.hd hc) st (show s.heap.IsTuple a its.toArray from p) (by simp; omega) fun h' eb => ⟨rfl, I.turned (t' := s.toks) (fun b o hb e => eb b o hb e) f0 f1 f3 f4 f5⟩
  self := fun _ _ _ _ _ st h => wpAny_pyIter_tupleiter st h
theorem turn_range {P : Program} {w : World} {K : PySem.W.Frag} {tg : Expr} (it : Addr) (lo : Int) (n : Nat) : Turn P w K tg (Itr lo n) [it] it (fun i h => IsRangeIter h it (lo + (i : Nat) * 1) ((n : Int) - (i : Nat)) 1) where
  mem := by simp
  obj := fun i h st b hb => by
    have e : b = it := by simpa using hb
    subst e
    exact ⟨_, st, fun v z => by
      have z' : Data.fields _ = Data.cell v := z
      cases z'⟩
  keep := fun i h h' st k => k it (by simp) _ st
  item := by
    intro X hP hw hK hc i pins s σ H E I hf st hg
    subst hP hw hK
    obtain ⟨f0, f1, f2, f3, f4, f5⟩ := hf it (by simp)
    have W := Walks.range (prog := X.prog) (w := X.w) (I.ok.hd hc) it lo 1 n
    refine W.item i s _ _ hg st fun v h' tk hv st' kk => ?_
    obtain ⟨t, rfl⟩ := hv
    have I1 : Inv X pins σ H { s with heap := h', toks := tk } := I.turned (fun b o hb e => kk b o (by simpa using hb) e) f0 f1 f3 f4 f5
    refine ⟨_, rfl, go_of (s := { s with heap := h', toks := tk }) (n := "range_iterator") st' rfl rfl (by decide) ⟨.int (lo + i), H, I1, ⟨t, ?_⟩, ⟨rfl, rfl⟩, st', fun b hb => (hf b hb).1⟩⟩
    rw [Int.mul_one]
  done := by
    intro X hP hw hK hc i pins s σ H E I hf st hg
    subst hP hw hK
    obtain ⟨f0, f1, f2, f3, f4, f5⟩ := hf it (by simp)
    exact wpAny_pyNext_range_end (I.ok.hd hc) st (by have : n ≤ i := hg; omega) fun h' eb => ⟨rfl, I.turned (t' := s.toks) (fun b o hb e => eb b o hb e) f0 f1 f3 f4 f5⟩
  self := fun _ _ _ _ _ st h => wpAny_pyIter_rangeiter st h
end L2

namespace L2
open PySem PySem.Spec PyProof.Rows
section
variable {X : Cx} {tg : Expr}
def iList (K : PySem.W.Frag) (tl : TE) : TI := fun σ H R => tl σ H fun x H1 => ∃ a, x = .ref a ∧ (∃ xs, SqL K H1 a xs) ∧ R (Itl K a) H1
def iTup (K : PySem.W.Frag) (tl : TE) : TI := fun σ H R => tl σ H fun x H1 => ∃ a, x = .ref a ∧ (∃ xs, SqT K H1 a xs) ∧ R (Itt K a) H1
theorem pi_list {l : Expr} {tl : TE} (hl : PE X l tl) : PI X tg l (iList X.K tl) := by
  intro pins s σ H R I h
  refine thn (hl pins s σ H _ I h) fun v s1 ⟨x, H1, I1, r1, q1⟩ => ?_
  obtain ⟨a, e, ⟨xs, hq⟩, q⟩ := q1
  subst e
  cases r1
  obtain ⟨its, rv, p, hz⟩ := I1.list hq
  refine wpAny_pyIter_list p.isList ?_
  refine ⟨s1.heap.objs.size, [s1.heap.objs.size], _, _, H1, rfl, I1.kept (t' := s1.toks) fun b o e => Heap.get?_push_of_some _ e, turn_list a _, ⟨_, Heap.get?_push_size _ rfl, rfl, rfl⟩, fun b hb => ?_, q⟩
  have e : b = s1.heap.objs.size := by simpa using hb
  subst e
  exact I1.fpOk (Nat.le_refl _) (I1.hok.fresh (Nat.le_refl _))
theorem pi_tup {l : Expr} {tl : TE} (hl : PE X l tl) : PI X tg l (iTup X.K tl) := by
  intro pins s σ H R I h
  refine thn (hl pins s σ H _ I h) fun v s1 ⟨x, H1, I1, r1, q1⟩ => ?_
  obtain ⟨a, e, ⟨xs, hq⟩, q⟩ := q1
  subst e
  cases r1
  obtain ⟨its, rv, p, hz⟩ := I1.tuple hq
  refine wpAny_pyIter_tuple (show s1.heap.IsTuple a its.toArray from p) ?_
  refine ⟨s1.heap.objs.size, [s1.heap.objs.size], _, _, H1, rfl, I1.kept (t' := s1.toks) fun b o e => Heap.get?_push_of_some _ e, turn_tuple a _, ⟨_, Heap.get?_push_size _ rfl, rfl, rfl⟩, fun b hb => ?_, q⟩
  have e : b = s1.heap.objs.size := by simpa using hb
  subst e
  exact I1.fpOk (Nat.le_refl _) (I1.hok.fresh (Nat.le_refl _))
/-- a range object just made, walked -/
theorem range_it {pins : List (Addr × Obj)} {σ : St} {H : Hp} {s : Shared} {R : It → Hp → Prop} {E : Value → Shared → Prop} {lo hi : Int} {t u v : Tok} {tk : Nat} (I : Inv X pins σ H s) (h1 : -(2 ^ 62) ≤ lo) (h2 : lo < 2 ^ 62) (h3 : -(2 ^ 62) ≤ hi) (h4 : hi < 2 ^ 62)
    (q : R (Itr lo (hi - lo).toNat) H) : wpAny (model X.prog X.w) X.A (pyIter (.ref s.heap.objs.size)) (PIE X pins σ tg R) E { s with heap := s.heap.push { cls := .type "range", data := .fields #[.int lo t, .int hi u, .int 1 v] }, toks := tk } := by
  refine wpAny_pyIter_range (IsRange.new ..) (small_one h1 h2 h3 h4) ?_
  have I1 : Inv X pins σ H { s with heap := s.heap.push { cls := .type "range", data := .fields #[.int lo t, .int hi u, .int 1 v] }, toks := tk } := I.kept fun b o e => Heap.get?_push_of_some _ e
  refine ⟨(s.heap.push { cls := .type "range", data := .fields #[.int lo t, .int hi u, .int 1 v] }).objs.size, [(s.heap.push { cls := .type "range", data := .fields #[.int lo t, .int hi u, .int 1 v] }).objs.size], _, _, H, rfl,
    I1.kept (t' := tk) fun b o e => Heap.get?_push_of_some _ e, turn_range _ lo (hi - lo).toNat, ?_, fun b hb => ?_, q⟩
  · have e1 : lo + ((0 : Nat) : Int) * 1 = lo := by simp
    have e2 : (((hi - lo).toNat : Nat) : Int) - ((0 : Nat) : Int) = Builtin.Range.rangeSize lo hi 1 := by rw [rangeSize_one]; split <;> omega
    show IsRangeIter _ _ (lo + ((0 : Nat) : Int) * 1) ((((hi - lo).toNat : Nat) : Int) - ((0 : Nat) : Int)) 1
    rw [e1, e2]
    exact Heap.get?_push_size _ rfl
  · have e : b = (s.heap.push { cls := .type "range", data := .fields #[.int lo t, .int hi u, .int 1 v] }).objs.size := by simpa using hb
    subst e
    exact I1.fpOk (Nat.le_refl _) (I1.hok.fresh (Nat.le_refl _))
def iRng1 (ta : TA) : TI := fun σ H R => ta σ H fun vs H1 => ∃ j : Int, vs = [.int j] ∧ -(2 ^ 62) ≤ j ∧ j < 2 ^ 62 ∧ R (Itr 0 j.toNat) H1
theorem pi_range1 {a : Expr} {ta : TA} {p pos : Pos} (hg : Gl X "range") (hm : X.mg "range" = none) (ha : PA X [a] ta) (hs : starEach [a] X.env = [(false, eval a X.env)] := by rfl) : PI X tg (.Call (.Name "range" p) [a] [] pos) (iRng1 ta) := by
  intro pins s σ H R I h
  refine Call_ (ld_blt I hg hm boot_range (PyProof.Rows.callWith_type1 (thn (ha pos pins s σ H _ I h) fun us s1 ⟨vs, H1, I1, r1, q1⟩ => ?_) hs rfl))
  obtain ⟨j, e, q1, q2, q⟩ := q1
  subst e
  cases r1 with
  | cons r rr =>
    cases rr
    obtain ⟨t, rfl⟩ := r
    exact call_range_1 (range_it I1 (by omega) (by omega) q1 q2 (by simpa using q))

/-! ### for -/
/-- W: the invariant by the turn and a measure; N: what the body is to reach -/
def tFor (wi : TI) (g : TG) (tb : TS) : TS := fun D σ H => wi σ H fun J H1 => ∃ W : Nat → Nat → St → Hp → Prop, (∃ m, W 0 m σ H1) ∧ ∀ i m σ H, W i m σ H →
  (J.stop i H ∧ D.nx σ H) ∨ (J.go i H ∧ ∃ N : St → Hp → Prop, (∀ σ' H', N σ' H' → ∃ m', m' < m ∧ W (i + 1) m' σ' H') ∧ ∀ x H', J.yld i H x H' → g x σ H' fun σ2 H2 => tb { D with nx := N, ct := N, bk := D.nx } σ2 H2)
/-- the records at fp as they stand -/
def pinsAt (fp : List Addr) (h : Heap) : List (Addr × Obj) := fp.filterMap fun b => (h.get? b).map fun o => (b, o)
theorem mem_pinsAt {fp : List Addr} {h : Heap} {b : Addr} {o : Obj} (hb : b ∈ fp) (e : h.get? b = some o) : (b, o) ∈ pinsAt fp h := List.mem_filterMap.mpr ⟨b, hb, by rw [e]; rfl⟩
theorem of_pinsAt {fp : List Addr} {h : Heap} {p : Addr × Obj} (hp : p ∈ pinsAt fp h) : p.1 ∈ fp ∧ h.get? p.1 = some p.2 := by
  obtain ⟨b, hb, e⟩ := List.mem_filterMap.mp hp
  cases q : h.get? b with
  | none => rw [q] at e; cases e
  | some o =>
    rw [q] at e
    have e' : (b, o) = p := Option.some.inj e
    subst e'
    exact ⟨hb, q⟩
theorem Inv.pinned {pins : List (Addr × Obj)} {σ : St} {H : Hp} {s : Shared} {fp : List Addr} (I : Inv X pins σ H s) (hf : ∀ b ∈ fp, FpOk X pins H b) (ho : ∀ b ∈ fp, ∃ o, s.heap.get? b = some o ∧ ∀ v, o.data ≠ .cell v) : Inv X (pins ++ pinsAt fp s.heap) σ H s :=
  I.pins_of fun p hp => (List.mem_append.mp hp).elim (fun z => I.pin p (List.mem_append_right _ z)) fun z => by
    obtain ⟨hb, e⟩ := of_pinsAt z
    obtain ⟨f0, f1, f2, _⟩ := hf p.1 hb
    obtain ⟨o, e', d⟩ := ho p.1 hb
    rw [e] at e'; cases e'
    exact ⟨e, f0, f1, f2, d⟩
theorem Inv.unpinned {pins pl : List (Addr × Obj)} {σ : St} {H : Hp} {s : Shared} (I : Inv X (pins ++ pl) σ H s) : Inv X pins σ H s := I.pins_of fun p hp => I.pin p (List.mem_append_right _ (List.mem_append_left _ hp))
theorem ps_for {iter : Expr} {body : List Stmt} {wi : TI} {g : TG} {tb : TS} {pos : Pos} (hp : PassesOwn (model X.prog X.w) X.A X.env X.xe) (hc : X.calm = true) (hi : PI X tg iter wi) (hg : PG X tg g) (hb : PSs X body tb)
    (hs : ∀ x, foldedSetIterable iter X.env x = pure x := by intro _; rfl) : PS X (.For tg iter body [] pos) (tFor wi g tb) := by
  intro pins s σ H D I h
  refine wpAny_For (thn (hi pins s σ H _ I h) fun v s1 h1 => thn h1 fun itv s2 h2 => ?_) hs
  obtain ⟨it, fp, tn, J, H2, e, I2, T, st2, f2, W, ⟨m0, w0⟩, turn⟩ := h2
  subst e
  -- what stays true of the iterator's objects through the loop
  have stat : ∀ {H' : Hp}, (∀ b ∈ fp, H' b = none) → ∀ b ∈ fp, FpOk X pins H' b := fun hn b hb => ⟨hn b hb, (f2 b hb).2⟩
  refine codeAny_forLoop_any (fun n s' => ∃ i σ' H', Inv X pins σ' H' s' ∧ tn i s'.heap ∧ (∀ b ∈ fp, H' b = none) ∧ W i n σ' H') ?_ m0 ⟨0, σ, H2, I2, st2, fun b hb => (f2 b hb).1, w0⟩
  rintro n s3 ⟨i, σ3, H3, I3, st3, fr3, w3⟩
  rcases turn i n σ3 H3 w3 with ⟨stop, qn⟩ | ⟨go, N, hN, step⟩
  · refine wpAny_passesOwn hp (thn (T.done X rfl rfl rfl hc i pins s3 σ3 H3 X.xe I3 (stat fr3) st3 stop) fun r s4 ⟨hr, I4⟩ => ?_)
    subst hr
    exact wpAny_execs_nil ⟨σ3, H3, I4, qn⟩
  · refine wpAny_passesOwn hp (thn (T.item X rfl rfl rfl hc i pins s3 σ3 H3 X.xe I3 (stat fr3) st3 go) fun r s4 ⟨u, hr, h4⟩ => ?_)
    subst hr
    refine wpAny_passesOwn hp (thn h4 fun _ s5 ⟨x, H5, I5, r5, y5, st5, fr5⟩ => ?_)
    have I5' := I5.pinned (stat fr5) (T.obj _ _ st5)
    refine wpAny_passesOwn hp (thn (hg _ s5 σ3 H5 x u _ I5' r5 (step x H5 y5)) fun _ s6 ⟨σ6, H6, I6, q6⟩ => ?_)
    refine wpAny_passesOwn hp (thn (hb _ s6 σ6 H6 _ I6 q6) fun f s7 q7 => ?_)
    have again : ∀ {σ7 : St} {H7 : Hp}, Inv X (pins ++ pinsAt fp s5.heap) σ7 H7 s7 → N σ7 H7 → ∃ m, m < n ∧ ∃ i σ' H', Inv X pins σ' H' s7 ∧ tn i s7.heap ∧ (∀ b ∈ fp, H' b = none) ∧ W i m σ' H' := fun {σ7 H7} I7 n7 => by
      obtain ⟨m', hm, w7⟩ := hN σ7 H7 n7
      refine ⟨m', hm, i + 1, σ7, H7, I7.unpinned, T.keep _ _ _ st5 fun b hb o e => (I7.pin (b, o) (List.mem_append_right _ (List.mem_append_right _ (mem_pinsAt hb e)))).1, fun b hb => ?_, w7⟩
      obtain ⟨o, e, d⟩ := T.obj _ _ st5 b hb
      exact (I7.pin (b, o) (List.mem_append_right _ (List.mem_append_right _ (mem_pinsAt hb e)))).2.1
    cases f with
    | next => obtain ⟨σ7, H7, I7, n7⟩ := q7; exact again I7 n7
    | cont => obtain ⟨σ7, H7, I7, n7⟩ := q7; exact again I7 n7
    | brk => obtain ⟨σ7, H7, I7, q7⟩ := q7; exact ⟨σ7, H7, I7.unpinned, q7⟩
    | ret v => obtain ⟨x7, σ7, H7, I7, r7, q7⟩ := q7; exact ⟨x7, σ7, H7, I7.unpinned, r7, q7⟩
end

/-! ### the forms one uses -/
theorem for_range {lo : Int} {n : Nat} {g : TG} {tb : TS} {D : Ends} {σ : St} {H : Hp} (Pv : Nat → St → Hp → Prop) (h0 : Pv 0 σ H)
    (hs : ∀ i σ H, i < n → Pv i σ H → g (.int (lo + i)) σ H fun σ2 H2 => tb { D with nx := Pv (i + 1), ct := Pv (i + 1), bk := D.nx } σ2 H2) (hd : ∀ σ H, Pv n σ H → D.nx σ H) :
    ∃ W : Nat → Nat → St → Hp → Prop, (∃ m, W 0 m σ H) ∧ ∀ i m σ H, W i m σ H →
      ((Itr lo n).stop i H ∧ D.nx σ H) ∨ ((Itr lo n).go i H ∧ ∃ N : St → Hp → Prop, (∀ σ' H', N σ' H' → ∃ m', m' < m ∧ W (i + 1) m' σ' H') ∧ ∀ x H', (Itr lo n).yld i H x H' → g x σ H' fun σ2 H2 => tb { D with nx := N, ct := N, bk := D.nx } σ2 H2) := by
  refine ⟨fun i m σ H => m = n - i ∧ i ≤ n ∧ Pv i σ H, ⟨n, by simp, Nat.zero_le _, h0⟩, ?_⟩
  rintro i m σ H ⟨rfl, hi, p⟩
  by_cases hlt : i < n
  · refine .inr ⟨hlt, Pv (i + 1), fun σ' H' p' => ⟨n - (i + 1), by omega, rfl, hlt, p'⟩, fun x H' y => ?_⟩
    obtain ⟨e, y⟩ := y
    subst e y
    exact hs i σ _ hlt p
  · have e : i = n := by omega
    subst e
    exact .inl ⟨Nat.le_refl _, hd σ H p⟩
end L2

namespace L2
open PySem PySem.Spec PyProof.Rows

abbrev R2 := V → V → Hp → VK → Prop
/-- a two-place operation on values: f is binaryOp op, inplaceOp op or compareOp op -/
def OpR (X : Cx) (f : Value → Value → Sem Value) (r : R2) : Prop :=
  ∀ (pins : List (Addr × Obj)) (s : Shared) (σ : St) (H : Hp) (x y : V) (v u : Value) (Q : VK), Inv X pins σ H s → RelV x v → RelV y u → r x y H Q →
    wpAny (model X.prog X.w) X.A (f v u) (EP X pins σ Q) X.xe s
/-- a one-place operation -/
def UnR (X : Cx) (f : Value → Sem Value) (r : V → Hp → VK → Prop) : Prop :=
  ∀ (pins : List (Addr × Obj)) (s : Shared) (σ : St) (H : Hp) (x : V) (v : Value) (Q : VK), Inv X pins σ H s → RelV x v → r x H Q →
    wpAny (model X.prog X.w) X.A (f v) (EP X pins σ Q) X.xe s
/-- a call of a value that is known (a builtin, a type) with values -/
def CallR (X : Cx) (f : Value) (r : List V → Hp → VK → Prop) : Prop :=
  ∀ (pins : List (Addr × Obj)) (s : Shared) (σ : St) (H : Hp) (xs : List V) (us : List Value) (Q : VK), Inv X pins σ H s → Vals xs us → r xs H Q →
    wpAny (model X.prog X.w) X.A (call f us) (EP X pins σ Q) X.xe s

def tOp (r : R2) (ta tb : TE) : TE := fun σ H Q => ta σ H fun x H1 => tb σ H1 fun y H2 => r x y H2 Q
/-- ints in, under C, and a value out -/
def rI (C : Int → Int → Prop) (g : Int → Int → V) : R2 := fun x y H Q => ∃ i j, x = .int i ∧ y = .int j ∧ C i j ∧ Q (g i j) H
def rI0 (g : Int → Int → V) : R2 := fun x y H Q => ∃ i j, x = .int i ∧ y = .int j ∧ Q (g i j) H

section
variable {X : Cx} {a b c : Expr} {ta tb tc : TE} {pos : Pos}

theorem binT (ha : PE X a ta) (hb : PE X b tb) {pins : List (Addr × Obj)} {s : Shared} {σ : St} {H : Hp} {R : V → V → Hp → Prop} (I : Inv X pins σ H s)
    (h : ta σ H fun x H1 => tb σ H1 fun y H2 => R x y H2) {Q : Value → Shared → Prop} {f : Value → Value → Sem Value}
    (hf : ∀ v u s2 x y H2, Inv X pins σ H2 s2 → RelV x v → RelV y u → R x y H2 → wpAny (model X.prog X.w) X.A (f v u) Q X.xe s2) :
    wpAny (model X.prog X.w) X.A (eval a X.env) (fun v s₁ => wpAny (model X.prog X.w) X.A (eval b X.env) (fun u s₂ => wpAny (model X.prog X.w) X.A (f v u) Q X.xe s₂) X.xe s₁) X.xe s := by
  refine thn (ha pins s σ H _ I h) fun v s1 ⟨x, H1, I1, r1, q1⟩ => ?_
  refine thn (hb pins s1 σ H1 _ I1 q1) fun u s2 ⟨y, H2, I2, r2, q2⟩ => ?_
  exact hf v u s2 x y H2 I2 r1 r2 q2

theorem pe_op {op : Operator} {r : R2} (ho : OpR X (binaryOp op) r) (ha : PE X a ta) (hb : PE X b tb) : PE X (.BinOp a op b pos) (tOp r ta tb) := by
  intro pins s σ H Q I h
  exact wpAny_BinOp (binT ha hb I h fun v u s2 x y H2 I2 rx ry q => ho pins s2 σ H2 x y v u Q I2 rx ry q)

/-! ### ints -/
theorem opI {f : Value → Value → Sem Value} {C : Int → Int → Prop} {g : Int → Int → Int}
    (rule : ∀ (i j : Int) (t u : Tok) (s : Shared) (Q : Value → Shared → Prop) (E : Value → Shared → Prop), C i j → Q (.int (g i j) s.toks) { s with toks := s.toks + 1 } → wpAny (model X.prog X.w) X.A (f (.int i t) (.int j u)) Q E s) :
    OpR X f (rI C fun i j => .int (g i j)) := by
  intro pins s σ H x y v u Q I rx ry h
  obtain ⟨i, j, rfl, rfl, hc, q⟩ := h
  obtain ⟨t, rfl⟩ := rx
  obtain ⟨t', rfl⟩ := ry
  exact rule i j t t' s _ _ hc ⟨.int (g i j), H, I.tok _, ⟨_, rfl⟩, q⟩
theorem opI0 {f : Value → Value → Sem Value} {g : Int → Int → Int}
    (rule : ∀ (i j : Int) (t u : Tok) (s : Shared) (Q : Value → Shared → Prop) (E : Value → Shared → Prop), Q (.int (g i j) s.toks) { s with toks := s.toks + 1 } → wpAny (model X.prog X.w) X.A (f (.int i t) (.int j u)) Q E s) :
    OpR X f (rI0 fun i j => .int (g i j)) := by
  intro pins s σ H x y v u Q I rx ry h
  obtain ⟨i, j, rfl, rfl, q⟩ := h
  obtain ⟨t, rfl⟩ := rx
  obtain ⟨t', rfl⟩ := ry
  exact rule i j t t' s _ _ ⟨.int (g i j), H, I.tok _, ⟨_, rfl⟩, q⟩
theorem opB0 {f : Value → Value → Sem Value} {g : Int → Int → Bool}
    (rule : ∀ (i j : Int) (t u : Tok) (s : Shared) (Q : Value → Shared → Prop) (E : Value → Shared → Prop), Q (.bool (g i j)) s → wpAny (model X.prog X.w) X.A (f (.int i t) (.int j u)) Q E s) :
    OpR X f (rI0 fun i j => .bl (g i j)) := by
  intro pins s σ H x y v u Q I rx ry h
  obtain ⟨i, j, rfl, rfl, q⟩ := h
  obtain ⟨t, rfl⟩ := rx
  obtain ⟨t', rfl⟩ := ry
  exact rule i j t t' s _ _ ⟨.bl (g i j), H, I, rfl, q⟩

def CDiv (i j : Int) : Prop := 0 < j ∧ j < 1073741824
def CPow (i j : Int) : Prop := 0 ≤ j ∧ j ≤ 1000000 ∧ i.natAbs < 2 ^ 64
def CMul (i j : Int) : Prop := (-(2 ^ 64) < i ∧ i < 2 ^ 64) ∨ (-(2 ^ 64) < j ∧ j < 2 ^ 64)
theorem CMul.ok {i j : Int} (h : CMul i j) : IntMulOk i j := by
  rcases h with ⟨h1, h2⟩ | ⟨h1, h2⟩
  · exact .of_left (intBits_le_64 h1 h2)
  · exact .of_right (intBits_le_64 h1 h2)

theorem op_add : OpR X (binaryOp .Add) (rI0 fun i j => .int (i + j)) := opI0 fun _ _ _ _ _ _ _ q => add_int q
theorem op_sub : OpR X (binaryOp .Sub) (rI0 fun i j => .int (i - j)) := opI0 fun _ _ _ _ _ _ _ q => sub_int q
theorem op_mul : OpR X (binaryOp .Mult) (rI CMul fun i j => .int (i * j)) := opI fun _ _ _ _ _ _ _ hc q => mul_int q hc.ok
/-- // by a positive divisor -/
theorem op_fdiv : OpR X (binaryOp .FloorDiv) (rI CDiv fun i j => .int (i / j)) := opI fun i j _ _ _ _ _ hc q => by
  have h1 : (0 : Int) < j := hc.1
  have h2 : j < 1073741824 := hc.2
  exact floordiv_int (by omega) (by rw [Int.fdiv_eq_ediv_of_nonneg i (by omega)]; exact q) (.inl (PyProof.noPylong_small (by omega)))
/-- % by a positive divisor of any size -/
theorem op_mod : OpR X (binaryOp .Mod) (rI (fun _ j => 0 < j) fun i j => .int (i % j)) := opI fun i j _ _ _ _ _ hc q => by
  have h1 : (0 : Int) < j := hc
  exact mod_int' (by omega) (by rw [Int.fmod_eq_emod_of_nonneg i (by omega)]; exact q)
theorem op_pow : OpR X (binaryOp .Pow) (rI CPow fun i j => .int (i ^ j.toNat)) := opI fun _ _ _ _ _ _ _ hc q => pow_int_small hc.1 hc.2.1 hc.2.2 q



/-! ### bools among ints: n += (a < b) -/
end

/-! ### comparisons -/
/-- the scalars that == tells apart as data does -/
def scal : V → V → Bool
  | .non, .non => true | .non, .int _ => true | .int _, .non => true | .non, .bl _ => true | .bl _, .non => true | .non, .str _ => true | .str _, .non => true
  | .int _, .int _ => true | .bl _, .bl _ => true | .str _, .str _ => true | .byt _, .byt _ => true
  | .int _, .str _ => true | .str _, .int _ => true | .bl _, .str _ => true | .str _, .bl _ => true
  | _, _ => false
def rEq : R2 := fun x y H Q => scal x y = true ∧ Q (.bl (decide (x = y))) H
def rNe : R2 := fun x y H Q => scal x y = true ∧ Q (.bl (!decide (x = y))) H

theorem dec_int {i j : Int} : decide (V.int i = V.int j) = (i == j) := by
  rw [Bool.eq_iff_iff]
  simp
theorem dec_bl {i j : Bool} : decide (V.bl i = V.bl j) = (i == j) := by
  rw [Bool.eq_iff_iff]
  simp
theorem dec_str {i j : Str} : decide (V.str i = V.str j) = (i == j) := by
  rw [Bool.eq_iff_iff]
  simp
theorem dec_byt {i j : Array UInt8} : decide (V.byt i = V.byt j) = (i.toList == j.toList) := by
  rw [Bool.eq_iff_iff]
  cases i
  cases j
  simp

section
variable {X : Cx} {a b c : Expr} {ta tb tc : TE} {pos : Pos}
theorem fin_bl {pins : List (Addr × Obj)} {σ : St} {H : Hp} {s : Shared} {Q : VK} {k k' : Bool} (I : Inv X pins σ H s) (q : Q (.bl k) H) (e : k = k') : EP X pins σ Q (.bool k') s := by
  subst e
  exact ⟨.bl k, H, I, rfl, q⟩
theorem op_eq : OpR X (compareOp .Eq) rEq := by
  intro pins s σ H x y v u Q I rx ry h
  obtain ⟨hs, q⟩ := h
  cases x with
  | non =>
    cases rx
    cases y with
    | non => cases ry; exact PySem.EqNone.eq_none_none (fin_bl I q (by simp))
    | bl j => cases ry; exact PySem.EqNone.eq_none_bool (fin_bl I q (by simp))
    | int j => obtain ⟨t', rfl⟩ := ry; exact PySem.EqNone.eq_none_int (fin_bl I q (by simp))
    | str j => obtain ⟨t', rfl⟩ := ry; exact PySem.EqNone.eq_none_str (fin_bl I q (by simp))
    | _ => exact absurd (show false = true from hs) Bool.false_ne_true
  | bl i =>
    cases rx
    cases y with
    | non => cases ry; exact PySem.EqNone.eq_bool_none (fin_bl I q (by simp))
    | bl j => cases ry; exact eq_bool (fin_bl I q dec_bl)
    | str j => obtain ⟨t', rfl⟩ := ry; exact PySem.EqMixed.eq_bool_str (fin_bl I q (by simp))
    | _ => exact absurd (show false = true from hs) Bool.false_ne_true
  | int i =>
    obtain ⟨t, rfl⟩ := rx
    cases y with
    | non => cases ry; exact PySem.EqNone.eq_int_none (fin_bl I q (by simp))
    | int j => obtain ⟨t', rfl⟩ := ry; exact eq_int (fin_bl I q dec_int)
    | str j => obtain ⟨t', rfl⟩ := ry; exact PySem.EqMixed.eq_int_str (fin_bl I q (by simp))
    | _ => exact absurd (show false = true from hs) Bool.false_ne_true
  | str i =>
    obtain ⟨t, rfl⟩ := rx
    cases y with
    | non => cases ry; exact PySem.EqNone.eq_str_none (fin_bl I q (by simp))
    | bl j => cases ry; exact PySem.EqMixed.eq_str_bool (fin_bl I q (by simp))
    | int j => obtain ⟨t', rfl⟩ := ry; exact PySem.EqMixed.eq_str_int (fin_bl I q (by simp))
    | str j => obtain ⟨t', rfl⟩ := ry; exact eq_str (fin_bl I q dec_str)
    | _ => exact absurd (show false = true from hs) Bool.false_ne_true
  | byt i =>
    obtain ⟨t, rfl⟩ := rx
    cases y with
    | byt j => obtain ⟨t', rfl⟩ := ry; exact PySem.W.eq_bytes (fin_bl I q dec_byt)
    | _ => exact absurd (show false = true from hs) Bool.false_ne_true
  | _ => cases y <;> exact absurd (show false = true from hs) Bool.false_ne_true
theorem op_ne : OpR X (compareOp .NotEq) rNe := by
  intro pins s σ H x y v u Q I rx ry h
  obtain ⟨hs, q⟩ := h
  cases x with
  | non =>
    cases rx
    cases y with
    | non => cases ry; exact PySem.EqNone.ne_none_none (fin_bl I q (by simp))
    | bl j => cases ry; exact PySem.EqNone.ne_none_bool (fin_bl I q (by simp))
    | int j => obtain ⟨t', rfl⟩ := ry; exact PySem.EqNone.ne_none_int (fin_bl I q (by simp))
    | str j => obtain ⟨t', rfl⟩ := ry; exact PySem.EqNone.ne_none_str (fin_bl I q (by simp))
    | _ => exact absurd (show false = true from hs) Bool.false_ne_true
  | bl i =>
    cases rx
    cases y with
    | non => cases ry; exact PySem.EqNone.ne_bool_none (fin_bl I q (by simp))
    | bl j => cases ry; exact ne_bool (fin_bl I q (congrArg not dec_bl))
    | str j => obtain ⟨t', rfl⟩ := ry; exact PySem.EqMixed.ne_bool_str (fin_bl I q (by simp))
    | _ => exact absurd (show false = true from hs) Bool.false_ne_true
  | int i =>
    obtain ⟨t, rfl⟩ := rx
    cases y with
    | non => cases ry; exact PySem.EqNone.ne_int_none (fin_bl I q (by simp))
    | int j => obtain ⟨t', rfl⟩ := ry; exact ne_int (fin_bl I q (congrArg not dec_int))
    | str j => obtain ⟨t', rfl⟩ := ry; exact PySem.EqMixed.ne_int_str (fin_bl I q (by simp))
    | _ => exact absurd (show false = true from hs) Bool.false_ne_true
  | str i =>
    obtain ⟨t, rfl⟩ := rx
    cases y with
    | non => cases ry; exact PySem.EqNone.ne_str_none (fin_bl I q (by simp))
    | bl j => cases ry; exact PySem.EqMixed.ne_str_bool (fin_bl I q (by simp))
    | int j => obtain ⟨t', rfl⟩ := ry; exact PySem.EqMixed.ne_str_int (fin_bl I q (by simp))
    | str j => obtain ⟨t', rfl⟩ := ry; exact ne_str (fin_bl I q (congrArg not dec_str))
    | _ => exact absurd (show false = true from hs) Bool.false_ne_true
  | byt i =>
    obtain ⟨t, rfl⟩ := rx
    cases y with
    | byt j => obtain ⟨t', rfl⟩ := ry; exact PySem.W.ne_bytes (fin_bl I q (congrArg not dec_byt))
    | _ => exact absurd (show false = true from hs) Bool.false_ne_true
  | _ => cases y <;> exact absurd (show false = true from hs) Bool.false_ne_true

theorem op_lt : OpR X (compareOp .Lt) (rI0 fun i j => .bl (decide (i < j))) := opB0 fun _ _ _ _ _ _ _ q => lt_int q
theorem op_le : OpR X (compareOp .LtE) (rI0 fun i j => .bl (decide (i ≤ j))) := opB0 fun _ _ _ _ _ _ _ q => le_int q
theorem op_gt : OpR X (compareOp .Gt) (rI0 fun i j => .bl (decide (j < i))) := opB0 fun _ _ _ _ _ _ _ q => gt_int q
/-- the one string within the other -/
theorem op_in_str : OpR X (compareOp .In) (fun x y H Q => ∃ i j, x = .str i ∧ y = .str j ∧ Q (.bl (!(Builtin.Str.occurrences j i 0 j.length 1).isEmpty)) H) := by
  intro pins s σ H x y v u Q I rx ry h
  obtain ⟨i, j, rfl, rfl, q⟩ := h
  obtain ⟨t, rfl⟩ := rx
  obtain ⟨t', rfl⟩ := ry
  exact in_str (fin_bl I q rfl)

/-- is None, is not None: the right side a value none -/
theorem op_isN : OpR X (compareOp .Is) (fun x y H Q => y = .non ∧ Q (.bl (decide (x = .non))) H) := by
  intro pins s σ H x y v u Q I rx ry h
  obtain ⟨rfl, q⟩ := h
  cases ry
  refine is_none_gen (fin_bl I q ?_)
  cases x <;> first
    | (cases rx; rfl)
    | (obtain ⟨t, rfl⟩ := rx; rfl)
theorem op_notN : OpR X (compareOp .IsNot) (fun x y H Q => y = .non ∧ Q (.bl (!decide (x = .non))) H) := by
  intro pins s σ H x y v u Q I rx ry h
  obtain ⟨rfl, q⟩ := h
  cases ry
  refine isnot_none_gen (fin_bl I q ?_)
  cases x <;> first
    | (cases rx; rfl)
    | (obtain ⟨t, rfl⟩ := rx; rfl)



theorem nomark (b : Expr) {op : CmpOp} (h : op ≠ .In := by decide) (h2 : op ≠ .NotIn := by decide) : behindInMarks op b = false := by
  have e1 : (op == CmpOp.In) = false := by cases op <;> first | rfl | exact absurd rfl h
  have e2 : (op == CmpOp.NotIn) = false := by cases op <;> first | rfl | exact absurd rfl h2
  cases b <;> simp [behindInMarks, e1, e2]
/-- a comparison as a value; hm: nomark b, or (for in, not in) by with_unfolding_all rfl -/
theorem pe_cmpR {op : CmpOp} {r : R2} (ho : OpR X (compareOp op) r) (ha : PE X a ta) (hb : PE X b tb) (hm : behindInMarks op b = false) : PE X (.Compare a [op] [b] pos) (tOp r ta tb) := by
  intro pins s σ H Q I h
  exact wpAny_Compare1 (binT ha hb I h fun v u s2 x y H2 I2 rx ry q => ho pins s2 σ H2 x y v u Q I2 rx ry q) hm
/-- a reading of a value as a test -/
def tTest (t : TE) : TT := fun σ H Q => t σ H fun x H' => ∃ k, x = .bl k ∧ Q k H'
theorem pt_cmpR {op : CmpOp} {r : R2} (ho : OpR X (compareOp op) r) (ha : PE X a ta) (hb : PE X b tb) (hm : behindInMarks op b = false) : PT X (.Compare a [op] [b] pos) (tTest (tOp r ta tb)) := by
  intro pins s σ H Q I h
  refine wpAny_isTrue_Compare1 (thn (ha pins s σ H _ I h) fun v s1 ⟨x, H1, I1, r1, q1⟩ => thn (hb pins s1 σ H1 _ I1 q1) fun u s2 ⟨y, H2, I2, r2, q2⟩ =>
    thn (ho pins s2 σ H2 x y v u _ I2 r1 r2 q2) fun c s3 ⟨z, H3, I3, r3, k, e, q3⟩ => ?_) hm
  subst e
  cases r3
  exact wpAny_truthy_bool ⟨H3, I3, q3⟩
/-- a op1 b op2 c -/
def tChain (r r' : R2) (ta tb tc : TE) : TE := fun σ H Q => ta σ H fun x H1 => tb σ H1 fun y H2 => r x y H2 fun z H3 => ∃ k, z = .bl k ∧
  (if k = true then tc σ H3 fun w' H4 => r' y w' H4 Q else Q (.bl false) H3)
theorem pe_chain {op op' : CmpOp} {r r' : R2} (ho : OpR X (compareOp op) r) (ho' : OpR X (compareOp op') r') (ha : PE X a ta) (hb : PE X b tb) (hc : PE X c tc)
    (hm : lastMarks [op, op'] [b, c] = false := by with_unfolding_all rfl) : PE X (.Compare a [op, op'] [b, c] pos) (tChain r r' ta tb tc) := by
  intro pins s σ H Q I h
  refine Compare_chain (thn (ha pins s σ H _ I h) fun v s1 ⟨x, H1, I1, r1, q1⟩ => chain_link (thn (hb pins s1 σ H1 _ I1 q1) fun u s2 ⟨y, H2, I2, r2, q2⟩ =>
    thn (ho pins s2 σ H2 x y v u _ I2 r1 r2 q2) fun d s3 ⟨z, H3, I3, r3, k, e, q3⟩ => ?_)) hm
  subst e
  cases r3
  refine wpAny_truthy_bool ?_
  cases k with
  | false => exact ite_ff ⟨.bl false, H3, I3, rfl, q3⟩
  | true => exact ite_tt (chain_last (thn (hc pins s3 σ H3 _ I3 q3) fun w' s4 ⟨z', H4, I4, r4, q4⟩ => ho' pins s4 σ H4 y z' u w' Q I4 r2 r4 q4))
theorem pt_chain {op op' : CmpOp} {r r' : R2} (ho : OpR X (compareOp op) r) (ho' : OpR X (compareOp op') r') (ha : PE X a ta) (hb : PE X b tb) (hc : PE X c tc)
    (hm : lastMarks [op, op'] [b, c] = false := by with_unfolding_all rfl) : PT X (.Compare a [op, op'] [b, c] pos) (tTest (tChain r r' ta tb tc)) := by
  intro pins s σ H Q I h
  refine isTrue_chain (thn (ha pins s σ H _ I h) fun v s1 ⟨x, H1, I1, r1, q1⟩ => test_link (thn (hb pins s1 σ H1 _ I1 q1) fun u s2 ⟨y, H2, I2, r2, q2⟩ =>
    thn (ho pins s2 σ H2 x y v u _ I2 r1 r2 q2) fun d s3 ⟨z, H3, I3, r3, k, e, q3⟩ => ?_)) hm
  subst e
  cases r3
  refine wpAny_truthy_bool ?_
  cases k with
  | false =>
    obtain ⟨k', e', q'⟩ := q3
    cases e'
    exact ite_ff ⟨H3, I3, q'⟩
  | true =>
    refine ite_tt (test_last (thn (hc pins s3 σ H3 _ I3 q3) fun w' s4 ⟨z', H4, I4, r4, q4⟩ => thn (ho' pins s4 σ H4 y z' u w' _ I4 r2 r4 q4) fun d' s5 ⟨z2, H5, I5, r5, k2, e2, q5⟩ => ?_))
    subst e2
    cases r5
    exact wpAny_truthy_bool ⟨H5, I5, q5⟩

/-! ### truth -/
theorem line63 : (sizeLine : Nat) < 2 ^ 63 := by rw [sizeLine_eq]; decide

/-! ### strs and bytes -/
theorem op_add_str : OpR X (binaryOp .Add) (fun x y H Q => ∃ i j, x = .str i ∧ y = .str j ∧ i.length + j.length ≤ sizeLine ∧ Q (.str (i ++ j)) H) := by
  intro pins s σ H x y v u Q I rx ry h
  obtain ⟨i, j, rfl, rfl, hz, q⟩ := h
  obtain ⟨t, rfl⟩ := rx
  obtain ⟨t', rfl⟩ := ry
  exact add_str (fun t' tk => ⟨.str (i ++ j), H, I.tok _, ⟨_, rfl⟩, q⟩) hz


/-! ### scalar builtins, by CallR -/
theorem vals1 {x : V} {us : List Value} (r : Vals [x] us) : ∃ u, us = [u] ∧ RelV x u := by
  cases r with
  | cons r1 r2 => cases r2; exact ⟨_, rfl, r1⟩
theorem vals2 {x y : V} {us : List Value} (r : Vals [x, y] us) : ∃ u w', us = [u, w'] ∧ RelV x u ∧ RelV y w' := by
  cases r with
  | cons r1 r2 =>
    cases r2 with
    | cons r3 r4 => cases r4; exact ⟨_, _, rfl, r1, r3⟩
theorem call_max2 (hc : X.calm = true) : CallR X (.builtin "max") (fun xs H Q => ∃ i j, xs = [.int i, .int j] ∧ Q (.int (if j > i then j else i)) H) := by
  intro pins s σ H xs us Q I r h
  obtain ⟨i, j, rfl, q⟩ := h
  obtain ⟨u, w', rfl, ⟨t, rfl⟩, ⟨t', rfl⟩⟩ := vals2 r
  refine max_two_ints (I.ok.hd hc) fun h' tk k => ⟨_, H, I.kept k, ?_, q⟩
  by_cases hj : j > i
  · rw [if_pos hj, if_pos hj]; exact ⟨_, rfl⟩
  · rw [if_neg hj, if_neg hj]; exact ⟨_, rfl⟩
theorem call_str_int : CallR X (.type "str") (fun xs H Q => ∃ i, xs = [.int i] ∧ i.natAbs.log2 < 1920 ∧ Q (.str (toString i)) H) := by
  intro pins s σ H xs us Q I r h
  obtain ⟨i, rfl, hz, q⟩ := h
  obtain ⟨u, rfl, t, rfl⟩ := vals1 r
  exact PySem.P.str_of_int hz ⟨.str _, H, I.tok _, ⟨_, rfl⟩, q⟩
end
end L2

namespace L2
open PySem PySem.Spec PyProof.Rows

/-! ### an instance, its attributes a map -/
structure ObjM (h : Heap) (x dx C : Addr) (mA : Str → Option Value) : Prop where
  obj : h.get? x = some (PySem.W.instObj C dx)
  ns : h.Ns1 dx mA
  ne : dx ≠ x

theorem lookIn_ns {h : Heap} {dx : Addr} {mA : Str → Option Value} (n : h.Ns1 dx mA) : ∃ od, h.get? dx = some od ∧ ∀ name, PySem.W.lookIn name od = some (mA name) := by
  obtain ⟨o, es, ep, ho, hd, hk, _, hm⟩ := n
  refine ⟨o, ho, fun name => ?_⟩
  have e := hm name
  unfold nsFind findBy at e
  rw [← Array.find?_toList] at e
  unfold PySem.W.lookIn
  rw [hd]
  dsimp only
  split
  · rename_i y q
    rw [q] at e
    exact congrArg some e
  · rename_i q
    rw [q] at e
    have a : es.toList.any (·.refKey) = false := by
      rw [List.any_eq_false]
      intro y hy
      obtain ⟨z, t, hkey⟩ := hk y (Array.mem_toList_iff.mp hy)
      simp [DictEntry.refKey, hkey]
    have a' : ¬ es.toList.any (·.refKey) = true := by rw [a]; exact Bool.false_ne_true
    rw [if_neg a']
    exact congrArg some e

theorem ObjM.look {h : Heap} {x dx C : Addr} {mA : Str → Option Value} (I : ObjM h x dx C mA) : ∃ od, PySem.W.InstAt h x (PySem.W.instObj C dx) C (some od) ∧ ∀ name, PySem.W.lookIn name od = some (mA name) :=
  let ⟨od, ho, hl⟩ := lookIn_ns I.ns
  ⟨od, ⟨I.obj, rfl, rfl, ho⟩, hl⟩

section
variable {prog : Program} {w : World} {A : Around} {E : Value → Shared → Prop} {s : Shared} {K : PySem.W.Frag} {x dx C f : Addr} {mA : Str → Option Value} {name : Str} {v : Value}

theorem get_map {expr : Bool} {Q : Value → Shared → Prop} (X : K.In s.heap) (I : ObjM s.heap x dx C mA) (hg : PySem.W.plainGet K C name = true) (hh : PySem.W.hasDictIn K C = true)
    (ha : PySem.W.findIn K (.ref C) name = some none) (hv : mA name = some v) (hv' : PySem.W.handedIn v = true) (h : Q v { s with toks := s.toks + 1 }) :
    wpAny (model prog w) A (getAttr (.ref x) name expr) Q E s := by
  obtain ⟨od, J, hl⟩ := I.look
  exact PySem.W.get_value X J (PySem.W.plainGet_of hg).1 (PySem.W.findObj_own hh ha rfl (by rw [hl, hv])) hv' h



theorem set_map {ns : List Str} {Q : Unit → Shared → Prop} (X : K.In s.heap) (I : ObjM s.heap x dx C mA)
    (hs : PySem.W.findIn K (.ref C) "__setattr__" = some (some (.builtin "object.__setattr__"))) (hp : PySem.W.plainOver K C = true) (ht : PySem.W.takerIn K C name = some none) (hh : PySem.W.hasDictIn K C = true)
    (hw : PySem.Within mA ns) (hsz : ns.length ≤ sizeLine)
    (h : ∀ h', ObjM h' x dx C (fun y => if y = name then some v else mA y) → Heap.SameBut dx s.heap h' → Q () { s with heap := h', toks := s.toks + 2 }) :
    wpAny (model prog w) A (setAttr (.ref x) name v) Q E s := by
  obtain ⟨od, J, hl⟩ := I.look
  refine PySem.W.set_plain X J hs (PySem.W.osa_open (s := { s with toks := s.toks + 1 }) (r := none) X J hp ht fun b => ?_)
  obtain ⟨cd, hc, hd'⟩ := PySem.W.any_some hh
  have hx : s.heap.get? x = some ⟨.ref C, some dx, .plain, #[]⟩ := I.obj
  refine wpAny_bind (wpAny_pure (wpAny_bind (wpAny_bind (wpAny_loadPart hx (wpAny_bind (PySem.W.Looks.here (s := { s with toks := s.toks + 1 }) (PySem.W.looks_clsIn X hc) ?_))))))
  rw [hd']
  refine wpAny_pure (a := some dx) (wpAny_bind (wpAny_pure (wpAny_bind ?_)))
  refine wpAny_nsSet1 (s := { s with toks := s.toks + 1 }) I.ns fun h' hn2 hs2 => ?_
  obtain ⟨oD, esD, epD, hoD, hdD, hcD⟩ := hn2.count (PySem.Within.cons name v hw)
  refine wpAny_bind (wpAny_lookBehind hoD (by rw [hdD]; exact pastItsLine_dict (Nat.le_trans hcD (by rw [List.length_cons]; omega))) ?_)
  exact wpAny_pure (h _ ⟨(hs2.2 _ (Ne.symm I.ne)).trans I.obj, hn2, I.ne⟩ hs2)

/-- C(..): the dict at the heap's end, the instance behind it; then its __init__ -/
theorem make_map {R : Result → Shared → Prop} {vs : List Value} {kw : List (Str × Value)} (X : K.In s.heap) (hm : PySem.W.makesIn K C = true)
    (hi : PySem.W.findIn K (.ref C) "__init__" = some (some (.ref f))) (hf : PySem.W.typeIn K (.ref f) = some (.type "function"))
    (h : codeAny (model prog w) (A.under (.builtin "type.__call__" ⟨.ref C :: vs, kw⟩)) (.call (.ref f) ⟨.ref (s.heap.objs.size + 1) :: vs, kw⟩) (PySem.W.InitBack (s.heap.objs.size + 1) R)
      { s with heap := (s.heap.push PySem.W.emptyDict).push (PySem.W.instObj C s.heap.objs.size) }) :
    codeAny (model prog w) A (.call (.ref C) ⟨vs, kw⟩) R s := by
  obtain ⟨hh, g, d, t, os⟩ := s
  exact PySem.W.make_core (PySem.W.makes_of X hm) (PySem.W.looks_findIn X hi) (fun self => PySem.W.bind_fn X self hf) (.inl rfl) h
end

/-! ### the attributes as a list of pairs -/
def putF (f : Str) (v : V) : List (Str × V) → List (Str × V)
  | [] => [(f, v)]
  | (g, x) :: r => if g = f then (g, v) :: r else (g, x) :: putF f v r
theorem lookup_putF (f g : Str) (v : V) : ∀ fs : List (Str × V), (putF f v fs).lookup g = if g = f then some v else fs.lookup g
  | [] => by
    show List.lookup g [(f, v)] = _
    by_cases h : g = f
    · have hb : (g == f) = true := beq_iff_eq.mpr h
      simp only [List.lookup, hb, if_pos h]
    · have hb : (g == f) = false := beq_eq_false_iff_ne.mpr h
      simp only [List.lookup, hb, if_neg h]
  | (k, x) :: r => by
    have ih := lookup_putF f g v r
    rw [show putF f v ((k, x) :: r) = (if k = f then (k, v) :: r else (k, x) :: putF f v r) from rfl]
    by_cases hk : k = f
    · rw [if_pos hk]
      by_cases h : g = k
      · have hb : (g == k) = true := beq_iff_eq.mpr h
        simp only [List.lookup, hb, if_pos (h.trans hk)]
      · have hb : (g == k) = false := beq_eq_false_iff_ne.mpr h
        simp only [List.lookup, hb, if_neg (fun e : g = f => h (e.trans hk.symm))]
    · rw [if_neg hk]
      by_cases h : g = k
      · have hb : (g == k) = true := beq_iff_eq.mpr h
        simp only [List.lookup, hb, if_neg (fun e : g = f => hk (h.symm.trans e))]
      · have hb : (g == k) = false := beq_eq_false_iff_ne.mpr h
        simp only [List.lookup, hb]
        exact ih
theorem keys_putF (f : Str) (v : V) : ∀ fs : List (Str × V), f ∈ (putF f v fs).map (·.1) ∧ ∀ g, g ∈ fs.map (·.1) → g ∈ (putF f v fs).map (·.1)
  | [] => ⟨by simp [putF], fun g h => by simp at h⟩
  | (k, x) :: r => by
    obtain ⟨i1, i2⟩ := keys_putF f v r
    rw [show putF f v ((k, x) :: r) = (if k = f then (k, v) :: r else (k, x) :: putF f v r) from rfl]
    by_cases hk : k = f
    · rw [if_pos hk]
      subst hk
      exact ⟨by simp, fun g h => by simpa using h⟩
    · rw [if_neg hk]
      refine ⟨?_, fun g h => ?_⟩
      · rw [List.map_cons]
        exact List.mem_cons_of_mem _ i1
      · rw [List.map_cons] at h ⊢
        rcases List.mem_cons.mp h with e | e
        · exact List.mem_cons.mpr (.inl e)
        · exact List.mem_cons_of_mem _ (i2 g e)
theorem length_putF (f : Str) (v : V) : ∀ fs : List (Str × V), (putF f v fs).length ≤ fs.length + 1
  | [] => by simp [putF]
  | (k, x) :: r => by
    have ih := length_putF f v r
    rw [show putF f v ((k, x) :: r) = (if k = f then (k, v) :: r else (k, x) :: putF f v r) from rfl]
    by_cases hk : k = f
    · rw [if_pos hk, List.length_cons, List.length_cons]; omega
    · rw [if_neg hk, List.length_cons, List.length_cons]; omega

theorem RelO.some_of {v : V} {o : Option Value} (r : RelO (some v) o) : ∃ u, o = some u ∧ RelV v u := by
  cases o with
  | none => exact (show False from r).elim
  | some u => exact ⟨u, rfl, r⟩
theorem handed_of {v : V} {u : Value} (r : RelV v u) : PySem.W.handedIn u = true := by
  cases v with
  | non => cases (show u = Value.none from r); rfl
  | bl b => cases (show u = Value.bool b from r); rfl
  | int i => obtain ⟨t, e⟩ := (show ∃ t, u = Value.int i t from r); cases e; rfl
  | str x => obtain ⟨t, e⟩ := (show ∃ t, u = Value.str x t from r); cases e; rfl
  | byt b => obtain ⟨t, e⟩ := (show ∃ t, u = Value.bytes b t from r); cases e; rfl
  | flt b => obtain ⟨t, e⟩ := (show ∃ t, u = Value.float b t from r); cases e; rfl
  | ref a => cases (show u = Value.ref a from r); rfl
  | ty n => cases (show u = Value.type n from r); rfl

section
variable {P : Program} {w : World} {H H' : Hp} {h h' : Heap} {a C dx : Addr} {fs fs' : List (Str × V)}
theorem ins_get (hok : HOk P w H h) (e : H a = some (.ins C dx fs)) : ∃ mA, ObjM h a dx C mA ∧ (∀ f, RelO (fs.lookup f) (mA f)) ∧ PySem.Within mA (fs.map (·.1)) ∧ fs.length ≤ 1000 ∧ H dx = some (.own a) := by
  obtain ⟨d, z, ne, ob, mA, n, r, q⟩ := (show ObjOk P w H h a (.ins C dx fs) from hok a _ e)
  exact ⟨mA, ⟨ob, n, ne⟩, r, q, z, d⟩
end

/-! ### what of the text a class must have -/
structure Cls (K : PySem.W.Frag) (C : Addr) : Prop where
  pg : PySem.W.plainGet K C Str.empty = true
  hd : PySem.W.hasDictIn K C = true
  po : PySem.W.plainOver K C = true
  sa : PySem.W.findIn K (.ref C) "__setattr__" = some (some (.builtin "object.__setattr__"))
theorem Cls.get {K : PySem.W.Frag} {C : Addr} (c : Cls K C) (f : Str) : PySem.W.plainGet K C f = true := c.pg
/-- no class of it has the name -/
def NoAttr (K : PySem.W.Frag) (C : Addr) (f : Str) : Prop := PySem.W.findIn K (.ref C) f = some none
theorem NoAttr.taker {K : PySem.W.Frag} {C : Addr} {f : Str} (n : NoAttr K C f) : PySem.W.takerIn K C f = some none := by
  unfold PySem.W.takerIn
  rw [show PySem.W.findIn K (.ref C) f = some none from n]
  rfl

section
variable {X : Cx} {pins : List (Addr × Obj)} {σ : St} {H : Hp} {s : Shared} {a C dx : Addr} {fs : List (Str × V)} {f : Str} {v : V} {A : Around} {E : Value → Shared → Prop}

theorem getattr_ok {b : Bool} {Q : Value → Shared → Prop} (I : Inv X pins σ H s) (e : H a = some (.ins C dx fs)) (c : Cls X.K C) (n : NoAttr X.K C f) (l : fs.lookup f = some v)
    (h : ∀ u s', Inv X pins σ H s' → RelV v u → Q u s') : wpAny (model X.prog X.w) A (getAttr (.ref a) f b) Q E s := by
  obtain ⟨mA, O, r, _, _, _⟩ := ins_get I.hok e
  obtain ⟨u, hu, ru⟩ := RelO.some_of (v := v) (o := mA f) (by rw [← l]; exact r f)
  exact get_map I.kIn O (c.get f) c.hd n hu (handed_of ru) (h u _ (I.tok _) ru)



theorem setattr_ok {y : V} {u : Value} {Q : Unit → Shared → Prop} (I : Inv X pins σ H s) (e : H a = some (.ins C dx fs)) (c : Cls X.K C) (n : NoAttr X.K C f) (hl : fs.length < 1000) (ry : RelV y u)
    (h : ∀ s', Inv X pins σ (upd H a (.ins C dx (putF f y fs))) s' → Q () s') : wpAny (model X.prog X.w) A (setAttr (.ref a) f u) Q E s := by
  obtain ⟨mA, O, r, wi, _, ho⟩ := ins_get I.hok e
  have hz : (fs.map (·.1)).length ≤ sizeLine := by rw [List.length_map, sizeLine_eq]; omega
  refine set_map I.kIn O c.sa c.po n.taker c.hd wi hz fun h' O' sb => h _ ?_
  have hd : ∃ o, h'.get? dx = some o := let ⟨o, _, _, e', _⟩ := O'.ns; ⟨o, e'⟩
  refine I.write (x := a) (e := dx) (by rw [e]; exact True.intro) (.inr ho) (fun b q hb z => (sb.2 b hb).trans z) hd ?_
  refine ⟨by rw [upd_ne O.ne]; exact ho, ?_, O.ne, O'.obj, _, O'.ns, fun g => ?_, fun g hg => ?_⟩
  · have := length_putF f y fs; omega
  · show RelO ((putF f y fs).lookup g) (if g = f then some u else mA g)
    rw [lookup_putF]
    by_cases q : g = f
    · rw [if_pos q, if_pos q]; exact ry
    · rw [if_neg q, if_neg q]; exact r g
  · by_cases q : g = f
    · rw [q]; exact (keys_putF f y fs).1
    · refine (keys_putF f y fs).2 g (wi g fun z => hg ?_)
      show (if g = f then some u else mA g) = none
      rw [if_neg q]; exact z

/-- a new instance, tracked, without attributes -/
theorem Inv.made (I : Inv X pins σ H s) : Inv X pins σ (upd (upd H s.heap.objs.size (.own (s.heap.objs.size + 1))) (s.heap.objs.size + 1) (.ins C s.heap.objs.size []))
    { s with heap := (s.heap.push PySem.W.emptyDict).push (PySem.W.instObj C s.heap.objs.size) } := by
  have e1 : (s.heap.push PySem.W.emptyDict).get? s.heap.objs.size = some PySem.W.emptyDict := Heap.get?_push_size s.heap rfl
  have e2 : ((s.heap.push PySem.W.emptyDict).push (PySem.W.instObj C s.heap.objs.size)).get? (s.heap.objs.size + 1) = some (PySem.W.instObj C s.heap.objs.size) := by
    have := Heap.get?_push_size (s.heap.push PySem.W.emptyDict) (o := PySem.W.instObj C s.heap.objs.size) rfl
    rwa [Heap.size_push] at this
  have e3 : (s.heap.push PySem.W.emptyDict).Ns s.heap.objs.size (fun _ => none) := ⟨PySem.W.emptyDict, #[], _, e1, rfl, (fun e he => absurd he (by simp)), fun _ => rfl⟩
  have I1 := I.laid (a := s.heap.objs.size) (o := .own (s.heap.objs.size + 1)) (h' := s.heap.push PySem.W.emptyDict) (t' := s.toks) (fun b u q => Heap.get?_push_of_some _ q) (Nat.le_refl _) ⟨_, e1⟩
  refine I1.laid (a := s.heap.objs.size + 1) (o := .ins C s.heap.objs.size []) (t' := s.toks) (fun b u q => Heap.get?_push_of_some _ q) (Nat.le_of_eq (Heap.size_push _ _)) ?_
  have ne : s.heap.objs.size ≠ s.heap.objs.size + 1 := Nat.ne_of_lt (Nat.lt_succ_self _)
  refine ⟨by rw [upd_ne ne, upd_same], Nat.zero_le _, ne, e2, fun _ => none, (Heap.Ns1.of_empty e3).at fun o q => Heap.get?_push_of_some _ q, fun _ => True.intro, fun y hy => absurd rfl hy⟩

/-- e.f where nothing but the object is asked: through attributeBase (super) and the last hold -/
theorem attr_of {prog : Program} {w : World} {env : Env} {e : Expr} {f : Str} {pos : Pos} {s : Shared} {Q : Value → Shared → Prop} (hb : attributeBase e f env (eval e env) = eval e env)
    (h : wpAny (model prog w) A (eval e env) (fun o s₁ => wpAny (model prog w) A (getAttr o f true) Q E s₁) E s) : wpAny (model prog w) A (eval (.Attribute e f pos) env) Q E s :=
  Attribute_any_ h (by rw [arm_eval_Attribute, hb])
end

/-! ### readings and rules -/
/-- e.f, an attribute of the instance -/
def tFld (K : PySem.W.Frag) (ta : TE) (f : Str) : TE := fun σ H Q => ta σ H fun x H1 => ∃ a C dx fs v, x = .ref a ∧ H1 a = some (.ins C dx fs) ∧ Cls K C ∧ NoAttr K C f ∧ fs.lookup f = some v ∧ Q v H1
/-- e.f = value -/
def sFld (K : PySem.W.Frag) (ta tv : TE) (f : Str) : TS := fun D σ H => tv σ H fun y H1 => ta σ H1 fun x H2 => ∃ a C dx fs, x = .ref a ∧ H2 a = some (.ins C dx fs) ∧ Cls K C ∧ NoAttr K C f ∧ fs.length < 1000 ∧
  D.nx σ (upd H2 a (.ins C dx (putF f y fs)))
/-- an augmented operator on two values -/
def InOp (X : Cx) (op : Operator) (rd : V → V → Hp → VK → Prop) : Prop :=
  ∀ (pins : List (Addr × Obj)) (s : Shared) (σ : St) (H : Hp) (x y : V) (u v : Value) (Q : VK), Inv X pins σ H s → RelV x u → RelV y v → rd x y H Q → wpAny (model X.prog X.w) X.A (inplaceOp op u v) (EP X pins σ Q) X.xe s

section
variable {X : Cx} {o e value : Expr} {f : Str} {pos pos' tpos : Pos} {ta tv : TE}
theorem pe_fld (he : PE X e ta) (hb : attributeBase e f X.env (eval e X.env) = eval e X.env) : PE X (.Attribute e f pos) (tFld X.K ta f) := by
  intro pins s σ H Q I h
  refine attr_of hb (thn (he pins s σ H _ I h) fun u s1 ⟨x, H1, I1, rx, a, C, dx, fs, v, ex, ea, c, n, l, q⟩ => ?_)
  subst ex
  obtain rfl : u = Value.ref a := rx
  exact getattr_ok I1 ea c n l fun u' s2 I2 ru => ⟨v, H1, I2, ru, q⟩
theorem ps_fld (ha : PE X o ta) (hv : PE X value tv) (hs : swapsWith value (some (.Attribute o f pos')) pos.line X.env = pure false) : PS X (.Assign [.Attribute o f pos'] value pos) (sFld X.K ta tv f) := by
  intro pins s σ H D I h
  refine plainObj_wpAny_Assign_Attribute (thn (hv pins s σ H _ I h) fun u s1 ⟨y, H1, I1, ry, q⟩ => thn (ha pins s1 σ H1 _ I1 q) fun ov s2 ⟨x, H2, I2, rx, a, C, dx, fs, ex, ea, c, n, l, q2⟩ => ?_) hs
  subst ex
  obtain rfl : ov = Value.ref a := rx
  exact setattr_ok I2 ea c n l ry fun s3 I3 => ⟨σ, _, I3, q2⟩

end

/-! ### isinstance -/
section
variable {X : Cx} {pins : List (Addr × Obj)} {σ : St} {H : Hp} {s : Shared} {A : Around} {E : Value → Shared → Prop} {Q : Value → Shared → Prop} {c : Value} {b : Bool}
/-- the type of a value, as the fragment's deciders take it; for an instance its class -/
inductive TyOf (K : PySem.W.Frag) (H : Hp) : V → Value → Prop where
  | non : TyOf K H .non (.type "NoneType")
  | bl (x : Bool) : TyOf K H (.bl x) (.type "bool")
  | int (i : Int) : TyOf K H (.int i) (.type "int")
  | str (x : Str) : TyOf K H (.str x) (.type "str")
  | flt (x : UInt64) : TyOf K H (.flt x) (.type "float")
  | lst {a : Addr} {xs : List V} (e : H a = some (.lst xs)) : TyOf K H (.ref a) (.type "list")
  | frz {a : Addr} {o : Obj} {xs : List V} (e : H a = some (.frz o (.lst xs))) : TyOf K H (.ref a) (.type "list")
  | tup {a : Addr} {xs : List V} (e : H a = some (.tup xs)) : TyOf K H (.ref a) (.type "tuple")
  | dK {a : Addr} {kvs : List (Key × V)} (e : H a = some (.dK kvs)) : TyOf K H (.ref a) (.type "dict")
  | dT {a : Addr} {kvs : List (List Key × V)} (e : H a = some (.dT kvs)) : TyOf K H (.ref a) (.type "dict")
  | ins {a C dx : Addr} {fs : List (Str × V)} (e : H a = some (.ins C dx fs)) (cl : Cls K C) (ha : PySem.W.findIn K (.ref C) "__class__" = some (some (.builtin "object.__class__")))
      (hn : PySem.W.specialIn K (.builtin "object.__class__") "__get__" = some (some (.builtin "getset_descriptor.__get__"))) (htk : PySem.W.takesIn K (.builtin "object.__class__") = some true)
      (hm : PySem.W.mroIn K C (.type "object") = some true) : TyOf K H (.ref a) (.ref C)
/-- isinstance(x, c) for one class c, a built-in or an own one: kitOne's answer -/
theorem isinst_ok {x : V} {u t : Value} (I : Inv X pins σ H s) (rx : RelV x u) (ty : TyOf X.K H x t) (e : PySem.W.kitOne X.K t c = some b) (h : ∀ tk, Q (.bool b) { s with toks := tk }) :
    wpAny (model X.prog X.w) A (call (.builtin "isinstance") [u, c]) Q E s := by
  cases ty with
  | non => cases (show u = Value.none from rx); exact PySem.W.kia_one PySem.W.kitx_none I.kIn True.intro e (fun z => nomatch z) h
  | bl y => cases (show u = Value.bool y from rx); exact PySem.W.kia_one PySem.W.kitx_bool I.kIn True.intro e (fun z => nomatch z) h
  | int i => obtain ⟨t, q⟩ := (show ∃ t, u = Value.int i t from rx); cases q; exact PySem.W.kia_one PySem.W.kitx_int I.kIn True.intro e (fun z => nomatch z) h
  | str y => obtain ⟨t, q⟩ := (show ∃ t, u = Value.str y t from rx); cases q; exact PySem.W.kia_one PySem.W.kitx_str I.kIn True.intro e (fun z => nomatch z) h
  | flt y => obtain ⟨t, q⟩ := (show ∃ t, u = Value.float y t from rx); cases q; exact PySem.W.kia_one PySem.W.kitx_float I.kIn True.intro e (fun z => nomatch z) h
  | @lst a xs ea =>
    cases (show u = Value.ref a from rx)
    obtain ⟨_, _, n, _, h1⟩ := (show ObjOk X.prog X.w H s.heap a (.lst xs) from I.hok a _ ea)
    exact PySem.W.kia_one PySem.W.kitx_list I.kIn ⟨_, h1, rfl⟩ e (fun z => nomatch z) h
  | @frz a ob xs ea =>
    cases (show u = Value.ref a from rx)
    obtain ⟨_, _, _, n, _, h1⟩ := (show ObjOk X.prog X.w H s.heap a (.frz ob (.lst xs)) from I.hok a _ ea)
    exact PySem.W.kia_one PySem.W.kitx_list I.kIn ⟨_, h1, rfl⟩ e (fun z => nomatch z) h
  | @tup a xs ea =>
    cases (show u = Value.ref a from rx)
    obtain ⟨_, _, _, p⟩ := (show ObjOk X.prog X.w H s.heap a (.tup xs) from I.hok a _ ea)
    obtain ⟨o, h1, h2, _⟩ := p
    exact PySem.W.kia_one PySem.W.kitx_tuple I.kIn ⟨o, h1, h2⟩ e (fun z => nomatch z) h
  | @dK a kvs ea =>
    cases (show u = Value.ref a from rx)
    obtain ⟨_, _, vs, _, p⟩ := (show ObjOk X.prog X.w H s.heap a (.dK kvs) from I.hok a _ ea)
    obtain ⟨o, es, ep, h1, h2, _⟩ := p
    exact PySem.W.kia_one PySem.W.kitx_dict I.kIn ⟨o, h1, h2.1⟩ e (fun z => nomatch z) h
  | @dT a kvs ea =>
    cases (show u = Value.ref a from rx)
    obtain ⟨_, _, xs, _, o, es, ep, h1, h2, _⟩ := (show ObjOk X.prog X.w H s.heap a (.dT kvs) from I.hok a _ ea)
    exact PySem.W.kia_one PySem.W.kitx_dict I.kIn ⟨o, h1, h2.1⟩ e (fun z => nomatch z) h
  | @ins a C dx fs ea cl ha hn htk hm =>
    cases (show u = Value.ref a from rx)
    obtain ⟨mA, O, _⟩ := ins_get I.hok ea
    obtain ⟨od, J, _⟩ := O.look
    exact PySem.W.kia_one (PySem.W.kitx_own (cl.get _) cl.hd ha hn htk hm) I.kIn J e (fun z => nomatch z) h
end
end L2

namespace L2
open PySem PySem.Spec PyProof.Rows

/-! ### room -/
structure Room (k : Nat) (A : Around) : Prop where
  hd : A.handled = none
  dp : A.depth + 3 * k + 5 < recursionLimit
  un : A.units + 16 * k + 200 < cLine
theorem Room.mono {j k : Nat} {A : Around} (r : Room k A) (h : j ≤ k) : Room j A := ⟨r.hd, by have := r.dp; omega, by have := r.un; omega⟩
theorem Room.deeper {k : Nat} {A : Around} (r : Room (k + 1) A) (env : Env) : Room k (A.deeper env) :=
  ⟨r.hd, by have := r.dp; show A.depth + 1 + 3 * k + 5 < _; omega, by have := r.un; show A.units + 3 + 16 * k + 200 < _; omega⟩
theorem make_depth {A : Around} {C : Addr} {us : List Value} {kw : List (Str × Value)} : (A.under (.builtin "type.__call__" ⟨.ref C :: us, kw⟩)).depth = A.depth + 1 := by
  first | rfl | simp [Around.under, Code.weight, Code.isCreation, Code.isGuard, Code.isCaller, Code.frames, Code.isFrame, guardIds]
theorem make_units {A : Around} {C : Addr} {us : List Value} {kw : List (Str × Value)} : (A.under (.builtin "type.__call__" ⟨.ref C :: us, kw⟩)).units = A.units + 1 := by
  first | rfl | simp [Around.under, Code.cUnits, Code.frames, Code.isFrame]
theorem Room.make {k : Nat} {A : Around} (r : Room (k + 1) A) (C : Addr) (us : List Value) (kw : List (Str × Value)) : Room k (A.under (.builtin "type.__call__" ⟨.ref C :: us, kw⟩)) :=
  ⟨r.hd, by have := r.dp; rw [make_depth]; omega, by have := r.un; rw [make_units]; omega⟩
theorem Room.depth {k : Nat} {A : Around} (r : Room k A) : A.depth < recursionLimit := by have := r.dp; omega
theorem Room.units0 {k : Nat} {A : Around} (r : Room k A) : A.units < cLine := by have := r.un; omega

/-! ### argument lists and displays -/
def tNil : TA := fun _ H Q => Q [] H
def tCons (ta : TE) (tr : TA) : TA := fun σ H Q => ta σ H fun x H1 => tr σ H1 fun xs H2 => Q (x :: xs) H2
section
variable {X : Cx} {e : Expr} {es : List Expr} {te : TE} {t : TA} {pos : Pos}
theorem pa_nil : PA X [] tNil := fun _ _ _ _ H Q I h => Calls.spliced_nil ⟨[], H, I, .nil, h⟩
theorem pa_cons (ha : PE X e te) (hr : PA X es t) (hs : starEach (e :: es) X.env = (false, eval e X.env) :: starEach es X.env := by rfl) : PA X (e :: es) (tCons te t) := by
  intro pos pins s σ H Q I h
  rw [hs]
  show wpAny _ _ (spliced ((false, eval e X.env) :: backTo pos (starEach es X.env))) _ _ s
  refine Calls.spliced_cons (thn (ha pins s σ H _ I h) fun u s1 ⟨x, H1, I1, r1, q1⟩ => ?_)
  exact thn (hr pos pins s1 σ H1 _ I1 q1) fun us s2 ⟨xs, H2, I2, r2, q2⟩ => ⟨x :: xs, H2, I2, .cons r1 r2, q2⟩

/-- a tuple, a list of written items -/
def tTup (t : TA) : TE := fun σ H Q => t σ H fun xs H1 => xs.length ≤ sizeLine ∧ ∀ p, H1 p = none → Q (.ref p) (upd H1 p (.tup xs))
def tLst (t : TA) : TE := fun σ H Q => t σ H fun xs H1 => xs.length ≤ sizeLine ∧ ∀ p, H1 p = none → Q (.ref p) (upd H1 p (.lst xs))
theorem pe_tup {x1} (h : PA X es t) : PE X (.Tuple es x1 pos) (tTup t) := by
  intro pins s σ H Q I hq
  refine wpAny_Tuple_spliced (thn (h pos pins s σ H _ I hq) fun us s1 ⟨xs, H1, I1, r, z, q⟩ => ⟨by rw [← r.length]; exact z, ?_⟩)
  have hf : H1 s1.heap.objs.size = none := I1.hok.fresh (Nat.le_refl _)
  refine ⟨.ref s1.heap.objs.size, upd H1 s1.heap.objs.size (.tup xs), I1.laid (t' := s1.toks) (fun b u e => Heap.get?_push_of_some _ e) (Nat.le_refl _) ?_, rfl, q _ hf⟩
  exact ⟨z, us, r, ⟨_, Heap.get?_push_size _ rfl, rfl, _, rfl⟩⟩
theorem pe_lst (h : PA X es t) : PE X (.List es pos) (tLst t) := by
  intro pins s σ H Q I hq
  refine wpAny_List_spliced (thn (h pos pins s σ H _ I hq) fun us s1 ⟨xs, H1, I1, r, z, q⟩ => ⟨by rw [← r.length]; exact z, ?_⟩)
  have hf : H1 s1.heap.objs.size = none := I1.hok.fresh (Nat.le_refl _)
  refine ⟨.ref s1.heap.objs.size, upd H1 s1.heap.objs.size (.lst xs), I1.laid (t' := s1.toks) (fun b u e => Heap.get?_push_of_some _ e) (Nat.le_refl _) ?_, rfl, q _ hf⟩
  exact ⟨z, us, 0, r, Heap.get?_push_size _ rfl⟩
end

/-! ### what a def promises -/
/-- a def's promise: the bound arguments in the parameters' order, the heap, the wanted end, the wanted exception -/
abbrev Sp := List V → Hp → VK → XK → Prop
/-- how an exception lies behind a call (file 08 gives it): the callers' frames, abstract heap and state ahead of the call, the wish, the exception, the state -/
abbrev CXT := List Env → Hp → Shared → XK → Value → Shared → Prop

/-- the state at a call -/
structure Env0 (P : Program) (w : World) (K : PySem.W.Frag) (mg : Str → Option Value) (base : Heap) (A : Around) (outer : List Env) (s : Shared) (H : Hp) : Prop where
  frames : A.frames = some outer
  mod : Mod K mg base
  bs : ∀ b o, base.get? b = some o → s.heap.get? b = some o ∧ H b = none
  bsz : base.objs.size ≤ s.heap.objs.size
  funs : s.heap.FunFrames base outer
  frf : ∀ b ∈ frs outer, H b = none
  hok : HOk P w H s.heap
  bare : AllBare s.gens
/-- a call's end -/
def CE (outer : List Env) (P : Program) (w : World) (H : Hp) (s : Shared) (Q : VK) (u : Value) (s' : Shared) : Prop :=
  ∃ v H', s'.os = s.os ∧ AllBare s'.gens ∧ Un (frs outer) [] H H' s.heap s'.heap ∧ HOk P w H' s'.heap ∧ RelV v u ∧ Q v H'
def CR (CX : CXT) (outer : List Env) (P : Program) (w : World) (H : Hp) (s : Shared) (Q : VK) (E : XK) (r : Result) (s' : Shared) : Prop :=
  match r with
  | .ok (.ret u) => CE outer P w H s Q u s'
  | .ok _ => False
  | .error e => CX outer H s E e s'
structure FnOk (P : Program) (w : World) (K : PySem.W.Frag) (mg : Str → Option Value) (base : Heap) (CX : CXT) (k : Nat) (f : Addr) (fd : FuncData) (ps : List Str) (sp : Sp) : Prop where
  len : ∀ vs H Q E, sp vs H Q E → vs.length = ps.length
  run : ∀ (A : Around) (outer : List Env) (s : Shared) (H : Hp) (args : Args) (us : List Value) (vs : List V) (Q : VK) (E : XK), Room k A → Env0 P w K mg base A outer s H → BindsTo s fd args (ps.zip us) → Vals vs us → sp vs H Q E →
    codeAny (model P w) A (.call (.ref f) args) (CR CX outer P w H s Q E) s

theorem Env0.make {P : Program} {w : World} {K : PySem.W.Frag} {mg : Str → Option Value} {base : Heap} {A : Around} {outer : List Env} {s : Shared} {H : Hp} (e : Env0 P w K mg base A outer s H) (C : Addr) (us : List Value) (kw : List (Str × Value)) :
    Env0 P w K mg base (A.under (.builtin "type.__call__" ⟨.ref C :: us, kw⟩)) outer s H := ⟨by first | exact e.frames | (simpa [Around.under, Code.envs, Code.isFrame, pushEnvs] using e.frames), e.mod, e.bs, e.bsz, e.funs, e.frf, e.hok, e.bare⟩

section
variable {X : Cx} {pins : List (Addr × Obj)} {σ : St} {H : Hp} {s s' : Shared}
/-- from a body: what a callee wants -/
theorem Inv.env0 (I : Inv X pins σ H s) : Env0 X.prog X.w X.K X.mg X.base X.A X.stack s H :=
  ⟨I.ok.frames, I.ok.mod, I.bs, Nat.le_trans I.ok.bsz I.sz, I.stack, I.stkFree, I.hok, I.bare⟩
/-- behind a call -/
theorem Inv.after {Q : VK} {u : Value} (I : Inv X pins σ H s) (h : CE X.stack X.prog X.w H s Q u s') : EP X pins σ Q u s' := by
  obtain ⟨v, H', os, bare, un, hok, r, q⟩ := h
  obtain ⟨hh, g, d, t, os'⟩ := s'
  obtain rfl : os' = s.os := os
  exact ⟨v, H', I.call (h' := hh) (g' := g) (d' := d) (t' := t) (ch := []) un hok bare (fun b z => absurd z (by simp)), r, q⟩
end

/-! ### calls -/
/-- f(..): the written arguments, then the defaults dvs; E: what is wanted of an exception -/
def tCall (sp : Sp) (dvs : List V) (E : XK) (t : TA) : TE := fun σ H Q => t σ H fun vs H1 => sp (vs ++ dvs) H1 Q E

/-- how the parameters are bound: us the positional arguments, kw the keywords' values by name, ds the defaults that fill up -/
def Binds (K : PySem.W.Frag) (fd : FuncData) (ps : List Str) (ds : List Value) : Prop :=
  ∀ (s : Shared) (us : List Value), K.In s.heap → (us ++ ds).length = ps.length → BindsTo s fd ⟨us, []⟩ (ps.zip (us ++ ds))
/-- every parameter is given -/
theorem Binds.all {K : PySem.W.Frag} {fd : FuncData} {ps : List Str} (h : ∀ us : List Value, us.length = ps.length → bindArgs fd ⟨us, []⟩ = pure (ps.zip us)) : Binds K fd ps [] := fun s us _ hl => by
  rw [List.append_nil] at hl ⊢
  exact .of_eq (h us hl)

/-- an exception of a callee reaches what this body wants of exceptions -/
def Passes (CX : CXT) (X : Cx) (E : XK) : Prop := ∀ (pins : List (Addr × Obj)) (σ : St) (H : Hp) (s : Shared) (e : Value) (s' : Shared), Inv X pins σ H s → CX X.stack H s E e s' → X.xe e s'

section
variable {X : Cx} {CX : CXT} {k : Nat} {f C : Addr} {fd : FuncData} {ps : List Str} {sp : Sp} {dvs : List V} {ds : List Value} {E : XK} {x m : Str} {p pos apos : Pos} {e o : Expr} {es : List Expr} {ta : TE} {t : TA}

/-- the callee runs -/
theorem run_fn {pins : List (Addr × Obj)} {σ : St} {H : Hp} {s : Shared} {Q : VK} {us : List Value} {vs : List V} (F : FnOk X.prog X.w X.K X.mg X.base CX k f fd ps sp) (hr : Room k X.A) (hb : Binds X.K fd ps ds) (hd : Vals dvs ds) (hx : Passes CX X E)
    (I : Inv X pins σ H s) (r : Vals vs us) (h : sp (vs ++ dvs) H Q E) : wpAny (model X.prog X.w) X.A (call (.ref f) us) (EP X pins σ Q) X.xe s := by
  have r2 : Vals (vs ++ dvs) (us ++ ds) := r.append hd
  have hl : (us ++ ds).length = ps.length := by rw [← r2.length]; exact F.len _ _ _ _ h
  refine wpAny_call (codeAny_mono (F.run X.A X.stack s H ⟨us, []⟩ (us ++ ds) (vs ++ dvs) Q E hr I.env0 (hb s us I.kIn hl) r2 h) fun r s' hq => ?_)
  cases r with
  | error e => exact hx pins σ H s e s' I hq
  | ok fl =>
    cases fl with
    | ret u => exact I.after hq
    | next => exact False.elim hq
    | brk => exact False.elim hq
    | cont => exact False.elim hq

theorem pe_call (F : FnOk X.prog X.w X.K X.mg X.base CX k f fd ps sp) (hr : Room k X.A) (hg : Gl X x) (hm : X.mg x = some (.ref f)) (hk : PySem.W.keepIn X.K (.ref f) = true) (hb : Binds X.K fd ps ds) (hd : Vals dvs ds) (hx : Passes CX X E)
    (ha : PA X (e :: es) t) (hdb : (x == ("__debug__" : Str)) = false := by decide) (he : starEach (e :: es) X.env = (false, eval e X.env) :: starEach es X.env := by rfl) (hpl : (backTo pos (starEach es X.env)).any (·.1) = false := by rfl) :
    PE X (.Call (.Name x p) (e :: es) [] pos) (tCall sp dvs E t) := by
  intro pins s σ H Q I h
  refine wpAny_Call_Name_kw (ld_glob I hg hm ?_ hdb)
  refine PySem.W.callWith_K (h₀ := X.base) I.ok.mod.kin hk (thn (ha pos pins s σ H _ I h) fun us s1 ⟨vs, H1, I1, r, q⟩ => ⟨I1.kIn, ?_⟩) he hpl
  exact run_fn F hr hb hd hx I1 r q


/-- what a class must have to be made -/
structure Mk (K : PySem.W.Frag) (C f : Addr) : Prop where
  makes : PySem.W.makesIn K C = true
  init : PySem.W.findIn K (.ref C) "__init__" = some (some (.ref f))
  fn : PySem.W.isFn K (.ref f) = true
  kp : PySem.W.keepIn K (.ref C) = true

end

/-! ### keywords -/
/-- the values of the keywords, from the left -/
def PK (X : Cx) (kws : List Keyword) (t : TA) : Prop :=
  ∀ (pos : Pos) (pins : List (Addr × Obj)) (s : Shared) (σ : St) (H : Hp) (Q : List V → Hp → Prop), Inv X pins σ H s → t σ H Q → wpAny (model X.prog X.w) X.A (evalAll ((backToKw pos (keywordEach kws X.env)).map (·.2))) (AP X pins σ Q) X.xe s
section
variable {X : Cx} {CX : CXT} {k : Nat} {f C : Addr} {fd : FuncData} {ps ks : List Str} {sp : Sp} {E : XK} {x m : Str} {p pos apos kpos : Pos} {e o : Expr} {es : List Expr} {kws : List Keyword} {te ta : TE} {t tk : TA} {nm : Option Str}
theorem pk_nil : PK X [] tNil := fun _ _ _ _ H Q I h => wpAny_evalAll_nil ⟨[], H, I, .nil, h⟩
theorem pk_cons (ha : PE X e te) (hr : PK X kws t) : PK X (⟨nm, e, kpos⟩ :: kws) (tCons te t) := by
  intro pos pins s σ H Q I h
  show wpAny _ _ (evalAll ((do let v ← eval e X.env; standAt pos; pure v) :: (backToKw pos (keywordEach kws X.env)).map (·.2))) _ _ s
  refine wpAny_evalAll_cons (wpAny_bind (thn (ha pins s σ H _ I h) fun u s1 ⟨x, H1, I1, r1, q1⟩ => wpAny_bind (wpAny_standAt (wpAny_pure ?_))))
  exact thn (hr pos pins s1 σ H1 _ I1 q1) fun us s2 ⟨xs, H2, I2, r2, q2⟩ => ⟨x :: xs, H2, I2, .cons r1 r2, q2⟩

variable {g : List Value → List Value → List Value} {gV : List V → List V → List V}
end

/-! ### a def's body keeps its promise -/
/-- names: the parameters first -/
structure FnScope (N P : List Str) (sc : Scope) : Prop where
  kind : sc.kind = .function
  co : sc.isCoroutine = false
  gen : sc.isGenerator = false
  nd : N.Nodup
  pre : N.take P.length = P
  par : ∀ x ∈ P, sc.names.lookup x = some .local ∨ sc.names.lookup x = some .cell
  nofree : ∀ y ∈ sc.names, y.2 ≠ .free

theorem bindL_out {kindOf : Str → Option NameKind} {x : Str} : ∀ {binds : List (Str × Value)} {m : Str → Option Value}, (∀ v, (x, v) ∉ binds) → bindL kindOf binds m x = m x
  | [], _, _ => rfl
  | (n, v) :: r, m, h => by
    unfold bindL
    rw [bindL_out fun w hw => h w (List.mem_cons_of_mem _ hw)]
    split
    · have : x ≠ n := by rintro rfl; exact h v List.mem_cons_self
      simp [this]
    · rfl
theorem bindC_out {kindOf : Str → Option NameKind} {x : Str} : ∀ {binds : List (Str × Value)} {m : Str → Option Value}, (∀ v, (x, v) ∉ binds) → bindC kindOf binds m x = m x
  | [], _, _ => rfl
  | (n, v) :: r, m, h => by
    unfold bindC
    rw [bindC_out fun w hw => h w (List.mem_cons_of_mem _ hw)]
    split
    · rfl
    · have : x ≠ n := by rintro rfl; exact h v List.mem_cons_self
      simp [this]
theorem bindL_get {kindOf : Str → Option NameKind} {x : Str} {v : Value} : ∀ {P : List Str} {vs : List Value} {i : Nat} {m : Str → Option Value}, P.Nodup → P[i]? = some x → vs[i]? = some v → kindOf x = some .local →
    bindL kindOf (P.zip vs) m x = some v
  | [], _, _, _, _, h, _, _ => by simp at h
  | _ :: _, [], _, _, _, _, h, _ => by simp at h
  | p :: P, w :: vs, 0, m, nd, h1, h2, hk => by
    simp at h1 h2; subst h1; subst h2
    show bindL kindOf ((p, w) :: P.zip vs) m p = _
    unfold bindL
    rw [bindL_out fun v hv => (List.nodup_cons.mp nd).1 (List.of_mem_zip hv).1, if_pos hk]
    simp
  | p :: P, w :: vs, i + 1, m, nd, h1, h2, hk => by
    show bindL kindOf ((p, w) :: P.zip vs) m x = _
    unfold bindL
    exact bindL_get (i := i) (List.nodup_cons.mp nd).2 (by simpa using h1) (by simpa using h2) hk
theorem bindC_get {kindOf : Str → Option NameKind} {x : Str} {v : Value} : ∀ {P : List Str} {vs : List Value} {i : Nat} {m : Str → Option Value}, P.Nodup → P[i]? = some x → vs[i]? = some v → kindOf x ≠ some .local →
    bindC kindOf (P.zip vs) m x = some v
  | [], _, _, _, _, h, _, _ => by simp at h
  | _ :: _, [], _, _, _, _, h, _ => by simp at h
  | p :: P, w :: vs, 0, m, nd, h1, h2, hk => by
    simp at h1 h2; subst h1; subst h2
    show bindC kindOf ((p, w) :: P.zip vs) m p = _
    unfold bindC
    rw [bindC_out fun v hv => (List.nodup_cons.mp nd).1 (List.of_mem_zip hv).1, if_neg hk]
    simp
  | p :: P, w :: vs, i + 1, m, nd, h1, h2, hk => by
    show bindC kindOf ((p, w) :: P.zip vs) m x = _
    unfold bindC
    exact bindC_get (i := i) (List.nodup_cons.mp nd).2 (by simpa using h1) (by simpa using h2) hk

/-- the names' values at the entry -/
def start (N : List Str) (vs : List V) : St := vs.map some ++ List.replicate (N.length - vs.length) none

/-- the context of a def's body, at its entry; an exception leaves the frame, then lies as CX says -/
def cxOf (CX : CXT) (P : Program) (w : World) (K : PySem.W.Frag) (mg : Str → Option Value) (base : Heap) (N : List Str) (qual : Str) (scope : Scope) (f : Addr) (cd : Value) (A : Around) (outer : List Env) (s : Shared) (H : Hp) (E : XK) : Cx where
  prog := P
  w := w
  K := K
  mg := mg
  base := base
  A := A.deeper (envOfC qual scope s.heap.objs.size f cd)
  N := N
  s₀ := s
  H₀ := H
  env := envOfC qual scope s.heap.objs.size f cd
  outer := outer
  stack := envOfC qual scope s.heap.objs.size f cd :: outer
  ex := []
  calm := true
  fn := fun _ => true
  pn := []
  xe := fun e s' => wpAny (model P w) (A.deeper (envOfC qual scope s.heap.objs.size f cd)) (leaving (envOfC qual scope s.heap.objs.size f cd) e) (fun _ s'' => CX outer H s E e s'') (fun e' s'' => CX outer H s E e' s'') s'

theorem cell_has {sc : Scope} {n : Nat} {x : Str} (h : sc.names.lookup x = some .cell) : ∃ c, (cellsFrom n sc.names []).lookup x = some c := by
  have q := PySem.W.cellsFrom_some sc.names n [] (.inl h)
  exact Option.isSome_iff_exists.mp q

theorem inv_start {CX : CXT} {P : Program} {w : World} {K : PySem.W.Frag} {mg : Str → Option Value} {base : Heap} {N ps : List Str} {qual : Str} {scope : Scope} {f : Addr} {cd : Value} {A : Around} {outer : List Env} {s s1 : Shared} {H : Hp} {E : XK} {us : List Value} {vs : List V}
    (S : FnScope N ps scope) (hd : A.handled = none) (e0 : Env0 P w K mg base A outer s H) (hl : vs.length = ps.length) (r : Vals vs us)
    (x : InCallC s s.heap.objs.size (bindL (envOfC qual scope s.heap.objs.size f cd).kindOf (ps.zip us) fun _ => none) (cellsFrom (s.heap.objs.size + 1) scope.names []) (bindC (envOfC qual scope s.heap.objs.size f cd).kindOf (ps.zip us) fun _ => none) s1) :
    Inv (cxOf CX P w K mg base N qual scope f cd A outer s H E) [] (start N vs) H s1 := by
  have hpl : ps.length ≤ N.length := by have := congrArg List.length S.pre; rw [List.length_take] at this; omega
  obtain ⟨h1, tk, rfl, hk⟩ := x.done
  have noA : ∀ b : Addr, b ∉ (cxOf CX P w K mg base N qual scope f cd A outer s H E).ex := fun b z => absurd (show b ∈ ([] : List Addr) from z) (by simp)
  refine ⟨⟨e0.mod, S.kind, rfl, rfl, Nat.le_refl _, fun y z c h1 h2 => ?_, fun y hy => ?_, fun y c _ h => ?_, fun _ => hd, Around.frames_deeper e0.frames, .inr ⟨rfl, rfl⟩, fun b z => absurd z (noA b), e0.bs, e0.bsz, fun b _ _ => noA b, fun b z => absurd z (noA b), e0.funs, e0.frf⟩,
    rfl, e0.bare, Un.kept hk, ⟨_, x.toInCall.ns, fun i y v h1 h2 h3 => ?_⟩, fun y c h => ⟨_, x.cell y c h⟩, e0.hok.fresh (Nat.le_refl _), fun y c h => ?_, fun p hp => absurd (show p ∈ ([] : List (Addr × Obj)) from hp) (by simp), e0.hok.kept hk, ?_⟩
  · exact name_of_addr x.apart (PySem.mem_of_lookup h1) (PySem.mem_of_lookup h2)
  · have hy : scope.names.lookup y = some .cell ∨ scope.names.lookup y = some .free := hy
    rcases hy with hy | hy
    · exact cell_has hy
    · exact absurd rfl (S.nofree _ (PySem.mem_of_lookup hy))
  · exact Nat.le_of_lt (x.above y c (PySem.mem_of_lookup h))
  · have hi : i < vs.length := by
      unfold start at h2
      by_cases hi : i < vs.length
      · exact hi
      · rw [List.getElem?_append_right (by simpa using hi)] at h2
        rw [List.getElem?_replicate] at h2
        split at h2 <;> cases h2
    have ha : vs[i]? = some v := by
      unfold start at h2
      rw [List.getElem?_append_left (by simpa using hi), List.getElem?_map] at h2
      cases e : vs[i]? with
      | none => rw [e] at h2; cases h2
      | some a => rw [e] at h2; cases h2; rfl
    obtain ⟨u, hu, rv⟩ := r.get ha
    have hp : ps[i]? = some y := by
      rw [← S.pre, List.getElem?_take_of_lt (by omega)]; exact h1
    have ndP : ps.Nodup := by rw [← S.pre]; exact S.nd.sublist (List.take_sublist _ _)
    refine ⟨u, rv, ?_⟩
    rcases S.par y (List.mem_of_getElem? hp) with k | k
    · exact .inl ⟨k, bindL_get ndP hp hu k⟩
    · obtain ⟨c, e⟩ := cell_has (n := s.heap.objs.size + 1) k
      refine .inr ⟨.inl k, c, e, ?_⟩
      have q := x.cell y c e
      rw [bindC_get ndP hp hu (by show scope.names.lookup y ≠ _; rw [k]; decide)] at q
      exact q
  · exact e0.hok.fresh (Nat.le_of_lt (x.above y c (PySem.mem_of_lookup h)))
  · unfold start
    show _ = N.length
    rw [List.length_append, List.length_map, List.length_replicate]
    omega

/-- THE RULE: a def (or a method) of the text, by its body. The body's reading t is chosen for each entry; it is run at the parameters' values -/
theorem fn_of {CX : CXT} {P : Program} {w : World} {K : PySem.W.Frag} {mg : Str → Option Value} {base : Heap} {k : Nat} {f : Addr} {name qual : Str} {params : Arguments} {body : List Stmt} {scope : Scope} {dV kV doc pm cdv ct oc : Value} {an od : Option Addr}
    {osl : Array (Option Value)} {N ps : List Str} {sp : Sp} (lk : K.lookup f = some ⟨oc, od, .func (PySem.W.fnOf name qual params body scope dV kV doc pm an cdv ct), osl⟩) (hcd : PySem.W.codeIn K cdv qual = true) (S : FnScope N ps scope)
    (len : ∀ vs H Q E, sp vs H Q E → vs.length = ps.length)
    (hbody : ∀ (A : Around) (outer : List Env) (s : Shared) (H : Hp) (vs : List V) (Q : VK) (E : XK), Room k (A.deeper (envOfC qual scope s.heap.objs.size f cdv)) → sp vs H Q E →
      ∃ t, PSs (cxOf CX P w K mg base N qual scope f cdv A outer s H E) body t ∧ t { nx := fun _ H' => Q .non H', rt := Q } (start N vs) H) :
    FnOk P w K mg base CX (k + 1) f (PySem.W.fnOf name qual params body scope dV kV doc pm an cdv ct) ps sp := by
  refine ⟨len, fun A outer s H args us vs Q E hr e0 hb r hsp => ?_⟩
  have hl := len _ _ _ _ hsp
  have KX : K.In s.heap := e0.mod.kin.keeps fun b o e => (e0.bs b o e).1
  have lim : s.heap.NoLimit := e0.mod.nolimit.keeps fun b o e => (e0.bs b o e).1
  have hkind : ∀ y ∈ ps.zip us, scope.names.lookup y.1 = some .local ∨ (scope.names.lookup y.1 = some .cell ∧ ((cellsFrom (s.heap.objs.size + 1) scope.names []).lookup y.1).isSome = true) := fun ⟨n, v⟩ hy => by
    rcases S.par n (List.of_mem_zip hy).1 with q | q
    · exact .inl q
    · exact .inr ⟨q, PySem.W.cellsFrom_some _ _ _ (.inl q)⟩
  refine codeAny_call_function hr.depth (KX _ _ lk) rfl S.co S.gen rfl (PySem.W.codeRec_of KX hcd) (hb _ _ _ _ ?_)
  refine wpAny_newFunctionEnv_cells S.kind hkind fun env he s1 x => ?_
  subst he
  refine ⟨lim.keeps x.toInCall.keep, codeAny_func ?_⟩
  obtain ⟨t, ht, hq⟩ := hbody A outer s H vs Q E (hr.deeper _) hsp
  have I : Inv (cxOf CX P w K mg base N qual scope f cdv A outer s H E) [] (start N vs) H s1 := inv_start S hr.hd e0 hl r x
  refine wpAny_mono (ht [] s1 (start N vs) H _ I hq) (fun fl s' hs => ?_) fun e s' hs => hs
  have fin : ∀ {σ' : St} {H' : Hp} {v : V} {u : Value}, Inv (cxOf CX P w K mg base N qual scope f cdv A outer s H E) [] σ' H' s' → RelV v u → Q v H' → CE outer P w H s Q u s' :=
    fun {σ' H' v u} J rv q => ⟨v, H', J.os, J.bare, J.base, J.hok, rv, q⟩
  cases fl with
  | ret u =>
    obtain ⟨v, σ', H', J, rv, q⟩ := hs
    exact fin J rv q
  | next =>
    obtain ⟨σ', H', J, q⟩ := hs
    exact fin (v := V.non) (u := Value.none) J rfl q
  | brk =>
    obtain ⟨_, _, _, q⟩ := hs
    exact False.elim q
  | cont =>
    obtain ⟨_, _, _, q⟩ := hs
    exact False.elim q
end L2

namespace L2
open PySem PySem.Spec PyProof.Rows
section
variable {X : Cx} {x : Str} {p pos : Pos} {e : Expr} {es : List Expr} {t : TA} {id T : String} {r : List V → Hp → VK → Prop}

def tCB (r : List V → Hp → VK → Prop) (t : TA) : TE := fun σ H Q => t σ H fun vs H1 => r vs H1 Q
/-- f(e, ..), f a built-in function -/
theorem pe_callB (hc : CallR X (.builtin id) r) (hg : Gl X x) (hm : X.mg x = none) (hv : bootBuiltins x = some (.builtin id)) (ha : PA X (e :: es) t) (hn : x ≠ "__name__" := by decide) (hdb : (x == ("__debug__" : Str)) = false := by decide)
    (he : starEach (e :: es) X.env = (false, eval e X.env) :: starEach es X.env := by rfl) (hpl : (backTo pos (starEach es X.env)).any (·.1) = false := by rfl) : PE X (.Call (.Name x p) (e :: es) [] pos) (tCB r t) := by
  intro pins s σ H Q I h
  refine wpAny_Call_Name_kw (ld_blt I hg hm hv ?_ hn hdb)
  exact PyProof.Rows.callWith_builtin1 (thn (ha pos pins s σ H _ I h) fun us s1 ⟨vs, H1, I1, r1, q1⟩ => hc pins s1 σ H1 vs us Q I1 r1 q1) he hpl
/-- T(e, ..), T a built-in type -/
theorem pe_callTy (hc : CallR X (.type T) r) (hg : Gl X x) (hm : X.mg x = none) (hv : bootBuiltins x = some (.type T)) (ha : PA X (e :: es) t) (hn : x ≠ "__name__" := by decide) (hdb : (x == ("__debug__" : Str)) = false := by decide)
    (he : starEach (e :: es) X.env = (false, eval e X.env) :: starEach es X.env := by rfl) (hpl : (backTo pos (starEach es X.env)).any (·.1) = false := by rfl) : PE X (.Call (.Name x p) (e :: es) [] pos) (tCB r t) := by
  intro pins s σ H Q I h
  refine wpAny_Call_Name_kw (ld_blt I hg hm hv ?_ hn hdb)
  exact PyProof.Rows.callWith_type1 (thn (ha pos pins s σ H _ I h) fun us s1 ⟨vs, H1, I1, r1, q1⟩ => hc pins s1 σ H1 vs us Q I1 r1 q1) he hpl
end
end L2

namespace HT
open PySem PyProof.Rows



section
open PySem.SeqAt
open PySem.AutoSeq1 (wpAny_loadPart')
open PySem.MeetsSeq PySem.MeetsSeq2 PySem.MeetsSeq3

end

section
variable {prog : Program} {w : World} {A : Around} {E : Value → Shared → Prop} {s : Shared}



/-! ### t[a:b], not the whole -/
/-- a slice's bound as a place among n (d where it is left out) -/
def sIx (n d : Nat) : Option Int → Nat
  | none => d
  | some v => if v < 0 then (v + (n : Int)).toNat else min v.toNat n
theorem sIx_none (n d : Nat) : sIx n d none = d := rfl
theorem sIx_nat (n d k : Nat) : sIx n d (some (k : Int)) = min k n := by
  show (if (k : Int) < 0 then ((k : Int) + (n : Int)).toNat else min (k : Int).toNat n) = min k n
  rw [if_neg (by omega), Int.toNat_natCast]

end
end HT

namespace L2
open PySem PySem.Spec PyProof.Rows

/-! ### the parts of a slice -/
abbrev TO := St → Hp → (Option Int → Hp → Prop) → Prop
/-- a slice's part (left out, or an int) -/
def PO (X : Cx) (e : Option Expr) (t : TO) : Prop :=
  ∀ (pins : List (Addr × Obj)) (s : Shared) (σ : St) (H : Hp) (Q : Option Int → Hp → Prop), Inv X pins σ H s → t σ H Q →
    wpAny (model X.prog X.w) X.A (evalPart e X.env) (fun u s' => ∃ o H', Inv X pins σ H' s' ∧ IsPart u o ∧ Q o H') X.xe s
def tNoPart : TO := fun _ H Q => Q none H
def tPart (t : TE) : TO := fun σ H Q => t σ H fun x H1 => ∃ i, x = .int i ∧ Q (some i) H1


section
variable {X : Cx} {e : Expr} {te : TE} {lo hi : Option Expr} {tl th : TO} {pos p2 : Pos}

theorem po_none : PO X none tNoPart := by
  intro pins s σ H Q I h
  rw [evalPart_none]
  exact wpAny_pure ⟨none, H, I, .none, h⟩
theorem po_some (h : PE X e te) : PO X (some e) (tPart te) := by
  intro pins s σ H Q I hw
  rw [evalPart_some]
  refine thn (h pins s σ H _ I hw) fun u s1 ⟨x, H1, I1, r1, q1⟩ => ?_
  obtain ⟨i, rfl, q⟩ := q1
  obtain ⟨t, rfl⟩ := r1
  exact ⟨some i, H1, I1, .int i t, q⟩

/-- what a slice of a value is, by values: the slice object stands at sl -/
def SlR (X : Cx) (r : V → Option Int → Option Int → Hp → VK → Prop) : Prop :=
  ∀ (pins : List (Addr × Obj)) (s : Shared) (σ : St) (H : Hp) (x : V) (v vl vu : Value) (lo hi : Option Int) (sl : Addr) (Q : VK), Inv X pins σ H s → RelV x v → s.heap.IsSliceOf sl vl vu .none → IsPart vl lo → IsPart vu hi → r x lo hi H Q →
    ∃ T id, typeLookup (.type T) "__getitem__" = pure (some (.builtin id)) ∧ s.TypeIs v T ∧ wpAny (model X.prog X.w) X.A (getItem v (.ref sl)) (EP X pins σ Q) X.xe s
def tSl (r : V → Option Int → Option Int → Hp → VK → Prop) (te : TE) (tl th : TO) : TE := fun σ H Q => te σ H fun x H1 => tl σ H1 fun l H2 => th σ H2 fun u H3 => r x l u H3 Q
/-- a[lo:hi], any a -/
theorem pe_slice {r : V → Option Int → Option Int → Hp → VK → Prop} (hr : SlR X r) (he : PE X e te) (hl : PO X lo tl) (hu : PO X hi th) : PE X (.Subscript e (.Slice lo hi none p2) pos) (tSl r te tl th) := by
  intro pins s σ H Q I h
  refine Subscript_ (thn (he pins s σ H _ I h) fun v s1 ⟨x, H1, I1, r1, q1⟩ => ?_)
  refine wpAny_Slice (thn (hl pins s1 σ H1 _ I1 q1) fun vl s2 ⟨l, H2, I2, pl, q2⟩ => thn (hu pins s2 σ H2 _ I2 q2) fun vu s3 ⟨u, H3, I3, pu, q3⟩ => ?_)
  rw [evalPart_none]
  refine wpAny_pure ?_
  have I4 : Inv X pins σ H3 { s3 with heap := s3.heap.push { cls := .type "slice", data := .fields #[vl, vu, .none] } } := I3.kept (t' := s3.toks) fun b ob q => Heap.get?_push_of_some _ q
  obtain ⟨T, id, hT, ht, hg⟩ := hr pins { s3 with heap := s3.heap.push { cls := .type "slice", data := .fields #[vl, vu, .none] } } σ H3 x v vl vu l u s3.heap.objs.size Q I4 r1 (Heap.IsSliceOf.new ..) pl pu q3
  show wpAny (model X.prog X.w) X.A (subscriptTail e (.Slice lo hi none p2) v (.ref s3.heap.objs.size)) (EP X pins σ Q) X.xe { s3 with heap := s3.heap.push { cls := .type "slice", data := .fields #[vl, vu, .none] } }
  exact tail_any (ops := [.ref s3.heap.objs.size, v]) ht hT hg (by with_unfolding_all rfl)

/-- the items of xs[lo:hi] -/
def cutV (xs : List V) (lo hi : Option Int) : List V := (xs.drop (HT.sIx xs.length 0 lo)).take (HT.sIx xs.length xs.length hi - HT.sIx xs.length 0 lo)
theorem cutV_length (xs : List V) (lo hi : Option Int) : (cutV xs lo hi).length ≤ xs.length := by
  unfold cutV
  rw [List.length_take, List.length_drop]
  omega

/-! ### t < u, t + u -/
end
end L2

namespace L2
open PySem PySem.Spec PyProof.Rows

/-! ### places -/
/-- the place that an index of any sign means -/
def ixN (n : Nat) (i : Int) : Option Nat := if 0 ≤ i then (if i < n then some i.toNat else none) else if -(n : Int) ≤ i then some (i + n).toNat else none
def atI {α : Type} (xs : List α) (i : Int) : Option α := (ixN xs.length i).bind fun j => xs[j]?
theorem ixN_seq {n : Nat} {i : Int} {j : Nat} (h : ixN n i = some j) : seqIndex? i n = some j ∧ j < n ∧ -(n : Int) ≤ i ∧ i < n := by
  unfold ixN at h
  by_cases h0 : 0 ≤ i
  · rw [if_pos h0] at h
    by_cases h1 : i < n
    · rw [if_pos h1] at h
      have e : i.toNat = j := Option.some.inj h
      exact ⟨by rw [seqIndex_of h0 h1, e], by omega, by omega, h1⟩
    · rw [if_neg h1] at h; cases h
  · rw [if_neg h0] at h
    by_cases h1 : -(n : Int) ≤ i
    · rw [if_pos h1] at h
      have e : (i + n).toNat = j := Option.some.inj h
      exact ⟨by rw [seqIndex_neg (by omega) h1, e], by omega, h1, by omega⟩
    · rw [if_neg h1] at h; cases h
theorem atI_get {α : Type} {xs : List α} {i : Int} {v : α} (h : atI xs i = some v) : ∃ j, seqIndex? i xs.length = some j ∧ xs[j]? = some v ∧ j < xs.length ∧ -(xs.length : Int) ≤ i ∧ i < xs.length := by
  unfold atI at h
  cases e : ixN xs.length i with
  | none => rw [e] at h; cases h
  | some j =>
    rw [e] at h
    obtain ⟨h1, h2, h3, h4⟩ := ixN_seq e
    exact ⟨j, h1, h, h2, h3, h4⟩
theorem atI_nat {α : Type} {xs : List α} {j : Nat} {v : α} (h : xs[j]? = some v) : atI xs (j : Int) = some v := by
  have hj : j < xs.length := (List.getElem?_eq_some_iff.mp h).1
  have e : ixN xs.length (j : Int) = some j := by
    unfold ixN
    rw [if_pos (by omega), if_pos (by omega)]; simp
  unfold atI; rw [e]; exact h

/-! ### what may be subscripted -/
/-- what stands as an index of a plain subscript -/
def PlainIx (b : Expr) : Prop := ∀ o i, subscripted b false o i = operate [o, i] (getItem o i)
/-- a subscript by values -/
def IxR (X : Cx) (r : R2) : Prop :=
  ∀ (value slice : Expr) (pins : List (Addr × Obj)) (s : Shared) (σ : St) (H : Hp) (x y : V) (v u : Value) (Q : VK), Inv X pins σ H s → RelV x v → RelV y u → r x y H Q →
    subscripted slice false v u = operate [v, u] (getItem v u) → wpAny (model X.prog X.w) X.A (subscriptTail value slice v u) (EP X pins σ Q) X.xe s
/-- a call of a builtin's method by values: the receiver, the arguments -/
def MtR (X : Cx) (id : String) (r : V → List V → Hp → VK → Prop) : Prop :=
  ∀ (pins : List (Addr × Obj)) (s : Shared) (σ : St) (H : Hp) (x : V) (xs : List V) (v : Value) (us : List Value) (Q : VK), Inv X pins σ H s → RelV x v → Vals xs us → r x xs H Q →
    wpAny (model X.prog X.w) X.A (call (.builtin id) (v :: us)) (EP X pins σ Q) X.xe s
section
variable {X : Cx} {a b : Expr} {ta tb : TE} {pos : Pos}
/-- a[b] -/
theorem pe_ix {r : R2} (hr : IxR X r) (ha : PE X a ta) (hb : PE X b tb) (hs : PlainIx b) : PE X (.Subscript a b pos) (tOp r ta tb) := by
  intro pins s σ H Q I h
  exact Subscript_ (binT ha hb I h fun v u s2 x y H2 I2 rx ry q => hr a b pins s2 σ H2 x y v u Q I2 rx ry q (hs _ _))

def rIxL (K : PySem.W.Frag) : R2 := fun x y H Q => ∃ p xs i v, x = .ref p ∧ y = .int i ∧ SqL K H p xs ∧ atI xs i = some v ∧ Q v H
def rIxT (K : PySem.W.Frag) : R2 := fun x y H Q => ∃ p xs i v, x = .ref p ∧ y = .int i ∧ SqT K H p xs ∧ atI xs i = some v ∧ Q v H
def rIxS : R2 := fun x y H Q => ∃ z i c, x = .str z ∧ y = .int i ∧ z.length ≤ sizeLine ∧ atI z.cps.toList i = some c ∧ Q (.str ⟨#[c]⟩) H
theorem ix_list : IxR X (rIxL X.K) := by
  intro value slice pins s σ H x y v u Q I rx ry h hs
  obtain ⟨p, xs, i, z, rfl, rfl, hq, he, q⟩ := h
  cases rx
  obtain ⟨t, rfl⟩ := ry
  obtain ⟨its, r, pl, hz⟩ := I.list hq
  obtain ⟨j, h1, h2, h3, h4, h5⟩ := atI_get he
  obtain ⟨w, ew, rw'⟩ := r.get h2
  have hl := r.length
  have hn := line63
  have fin : EP X pins σ Q w s := ⟨z, H, I, rw', q⟩
  by_cases h0 : 0 ≤ i
  · have hj : i.toNat = j := by
      rw [seqIndex_of h0 h5] at h1
      exact Option.some.inj h1
    exact item_listR pl.isList h0 (by omega) (by rw [hj]; simpa using ew) fin hs
  · have hj : (i + (its.toArray.size : Int)).toNat = j := by
      rw [seqIndex_neg (by omega) h4] at h1
      rw [List.size_toArray, ← hl]
      exact Option.some.inj h1
    exact subscriptTail_builtinR (x := w) pl.isList.typeIs slot_list_getitem.lookup
      (wpAny_getItem_list_neg (Q := fun r s' => r = w ∧ EP X pins σ Q r s') pl.isList (by omega) (by rw [List.size_toArray] <;> omega) (by omega) (by rw [hj]; simpa using ew) ⟨rfl, fin⟩) hs
theorem ix_tup : IxR X (rIxT X.K) := by
  intro value slice pins s σ H x y v u Q I rx ry h hs
  obtain ⟨p, xs, i, z, rfl, rfl, hq, he, q⟩ := h
  cases rx
  obtain ⟨t, rfl⟩ := ry
  obtain ⟨its, r, pl, hz⟩ := I.tuple hq
  obtain ⟨j, h1, h2, h3, h4, h5⟩ := atI_get he
  obtain ⟨w, ew, rw'⟩ := r.get h2
  have hl := r.length
  have hn := line63
  have fin : EP X pins σ Q w s := ⟨z, H, I, rw', q⟩
  exact subscriptTail_builtinR (x := w) pl.typeIs slot_tuple_getitem.lookup
    (getItem_tuple (j := j) (Q := fun r s' => r = w ∧ EP X pins σ Q r s') pl (by omega) (by omega) (by rw [List.size_toArray, ← hl]; exact h1) (by simpa using ew) ⟨rfl, fin⟩) hs
theorem ix_str : IxR X rIxS := by
  intro value slice pins s σ H x y v u Q I rx ry h hs
  obtain ⟨z, i, c, rfl, rfl, hz, he, q⟩ := h
  obtain ⟨t, rfl⟩ := rx
  obtain ⟨t', rfl⟩ := ry
  obtain ⟨j, h1, h2, h3, h4, h5⟩ := atI_get he
  have hl : z.cps.toList.length = z.length := by simp [Str.length]
  rw [hl] at h1 h4 h5
  have hn := line63
  exact tail_any (typeIs_str s z t) slot_str_getitem.lookup (getItem_str (c := c) (by
    have e1 : decide (i < -(2 ^ 63 : Int)) = false := decide_eq_false (by omega)
    have e2 : decide (i ≥ 2 ^ 63) = false := decide_eq_false (by omega)
    rw [e1, e2, Bool.or_false]) (by rw [h1]; simpa using h2) ⟨.str ⟨#[c]⟩, H, I.tok _, ⟨_, rfl⟩, q⟩) hs

/-! ### xs[i] = v, any sign -/
/-- the list's object behind a store -/
theorem mapSeq_set (its : List Value) (n j : Nat) (u : Value) : Obj.mapSeq (·.setIfInBounds j u) { cls := .type "list", data := .seq its.toArray n } = { cls := .type "list", data := .seq (its.set j u).toArray n } := by
  simp [Obj.mapSeq]
theorem Inv.lst {pins : List (Addr × Obj)} {σ : St} {H : Hp} {s : Shared} {p : Addr} {xs : List V} (I : Inv X pins σ H s) (h : H p = some (.lst xs)) :
    ∃ (its : List Value) (n : Nat), Vals xs its ∧ s.heap.get? p = some { cls := .type "list", data := .seq its.toArray n } ∧ xs.length ≤ sizeLine := by
  obtain ⟨z, its, n, r, e⟩ := I.hok p _ h
  exact ⟨its, n, r, e, z⟩
/-- the list at p is written by an update of its object -/
theorem Inv.lstUpd {pins : List (Addr × Obj)} {σ : St} {H : Hp} {s : Shared} {p : Addr} {xs ys : List V} {its its' : List Value} {n n' : Nat} {f : Obj → Obj} (I : Inv X pins σ H s) (h : H p = some (.lst xs))
    (ho : s.heap.get? p = some { cls := .type "list", data := .seq its.toArray n }) (hf : f { cls := .type "list", data := .seq its.toArray n } = { cls := .type "list", data := .seq its'.toArray n' }) (r : Vals ys its') (hz : ys.length ≤ sizeLine) (t : Nat) :
    Inv X pins σ (upd H p (.lst ys)) { s with heap := s.heap.update p f, toks := t } := by
  have e : (s.heap.update p f).get? p = some { cls := .type "list", data := .seq its'.toArray n' } := by
    rw [Heap.get?_update_self f ho (by rw [hf] <;> rfl), hf]
  refine I.write (x := p) (e := p) (by rw [h]; trivial) (.inl rfl) (fun b u hb q => (Heap.get?_update_other _ _ (Ne.symm hb)).trans q) ⟨_, e⟩ ?_
  exact ⟨hz, its', n', r, e⟩
def rSetL : V → V → V → Hp → (Hp → Prop) → Prop := fun o i v H Q => ∃ p xs k j, o = .ref p ∧ i = .int k ∧ H p = some (.lst xs) ∧ ixN xs.length k = some j ∧ Q (upd H p (.lst (xs.set j v)))
theorem set_list : PSet X rSetL := by
  intro pins s σ H o i v ov iv u Q I ro ri rv h
  obtain ⟨p, xs, k, j, rfl, rfl, hp, hj, q⟩ := h
  cases ro
  obtain ⟨t, rfl⟩ := ri
  obtain ⟨its, n, r, ho, hz⟩ := I.lst hp
  obtain ⟨h1, h2, h3, h4⟩ := ixN_seq hj
  have hl := r.length
  have hn := line63
  have I' : Inv X pins σ (upd H p (.lst (xs.set j v))) { s with heap := s.heap.update p (Obj.mapSeq (·.setIfInBounds j u)) } :=
    I.lstUpd hp ho (mapSeq_set its n j u) (r.set rv j) (by rw [List.length_set]; exact hz) s.toks
  by_cases h0 : 0 ≤ k
  · have hk : k.toNat = j := by
      rw [seqIndex_of h0 h4] at h1
      exact Option.some.inj h1
    exact PySem.W.ki_setAt ho h0 (by omega) (by rw [List.size_toArray, ← hl]; exact h4) (by rw [hk]; exact ⟨_, I', q⟩)
  · have hk : (k + (its.toArray.size : Int)).toNat = j := by
      rw [seqIndex_neg (by omega) h3] at h1
      rw [List.size_toArray, ← hl]
      exact Option.some.inj h1
    exact PySem.W.ki_setBack ho (by omega) (by rw [List.size_toArray, ← hl]; exact h3) (by omega) (by rw [hk]; exact ⟨_, I', q⟩)

/-! ### slices -/
theorem slice_bounds (lo hi : Option Int) (n : Nat) : (sliceBounds lo hi none n).1 = ((HT.sIx n 0 lo : Nat) : Int) ∧ (sliceBounds lo hi none n).2.1 = ((HT.sIx n n hi : Nat) : Int) ∧ (sliceBounds lo hi none n).2.2 = 1 := by
  refine ⟨?_, ?_, rfl⟩
  · cases lo with
    | none => simp [sliceBounds, HT.sIx]
    | some i =>
      simp only [sliceBounds, HT.sIx, Option.getD_none, show (1 : Int) > 0 by decide, if_true]
      by_cases h : i < 0
      · simp only [h, if_true] <;> omega
      · simp only [h, if_false] <;> omega
  · cases hi with
    | none => simp [sliceBounds, HT.sIx]
    | some i =>
      simp only [sliceBounds, HT.sIx, Option.getD_none, show (1 : Int) > 0 by decide, if_true]
      by_cases h : i < 0
      · simp only [h, if_true] <;> omega
      · simp only [h, if_false] <;> omega
theorem slicePick_cut (its : List Value) (lo hi : Option Int) : slicePick its.toArray lo hi none = ((its.drop (HT.sIx its.length 0 lo)).take (HT.sIx its.length its.length hi - HT.sIx its.length 0 lo)).toArray := by
  obtain ⟨h1, h2, h3⟩ := slice_bounds lo hi its.toArray.size
  unfold slicePick
  rw [h1, h2, h3]
  simp only [sliceRange_one, pick_run, List.size_toArray] <;> rfl
/-- xs[lo:hi] of a list: a new list -/
def rSlL (K : PySem.W.Frag) : V → Option Int → Option Int → Hp → VK → Prop := fun x lo hi H Q => ∃ a xs, x = .ref a ∧ SqL K H a xs ∧ ∀ p, H p = none → Q (.ref p) (upd H p (.lst (cutV xs lo hi)))
theorem sl_list : SlR X (rSlL X.K) := by
  intro pins s σ H x v vl vu lo hi sl Q I rx hs pl pu h
  obtain ⟨a, xs, rfl, hx, q⟩ := h
  cases rx
  obtain ⟨its, r, ht, hz⟩ := I.list hx
  have hlen := r.length
  refine ⟨"list", _, slot_list_getitem.lookup, ht.isList.typeIs, ?_⟩
  refine wpAny_getItem_list_slice ht.isList hs pl pu .none (by simp) ?_ (by rw [List.size_toArray] <;> omega)
  rw [slicePick_cut, ← hlen]
  refine ⟨.ref s.heap.objs.size, _, I.laid (t' := s.toks) (o := .lst (cutV xs lo hi)) (fun b ob q => Heap.get?_push_of_some _ q) (Nat.le_refl _) ?_, rfl, q _ (I.hok.fresh (Nat.le_refl _))⟩
  exact ⟨Nat.le_trans (cutV_length xs lo hi) hz, _, 0, (r.drop (HT.sIx xs.length 0 lo)).take (HT.sIx xs.length xs.length hi - HT.sIx xs.length 0 lo), Heap.get?_push_size _ rfl⟩

/-! ### in, not in: flat items -/
def flatV : V → Bool
  | .non => true
  | .bl _ => true
  | .int _ => true
  | .str _ => true
  | _ => false
/-- == of flat values -/
def eqV : V → V → Bool
  | .non, .non => true
  | .bl a, .bl b => a == b
  | .bl a, .int b => (if a then 1 else 0) == b
  | .int a, .bl b => a == (if b then 1 else 0)
  | .int a, .int b => a == b
  | .str a, .str b => a == b
  | _, _ => false
theorem eqAt_V {A : Around} {s : Shared} {y x : V} {u v : Value} (ry : RelV y u) (rx : RelV x v) (fy : flatV y = true) (fx : flatV x = true) : SeqAt.EqAt A s u v (eqV y x) := by
  cases y with
  | non =>
    cases ry
    cases x with
    | non => cases rx; exact SeqAt.EqAt.same _
    | bl b => cases rx; exact SeqAt.EqAt.none_bool b
    | int b => obtain ⟨t, rfl⟩ := rx; exact SeqAt.EqAt.none_int b t
    | str b => obtain ⟨t, rfl⟩ := rx; exact SeqAt.EqAt.none_str b t
    | _ => exact absurd (show false = true from fx) Bool.false_ne_true
  | bl a =>
    cases ry
    cases x with
    | non => cases rx; exact SeqAt.EqAt.bool_none a
    | bl b => cases rx; exact SeqAt.EqAt.bool_bool a b
    | int b => obtain ⟨t, rfl⟩ := rx; exact SeqAt.EqAt.bool_int a b t
    | str b => obtain ⟨t, rfl⟩ := rx; exact SeqAt.EqAt.bool_str a b t
    | _ => exact absurd (show false = true from fx) Bool.false_ne_true
  | int a =>
    obtain ⟨t', rfl⟩ := ry
    cases x with
    | non => cases rx; exact SeqAt.EqAt.int_none a t'
    | bl b => cases rx; exact SeqAt.EqAt.int_bool a t' b
    | int b => obtain ⟨t, rfl⟩ := rx; exact SeqAt.EqAt.int_int a t' b t
    | str b => obtain ⟨t, rfl⟩ := rx; exact SeqAt.EqAt.int_str a t' b t
    | _ => exact absurd (show false = true from fx) Bool.false_ne_true
  | str a =>
    obtain ⟨t', rfl⟩ := ry
    cases x with
    | non => cases rx; exact SeqAt.EqAt.str_none a t'
    | bl b => cases rx; exact SeqAt.EqAt.str_bool a t' b
    | int b => obtain ⟨t, rfl⟩ := rx; exact SeqAt.EqAt.str_int a t' b t
    | str b => obtain ⟨t, rfl⟩ := rx; exact SeqAt.EqAt.str_str a t' b t
    | _ => exact absurd (show false = true from fx) Bool.false_ne_true
  | _ => exact absurd (show false = true from fy) Bool.false_ne_true
/-- the items' answers, read off the values (a value's own answer does not lean on its token) -/
def eqU (x : V) (u : Value) : Bool := match u with
  | .none => eqV .non x
  | .bool b => eqV (.bl b) x
  | .int i _ => eqV (.int i) x
  | .str z _ => eqV (.str z) x
  | _ => false
theorem eqU_of {x y : V} {u : Value} (r : RelV y u) (f : flatV y = true) : eqU x u = eqV y x := by
  cases y with
  | non => cases r; rfl
  | bl b => cases r; rfl
  | int i => obtain ⟨t, rfl⟩ := r; rfl
  | str z => obtain ⟨t, rfl⟩ := r; rfl
  | _ => exact absurd (show false = true from f) Bool.false_ne_true
theorem any_eqU {x : V} : ∀ {xs : List V} {us : List Value}, Vals xs us → xs.all flatV = true → us.any (eqU x) = xs.any fun y => eqV y x
  | _, _, .nil, _ => rfl
  | y :: xs, u :: us, .cons r t, f => by
    rw [List.all_cons, Bool.and_eq_true] at f
    rw [List.any_cons, List.any_cons, eqU_of r f.1, any_eqU t f.2]
theorem mem_eqAt {A : Around} {s : Shared} {x : V} {v : Value} (rx : RelV x v) (fx : flatV x = true) : ∀ {xs : List V} {us : List Value}, Vals xs us → xs.all flatV = true → ∀ u ∈ us, SeqAt.EqAt A s u v (eqU x u)
  | _, _, .nil, _ => fun u hu => by cases hu
  | y :: xs, u :: us, .cons r t, f => fun u' hu => by
    rw [List.all_cons, Bool.and_eq_true] at f
    rcases List.mem_cons.mp hu with rfl | hu
    · rw [eqU_of r f.1]; exact eqAt_V r rx f.1 fx
    · exact mem_eqAt rx fx t f.2 u' hu
def inV (x : V) (xs : List V) : Bool := xs.any fun y => eqV y x
/-- x in a list or tuple of flat items -/
def rIn (K : PySem.W.Frag) (neg : Bool) : R2 := fun x y H Q => ∃ p xs, y = .ref p ∧ (SqL K H p xs ∨ SqT K H p xs) ∧ flatV x = true ∧ xs.all flatV = true ∧ Q (.bl (if neg then !inV x xs else inV x xs)) H
theorem op_notIn_seq : OpR X (compareOp .NotIn) (rIn X.K true) := by
  intro pins s σ H x y v u Q I rx ry h
  obtain ⟨p, xs, rfl, hq, fx, fs, q⟩ := h
  cases ry
  rcases hq with hq | hq
  · obtain ⟨its, r, pl, hz⟩ := I.list hq
    refine SeqAt.notIn_listAt (eqU x) pl.isList (fun w hw => mem_eqAt rx fx r fs w (by simpa using hw)) ⟨.bl _, H, I, rfl, ?_⟩
    rw [show its.toArray.any (eqU x) = its.any (eqU x) by simp, any_eqU r fs]
    exact q
  · obtain ⟨its, r, pl, hz⟩ := I.tuple hq
    refine SeqAt.notIn_tupleAt (eqU x) pl (fun w hw => mem_eqAt rx fx r fs w (by simpa using hw)) ⟨.bl _, H, I, rfl, ?_⟩
    rw [show its.toArray.any (eqU x) = its.any (eqU x) by simp, any_eqU r fs]
    exact q

/-! ### len, list(x), tuple(x) of any list or tuple that is read -/
theorem call_len_seq : CallR X (.builtin "len") (fun xs H Q => ∃ p ys, xs = [.ref p] ∧ (SqL X.K H p ys ∨ SqT X.K H p ys) ∧ Q (.int ys.length) H) := by
  intro pins s σ H xs us Q I r h
  obtain ⟨p, ys, rfl, hq, q⟩ := h
  obtain ⟨u, rfl, rx⟩ := vals1 r
  cases rx
  have hn := line63
  rcases hq with hq | hq
  · obtain ⟨its, r', pl, hz⟩ := I.list hq
    have hlen := r'.length
    exact Calls.call_len_list pl.isList (by simp only [List.size_toArray] <;> omega) ⟨.int ys.length, H, I.tok _, ⟨s.toks + 1, by rw [List.size_toArray, hlen]⟩, q⟩
  · obtain ⟨its, r', pl, hz⟩ := I.tuple hq
    have hlen := r'.length
    exact len_tuple pl (by simp only [List.size_toArray] <;> omega) ⟨.int ys.length, H, I.tok _, ⟨s.toks + 1, by rw [List.size_toArray, hlen]⟩, q⟩
theorem call_len_str : CallR X (.builtin "len") (fun xs H Q => ∃ z, xs = [.str z] ∧ z.length ≤ sizeLine ∧ Q (.int z.length) H) := by
  intro pins s σ H xs us Q I r h
  obtain ⟨z, rfl, hz, q⟩ := h
  obtain ⟨u, rfl, t, rfl⟩ := vals1 r
  have hn := line63
  exact len_str (by omega) ⟨.int z.length, H, I.tok _, ⟨_, rfl⟩, q⟩
theorem call_list_of : CallR X (.type "list") (fun xs H Q => ∃ p ys, xs = [.ref p] ∧ (SqL X.K H p ys ∨ SqT X.K H p ys) ∧ ∀ l, H l = none → Q (.ref l) (upd H l (.lst ys))) := by
  intro pins s σ H xs us Q I r h
  obtain ⟨p, ys, rfl, hq, q⟩ := h
  obtain ⟨u, rfl, rx⟩ := vals1 r
  cases rx
  have fin : ∀ (its : List Value), Vals ys its → ys.length ≤ sizeLine → ∀ (h' : Heap) (c' : Nat), (∀ b o', s.heap.get? b = some o' → h'.get? b = some o') →
      h'.get? s.heap.objs.size = some { cls := .type "list", dict := none, data := .seq its.toArray c', slots := #[] } → EP X pins σ Q (.ref s.heap.objs.size) { s with heap := h' } := fun its r' hz h' c' kp e =>
    ⟨.ref s.heap.objs.size, _, I.laid (t' := s.toks) kp (Nat.le_refl _) (show ObjOk X.prog X.w _ h' _ (.lst ys) from ⟨hz, its, c', r', e⟩), rfl, q _ (I.hok.fresh (Nat.le_refl _))⟩
  rcases hq with hq | hq
  · obtain ⟨its, r', pl, hz⟩ := I.list hq
    have hlen := r'.length
    obtain ⟨o, ho, hc, n, hd⟩ := pl.isList
    exact call_list_seq p (.inl rfl) ho hc hd (fun h' c' kp e => fin its r' hz h' c' kp e) (by simp only [List.size_toArray] <;> omega)
  · obtain ⟨its, r', pl, hz⟩ := I.tuple hq
    have hlen := r'.length
    obtain ⟨o, ho, hc, n, hd⟩ := pl
    exact call_list_seq p (.inr rfl) ho hc hd (fun h' c' kp e => fin its r' hz h' c' kp e) (by simp only [List.size_toArray] <;> omega)
theorem call_tuple_of : CallR X (.type "tuple") (fun xs H Q => ∃ p ys, xs = [.ref p] ∧ ((SqL X.K H p ys ∧ ∀ l, H l = none → Q (.ref l) (upd H l (.tup ys))) ∨ (SqT X.K H p ys ∧ Q (.ref p) H))) := by
  intro pins s σ H xs us Q I r h
  obtain ⟨p, ys, rfl, h⟩ := h
  obtain ⟨u, rfl, rx⟩ := vals1 r
  cases rx
  rcases h with ⟨hq, q⟩ | ⟨hq, q⟩
  · obtain ⟨its, r', pl, hz⟩ := I.list hq
    have hlen := r'.length
    refine call_tuple_list pl.isList (fun h' kp => ?_) (by simp only [List.size_toArray] <;> omega)
    have I1 : Inv X pins σ H { s with heap := h' } := I.kept (t' := s.toks) kp
    have I2 : Inv X pins σ (upd H h'.objs.size (.tup ys)) { s with heap := h'.push { cls := .type "tuple", data := .seq its.toArray } } :=
      I1.laid (t' := s.toks) (fun b o e => Heap.get?_push_of_some _ e) (Nat.le_refl _) (show ObjOk X.prog X.w _ _ _ (.tup ys) from ⟨hz, its, r', IsTup.new _ _⟩)
    exact ⟨.ref h'.objs.size, _, I2, rfl, q _ (I1.hok.fresh (Nat.le_refl _))⟩
  · obtain ⟨its, r', pl, hz⟩ := I.tuple hq
    exact call_tuple_same pl ⟨.ref p, H, I, rfl, q⟩

/-! ### the call of a builtin's method: o.m(..) -/
/-- the value is of that builtin type -/
def tyV (K : PySem.W.Frag) (T : String) (x : V) (H : Hp) : Prop := match x with
  | .str _ => T = "str"
  | .int _ => T = "int"
  | .ref p => (T = "list" ∧ ∃ xs, SqL K H p xs) ∨ (T = "tuple" ∧ ∃ o, K.lookup p = some o ∧ o.cls = .type "tuple" ∧ o.dict = none) ∨
      (T = "dict" ∧ ((∃ kvs, H p = some (.dK kvs)) ∨ ∃ kvs, H p = some (.dT kvs))) ∨ (T = "set" ∧ ∃ S n, H p = some (.set S n))
  | _ => False
theorem tyV_is {pins : List (Addr × Obj)} {σ : St} {H : Hp} {s : Shared} {T : String} {x : V} {v : Value} (I : Inv X pins σ H s) (r : RelV x v) (ty : tyV X.K T x H) :
    s.TypeIs v T ∧ ∀ a, v = .ref a → ∃ ob, s.heap.get? a = some ob ∧ ob.dict = none := by
  cases x with
  | str z =>
    obtain ⟨t, rfl⟩ := r
    cases (show T = "str" from ty)
    exact ⟨typeIs_str s z t, fun _ e => nomatch e⟩
  | int i =>
    obtain ⟨t, rfl⟩ := r
    cases (show T = "int" from ty)
    exact ⟨typeIs_int s i t, fun _ e => nomatch e⟩
  | ref p =>
    cases r
    rcases ty with ⟨rfl, xs, hq⟩ | ⟨rfl, o, hk, hc, hd⟩ | ⟨rfl, hk⟩ | ⟨rfl, S, n, hk⟩
    · obtain ⟨its, _, pl, _⟩ := I.list hq
      refine ⟨pl.isList.typeIs, fun a e => ?_⟩
      cases e
      obtain ⟨o, n, e, c, hd, _⟩ := pl
      exact ⟨o, e, hd⟩
    · refine ⟨⟨o, I.kIn p o hk, hc⟩, fun a e => ?_⟩
      cases e
      exact ⟨o, I.kIn _ o hk, hd⟩
    · have z : ∃ o, s.heap.get? p = some o ∧ o.ExactDict := by
        rcases hk with ⟨kvs, hk⟩ | ⟨kvs, hk⟩
        · obtain ⟨_, _, _, _, o, _, _, e, ex, _⟩ := I.hok p _ hk
          exact ⟨o, e, ex⟩
        · obtain ⟨_, _, _, _, o, _, _, e, ex, _⟩ := I.hok p _ hk
          exact ⟨o, e, ex⟩
      obtain ⟨o, e, ex⟩ := z
      refine ⟨⟨o, e, ex.1⟩, fun a e2 => ?_⟩
      cases e2
      exact ⟨o, e, ex.2.1⟩
    · obtain ⟨o, _, _, _, e, ex, _⟩ := I.hok p _ hk
      refine ⟨⟨o, e, ex.1⟩, fun a e2 => ?_⟩
      cases e2
      exact ⟨o, e, ex.2.1⟩
  | _ => exact False.elim ty
def tBM0 (K : PySem.W.Frag) (T : String) (r : V → List V → Hp → VK → Prop) (to : TE) : TE := fun σ H Q => to σ H fun x H1 => tyV K T x H1 ∧ r x [] H1 Q
def tBM (K : PySem.W.Frag) (T : String) (r : V → List V → Hp → VK → Prop) (to : TE) (t : TA) : TE := fun σ H Q => to σ H fun x H1 => tyV K T x H1 ∧ t σ H1 fun xs H2 => r x xs H2 Q
variable {o e : Expr} {es : List Expr} {to : TE} {t : TA} {name : Str} {apos cpos : Pos} {T id : String} {r : V → List V → Hp → VK → Prop}
theorem pe_bm0 (pa : PlainAttrs T) (slot : Slot T name id) (hty : typeOf (.builtin id) = pure (.type "method_descriptor")) (hm : MtR X id r) (ho : PE X o to)
    (hbase : attributeBase o name X.env (eval o X.env) = eval o X.env := by rfl) (hline : (apos.endLine == cpos.line) = true := by rfl) : PE X (.Call (.Attribute o name apos) [] [] cpos) (tBM0 X.K T r to) := by
  intro pins s σ H Q I h
  refine wpAny_Call_method0_late hbase hline (thn (ho pins s σ H _ I h) fun v s1 ⟨x, H1, I1, r1, ty, q1⟩ => ?_)
  obtain ⟨h1, h2⟩ := tyV_is I1 r1 ty
  exact ⟨T, id, pa, slot, hty, h1, h2, Calls.callWith_builtin rfl (PySem.evalArgs_none (hm pins s1 σ H1 x [] v [] Q I1 r1 .nil q1))⟩
theorem pe_bm (pa : PlainAttrs T) (slot : Slot T name id) (hty : typeOf (.builtin id) = pure (.type "method_descriptor")) (hm : MtR X id r) (ho : PE X o to) (ha : PA X (e :: es) t)
    (hbase : attributeBase o name X.env (eval o X.env) = eval o X.env := by rfl)
    (hfew : ((backTo cpos (starEach (e :: es) X.env)).all (fun x => !x.1) && (backToKw cpos (keywordEach [] X.env)).all (fun x => x.1.isSome)
      && decide ((e :: es).length + ([] : List Keyword).length + (if ([] : List Keyword).isEmpty then 0 else 1) < 30)) = true := by rfl)
    (hline : (apos.endLine == cpos.line) = true := by rfl) (hs : starEach (e :: es) X.env = (false, eval e X.env) :: starEach es X.env := by rfl) (hplain : (backTo cpos (starEach es X.env)).any (·.1) = false := by rfl) :
    PE X (.Call (.Attribute o name apos) (e :: es) [] cpos) (tBM X.K T r to t) := by
  intro pins s σ H Q I h
  refine wpAny_Call_method_late hbase hfew hline rfl (thn (ho pins s σ H _ I h) fun v s1 ⟨x, H1, I1, r1, ty, q1⟩ => ?_)
  obtain ⟨h1, h2⟩ := tyV_is I1 r1 ty
  refine ⟨T, id, pa, slot, hty, h1, h2, ?_⟩
  have hA := ha cpos pins s1 σ H1 _ I1 q1
  rw [hs] at hA ⊢
  refine Calls.callWith_builtin (by show (false || (backTo cpos (starEach es X.env)).any (·.1)) = false; rw [hplain] <;> rfl) (Calls.evalArgs_plain ?_)
  exact thn hA fun us s2 ⟨vs, H2, I2, r2, q2⟩ => hm pins s2 σ H2 x vs v us Q I2 r1 r2 q2
/- xs.append(e), list.index on a module's tuple .. are MtR facts of 06m -/
end
end L2

namespace L2
open PySem PySem.Spec PyProof.Rows

def MtM (X : Cx) (id : String) (r : V → List V → Hp → VK → Prop) : Prop :=
  ∀ (pins : List (Addr × Obj)) (s : Shared) (σ : St) (H : Hp) (x : V) (xs : List V) (v : Value) (us : List Value) (Q : VK), Inv X pins σ H s → RelV x v → Vals xs us → r x xs H Q →
    wpAny (model X.prog X.w) X.A (call (.builtin id) (v :: us)) (EP X pins σ Q) X.xe s

/-! ### lists of values -/
theorem Vals.one : ∀ {x : V} {us : List Value}, Vals [x] us → ∃ u, us = [u] ∧ RelV x u
  | _, _, .cons r .nil => ⟨_, rfl, r⟩
theorem Vals.two : ∀ {x y : V} {us : List Value}, Vals [x, y] us → ∃ u v, us = [u, v] ∧ RelV x u ∧ RelV y v
  | _, _, _, .cons r (.cons q .nil) => ⟨_, _, rfl, r, q⟩
theorem Vals.zero : ∀ {us : List Value}, Vals [] us → us = []
  | _, .nil => rfl

section
variable {X : Cx} {pins : List (Addr × Obj)} {σ : St} {H : Hp} {s : Shared} {l b : Addr} {xs ys zs : List V}

/-! ### the two steps: a tracked list is rewritten, a new list is laid -/
theorem Inv.lset {its its' : List Value} {n : Nat} {f : Array Value → Array Value} {t' : Nat} (I : Inv X pins σ H s) (hH : H l = some (.lst xs))
    (e : s.heap.get? l = some { cls := .type "list", data := .seq its.toArray n }) (hf : f its.toArray = its'.toArray) (hv : Vals ys its') (hz : ys.length ≤ sizeLine) :
    Inv X pins σ (upd H l (.lst ys)) { s with heap := s.heap.update l (Obj.mapSeq f), toks := t' } := by
  have q := PySem.IsL.update e f
  rw [hf] at q
  refine I.write (x := l) (e := l) (by rw [hH]; exact trivial) (.inl rfl) (fun b' u hb hu => (Heap.get?_update_other s.heap (Obj.mapSeq f) (Ne.symm hb)).trans hu) ⟨_, q⟩ ?_
  exact ⟨hz, its', _, hv, q⟩
theorem Inv.lnew {its : List Value} {t' : Nat} (I : Inv X pins σ H s) (hv : Vals ys its) (hz : ys.length ≤ sizeLine) :
    Inv X pins σ (upd H s.heap.objs.size (.lst ys)) { s with heap := s.heap.push { cls := .type "list", data := .seq its.toArray }, toks := t' } :=
  I.laid (fun _ _ q => Heap.get?_push_of_some _ q) (Nat.le_refl _) ⟨hz, its, 0, hv, Heap.get?_push_size _ rfl⟩
theorem Inv.fresh (I : Inv X pins σ H s) : H s.heap.objs.size = none := I.hok.fresh (Nat.le_refl _)
theorem Inv.lstM (I : Inv X pins σ H s) (hH : H l = some (.lst xs)) : xs.length ≤ sizeLine ∧ ∃ (its : List Value) (n : Nat), Vals xs its ∧ xs.length = its.length ∧ s.heap.get? l = some { cls := .type "list", data := .seq its.toArray n } := by
  obtain ⟨z, its, n, r, e⟩ := I.hok l _ hH
  exact ⟨z, its, n, r, r.length, e⟩

theorem notLongL {n : Nat} (h : n ≤ sizeLine) : Builtin.List.listTooLong n = false := by
  unfold Builtin.List.listTooLong
  exact decide_eq_false (by omega)
end

section
variable {X : Cx}

/-! ### methods -/
def rAppend : V → List V → Hp → VK → Prop := fun x vs H Q => ∃ l xs y, x = .ref l ∧ vs = [y] ∧ H l = some (.lst xs) ∧ xs.length < sizeLine ∧ Q .non (upd H l (.lst (xs ++ [y])))
theorem mt_append : MtM X "list.append" rAppend := by
  intro pins s σ H x vs v us Q I rx rv h
  obtain ⟨l, xs, y, rfl, rfl, hH, hz, q⟩ := h
  cases rx
  obtain ⟨u, rfl, ru⟩ := rv.one
  obtain ⟨z, its, n, r, hl, e⟩ := I.lstM hH
  refine call_meets F.slot_list_append ⟨_, e, rfl⟩ F.entry_list_append (F.args_list_append_2 _ _) (PySem.list_append l its.toArray n u (by rw [List.size_toArray]; omega)) ⟨e, ?_⟩
  refine ⟨.non, _, I.lset (its' := its ++ [u]) hH e (by simp) (r.append (.cons ru .nil)) ?_, rfl, q⟩
  rw [List.length_append, List.length_singleton]
  omega

def rExtend : V → List V → Hp → VK → Prop := fun x vs H Q => ∃ l b xs zs, x = .ref l ∧ vs = [.ref b] ∧ H l = some (.lst xs) ∧ H b = some (.lst zs) ∧ xs.length + zs.length ≤ sizeLine ∧ Q .non (upd H l (.lst (xs ++ zs)))
theorem mt_extend : MtM X "list.extend" rExtend := by
  intro pins s σ H x vs v us Q I rx rv h
  obtain ⟨l, b, xs, zs, rfl, rfl, hH, hB, hz, q⟩ := h
  cases rx
  obtain ⟨u, rfl, ru⟩ := rv.one
  cases ru
  obtain ⟨z, its, n, r, hl, e⟩ := I.lstM hH
  obtain ⟨z2, its2, n2, r2, hl2, e2⟩ := I.lstM hB
  have hsz : its.toArray.size + its2.toArray.size ≤ sizeLine := by rw [List.size_toArray, List.size_toArray]; omega
  have hlong : ¬ (!its.toArray.isEmpty && Builtin.List.listTooLong (its.toArray.size + its2.toArray.size)) = true := by
    rw [notLongL hsz, Bool.and_false]
    exact Bool.false_ne_true
  refine call_meets F.slot_list_extend ⟨_, e, rfl⟩ F.entry_list_extend (F.args_list_extend_2 _ _)
    (AutoSeq1.list_extend_list_list_0 l its.toArray n b its2.toArray n2 hlong (by rw [List.size_toArray]; omega) (by omega)) ⟨e, e2, ?_⟩
  refine ⟨.non, _, I.lset (its' := its ++ its2) hH e (by simp) (r.append r2) ?_, rfl, q⟩
  rw [List.length_append]
  omega




def rClear : V → List V → Hp → VK → Prop := fun x vs H Q => ∃ l xs, x = .ref l ∧ vs = [] ∧ H l = some (.lst xs) ∧ Q .non (upd H l (.lst []))
theorem mt_clear : MtM X "list.clear" rClear := by
  intro pins s σ H x vs v us Q I rx rv h
  obtain ⟨l, xs, rfl, rfl, hH, q⟩ := h
  cases rx
  have hus := rv.zero
  subst hus
  obtain ⟨z, its, n, r, hl, e⟩ := I.lstM hH
  refine call_meets F.slot_list_clear ⟨_, e, rfl⟩ F.entry_list_clear (F.args_list_clear_1 _) (AutoSeq1.list_clear_list_0 l its.toArray n (by rw [List.size_toArray]; omega)) ⟨e, ?_⟩
  exact ⟨.non, _, I.lset (its' := []) (ys := []) hH e rfl .nil (Nat.zero_le _), rfl, q⟩

/-! ### list + list, list += list, list * int -/
def rCat : R2 := fun x y H Q => ∃ l b xs zs, x = .ref l ∧ y = .ref b ∧ H l = some (.lst xs) ∧ H b = some (.lst zs) ∧ xs.length + zs.length ≤ sizeLine ∧ ∀ p, H p = none → Q (.ref p) (upd H p (.lst (xs ++ zs)))
theorem op_cat : OpR X (binaryOp .Add) rCat := by
  intro pins s σ H x y v u Q I rx ry h
  obtain ⟨l, b, xs, zs, rfl, rfl, hH, hB, hz, q⟩ := h
  cases rx
  cases ry
  obtain ⟨z, its, n, r, hl, e⟩ := I.lstM hH
  obtain ⟨z2, its2, n2, r2, hl2, e2⟩ := I.lstM hB
  refine PySem.P.add_list e e2 ?_ (by rw [List.size_toArray, List.size_toArray]; omega)
  have ea : its.toArray ++ its2.toArray = (its ++ its2).toArray := by simp
  rw [ea]
  exact ⟨.ref _, _, I.lnew (t' := s.toks) (r.append r2) (by rw [List.length_append]; omega), rfl, q _ I.fresh⟩

/-! ### del xs[i] -/
end

/-! ### xs[a:b] = ys -/
section
variable {prog : Program} {w : World} {A : Around} {E : Value → Shared → Prop} {s : Shared}
end

section
variable {X : Cx}
end
end L2

namespace Att
open PySem PySem.W PySem.Calls PyProof.Rows

/-! ### the script -/
theorem ints_of_wellAll {P : Params} {h : Heap} : ∀ (ns : List Int) (vs : List Value), WellAll P h vs (ns.map WData.int) → IntsAre vs ns := by
  intro ns
  induction ns with
  | nil =>
    intro vs w
    rw [List.map_nil] at w
    cases w
    exact .nil
  | cons n ns ih =>
    intro vs w
    rw [List.map_cons] at w
    cases w with
    | cons a b =>
      cases a
      exact .cons _ _ (ih _ b)

theorem script_of {l : OpenLaw} {n : Nat} (hn : l.most = some n) {P : Params} {h : Heap} {args : List WData} {vals : List Value}
    (hpre : l.row.toRowW.claim.pre args = true) (hwl : WellAll P h vals args) :
    ∃ a vs ns, vals = [Value.ref a] ∧ args = [WData.list (ns.map WData.int)] ∧ h.get? a = some { cls := .type "list", data := .seq vs.toArray } ∧ IntsAre vs ns ∧ ns.length ≤ n := by
  have hsh : WShape.hasAll [] args [.list .int] = true := (pre_splitW hpre).1
  have hc : l.pre.holds [] { args := args } = true := (pre_splitW hpre).2
  obtain ⟨d, r, rfl, h1, h2⟩ := hasAllW_cons hsh
  obtain rfl := hasAllW_nil h2
  obtain ⟨xs, rfl, h3⟩ := hasW_list h1
  obtain ⟨ns, rfl⟩ := items_int h3
  have hlen : ns.length ≤ n := by
    unfold OpenLaw.pre at hc
    have h4 : (WTm.not (.lt (.lit (.int (n : Int))) (.len (.arg 0)))).holds [] { args := [.list (ns.map .int)] } = true := by
      have h4 := (holds_andW hc).1
      rw [hn] at h4
      exact h4
    have h5 := condW_of h4 (w_not (w_lt w_lit (w_len_list (w_arg rfl))))
    rw [List.length_map] at h5
    refine Nat.le_of_not_lt fun q => ?_
    have q' : (n : Int) < ((ns.length : Nat) : Int) := by omega
    first
      | (rw [decide_eq_true q'] at h5; exact absurd h5 (by decide))
      | (simp at h5; omega)
  cases hwl with
  | cons w1 w2 =>
    cases w2
    cases w1 with
    | list ho hall => exact ⟨_, _, ns, rfl, rfl, ho, ints_of_wellAll ns _ hall, hlen⟩

theorem post_true (l : OpenLaw) (args : List WData) : l.row.toRowW.claim.post args (.bool true) args = true :=
  postW_of (r := l.row.toRowW) (X := (true == true))
    (show WShape.has [] (.bool true) .bool = true by first | rfl | decide | simp [WShape.has, WShape.arms, WShape.armsAll])
    (show (WTm.eq .res (.lit (.bool true))).value [] { args := args, res := some (.bool true), after := args } = some (.bool (true == true)) from w_eq_bool (w_res rfl) w_lit) rfl

/-! ### the attachment: holds_open's last premise (the goal 'hc' behind k_head) from a wpAny of the law's body -/



/-! ### rules over ANY heap (no ledger) from facts about the written part K: the library's own take a ledger (News) for what they write -/
section
variable {prog : Program} {w : World} {A : Around} {E : Value → Shared → Prop} {s : Shared} {K : Frag}





/-! the whole heap as the ledger: makes every rule that writes through a ledger a rule over any heap -/

end
end Att

namespace L2
open PySem PySem.Spec PyProof.Rows

theorem vals_ints : ∀ {vs : List Value} {ns : List Int}, IntsAre vs ns → Vals (ns.map V.int) vs
  | _, _, .nil => .nil
  | _, _, .cons n t h => .cons ⟨t, rfl⟩ (vals_ints h)

/-- nothing is tracked but the script, known to the object (or it is an object of the module) -/
def Only (H : Hp) : Prop := ∀ b, H b = none ∨ ∃ o xs, H b = some (.frz o (.lst xs))

/-- THE HEAD: the law's promise, at the heap behind the top. F, the promise of the law's def, may use that base is part of the heap (so K.In base, base.Ns mainGlobals mg stand in Mod) -/
theorem law_call {P : Program} {w : World} {K : PySem.W.Frag} {mg mb : Str → Option Value} {CX : CXT} {k : Nat} {fa a : Addr} {fd : FuncData} {x : Str} {sp : Sp} {s₁ : Shared} {vs : List Value} {ns : List Int}
    (KX : K.In s₁.heap) (hns : s₁.heap.Ns mainGlobals mg) (hb : s₁.heap.Ns builtinsNs mb) (hbb : ∀ x : Str, x ≠ "__name__" → mb x = bootBuiltins x) (hlim : s₁.heap.NoLimit) (hg : s₁.gens = #[])
    (ha : s₁.heap.get? a = some { cls := .type "list", data := .seq vs.toArray }) (hi : IntsAre vs ns) (hl : ns.length ≤ sizeLine) (hr : Room k callerA)
    (F : ∀ base : Heap, K.In base → base.Ns mainGlobals mg → FnOk P w K mg base CX k fa fd [x] sp) (hbind : ∀ (s : Shared) (u : Value), BindsTo s fd ⟨[u], []⟩ [(x, u)])
    (hsp : ∀ H : Hp, Only H → SqL K H a (ns.map V.int) → sp [.ref a] H (fun v _ => v = .bl true) fun _ _ _ => False)
    (hCX : ∀ H e s', CX [] H s₁ (fun _ _ _ => False) e s' → False) :
    codeAny (model P w) callerA (.call (.ref fa) ⟨[.ref a], []⟩) (fun r s' => r = .ok (.ret (.bool true)) ∧ OldK s₁.heap s'.heap ∧ s'.os = s₁.os ∧ AllBare s'.gens) s₁ := by
  have rv := vals_ints hi
  have lenV := hi.length
  -- from an abstract heap in which nothing but the script may be tracked
  have core : ∀ H : Hp, Only H → SqL K H a (ns.map V.int) → HOk P w H s₁.heap → (∀ b, H b ≠ none → b = a) → (H a ≠ none → K.lookup a = none) →
      codeAny (model P w) callerA (.call (.ref fa) ⟨[.ref a], []⟩) (fun r s' => r = .ok (.ret (.bool true)) ∧ OldK s₁.heap s'.heap ∧ s'.os = s₁.os ∧ AllBare s'.gens) s₁ := by
    intro H hO hS hok hA hK
    have base_of : ∀ {b : Addr} {o : Obj}, s₁.heap.get? b = some o → H b = none → (hidT s₁.heap H).get? b = some o := fun e n => hidT_get e n
    have noA : ∀ {b : Addr} {o : Obj} {es : Array DictEntry} {ep : Nat}, s₁.heap.get? b = some o → o.data = .dict es ep → H b = none := fun {b o es ep} e d => by
      cases q : H b with
      | none => rfl
      | some u =>
        have e' : b = a := hA b (by rw [q]; simp)
        subst e'
        rw [ha] at e; cases e
        have d' : Data.seq vs.toArray _ = Data.dict es ep := d
        cases d'
    have nsK : ∀ {b : Addr} {m : Str → Option Value}, s₁.heap.Ns b m → (hidT s₁.heap H).Ns b m := fun {b m} ⟨o, es, ep, e, d, r⟩ => ⟨o, es, ep, base_of e (noA e d), d, r⟩
    have hKb : K.In (hidT s₁.heap H) := fun b o e => base_of (KX b o e) (by
      cases q : H b with
      | none => rfl
      | some u =>
        have e' : b = a := hA b (by rw [q]; simp)
        subst e'
        rw [hK (by rw [q]; simp)] at e; cases e)
    have hM : Mod K mg (hidT s₁.heap H) := ⟨hKb, nsK hns, ⟨mb, nsK hb, hbb⟩, let ⟨mc, h1, h2⟩ := hlim; ⟨mc, nsK h1, h2⟩⟩
    have e0 : Env0 P w K mg (hidT s₁.heap H) callerA [] s₁ H := ⟨rfl, hM, fun b o e => of_hidT e, Nat.le_of_eq (hidT_size _ _), trivial, fun b hb => absurd (show b ∈ ([] : List Addr) from hb) (by simp), hok, .of_eq hg⟩
    refine codeAny_mono ((F _ hKb (nsK hns)).run callerA [] s₁ H ⟨[.ref a], []⟩ [.ref a] [.ref a] _ _ hr e0 (hbind s₁ (.ref a)) (.cons rfl .nil) (hsp H hO hS)) fun r s' h => ?_
    cases r with
    | error e => exact (hCX H e s' h).elim
    | ok fl =>
      cases fl with
      | next => exact False.elim h
      | brk => exact False.elim h
      | cont => exact False.elim h
      | ret u =>
        obtain ⟨v, H', os, bare, un, hok', r', q⟩ := h
        have q' : v = .bl true := q
        subst q'
        obtain rfl : u = Value.bool true := r'
        refine ⟨rfl, OldK.of_keep fun b o e => ?_, os, bare⟩
        cases q : H b with
        | none => exact un.keep b o e q (by intro z; exact absurd (show b ∈ ([] : List Addr) from z) (by simp)) (by simp)
        | some u =>
          rcases hO b with z | ⟨ob, xs, z⟩
          · rw [q] at z; cases z
          · have z2 := un.frzs b ob _ z
            obtain ⟨e1, _⟩ := hok b _ z
            obtain ⟨e2, _⟩ := hok' b _ z2
            rw [e] at e1; cases e1
            exact e2
  cases hk : K.lookup a with
  | some o =>
    -- the script is one of the module's own objects
    have e := KX a o hk
    rw [ha] at e
    cases e
    refine core (fun _ => none) (fun _ => .inl rfl) (.inr ⟨_, vs.toArray, _, hk, rfl, rfl, rfl, by rw [List.size_toArray, lenV]; exact hl, by simpa using rv⟩) (fun b u z => by have z' : (none : Option HO) = some u := z; cases z') (fun b z => absurd rfl z) fun z => absurd rfl z
  | none =>
    refine core (fun b => if b = a then some (.frz { cls := .type "list", data := .seq vs.toArray } (.lst (ns.map V.int))) else none) (fun b => ?_) (.inl (.inr ⟨{ cls := .type "list", data := .seq vs.toArray }, if_pos rfl⟩)) (fun b u z => ?_) (fun b z => ?_) fun _ => hk
    · by_cases hb : b = a
      · exact .inr ⟨_, _, if_pos hb⟩
      · exact .inl (if_neg hb)
    · by_cases hb : b = a
      · have z' := (if_pos hb).symm.trans z
        cases z'
        subst hb
        exact ⟨ha, by rw [List.length_map]; exact hl, vs, _, rv, ha⟩
      · have z' := (if_neg hb).symm.trans z
        cases z'
    · by_cases hb : b = a
      · exact hb
      · exact absurd (if_neg hb) z
end L2

namespace L2
open PySem PySem.Spec PyProof.Rows


end L2

/- THE LAST THEOREM (shape; LID, My.* are yours):
   My.Adr: a structure of the addresses that your layer names (classes, functions); My.Txt K t: a structure (Prop) of the equations over K;
   My.txt_mk : {K} {implicit addresses ..} (e1 : nsIn K mainGlobals "law" = some (some (.ref f))) (e2 : K.lookup f = some ⟨oc, od, .func (fnOf "law" "law" params body scope dV kV doc pm an cdv ct), sl⟩) (e3 : codeIn K cdv "law" = true) .. : ∃ t, My.Txt K t

set_option maxRecDepth 100000 in
set_option maxHeartbeats 0 in
theorem PySem.Challenge.cw_LID_holds : PySem.Challenge.rw_LID.Holds := by
  w_on; o_law; k_head; (case hw => w_witness2)
  k_fill
  refine L2.walk_of (l := PySem.Challenge.rw_LID) (n := 63) (k := 40) (x := "script") (CX := fun w => ..) (sp := fun _ => My.sp_law) rfl (by decide) rfl ⟨rfl, by decide, by decide⟩ (fun w h Y => PySem.W.kIn_of Y) ?F ?S ?C
  case F =>
    intro w mg fa h KX G hmg
    have T : ∃ t, My.Txt (L2.KOf KX) t := by
      dsimp only [L2.KOf]                          -- K must stand as «<heap const> w.params» for k_is
      refine' My.txt_mk ?e1 ?e2 ?e3 ..
      (case e1 => PySem.W.k_is)                    -- in the order: a name -> its address -> its object -> its parts
      (case e2 => PySem.W.k_is)
      ..
    obtain ⟨t, T⟩ := T
    have e0 := hmg.symm.trans (PySem.W.mg_of KX G T.law)
    cases e0                                       -- fa is the law's own address
    exact ⟨_, fun s u => .of_eq rfl, fun base kb nb => My.law_fn T kb nb⟩     -- if «.of_eq rfl» comes too early: refine' ⟨_, ?b, fun base kb nb => My.law_fn T kb nb⟩; exact fun s u => .of_eq rfl
  case S => exact fun w H a ns hl hO hS => ..
  case C => exact ..
(the tactic k_is has no namespace: write k_is) -/

/-! SHORT WORDS over the layer: a def of the text, its body, what a loop and a test want. -/
namespace L2
open PySem PySem.Spec PyProof.Rows

/-! ### the text by places -/
/-- the j-th statement of a class's body -/
def inClass (s : Stmt) (j : Nat) : Stmt := match s with
  | .ClassDef _ _ _ body _ _ _ _ _ _ _ => body.getD j (.Pass ⟨0, 0, 0, 0⟩)
  | _ => .Pass ⟨0, 0, 0, 0⟩
def defArgs (s : Stmt) : Arguments := match s with
  | .FunctionDef _ a _ _ _ _ _ _ _ _ => a
  | _ => { posonlyargs := [], args := [], vararg := none, kwonlyargs := [], kw_defaults := [], kwarg := none, defaults := [] }
def defBody (s : Stmt) : List Stmt := match s with
  | .FunctionDef _ _ b _ _ _ _ _ _ _ => b
  | _ => []
def defScope (s : Stmt) : Scope := match s with
  | .FunctionDef _ _ _ _ _ _ sc _ _ _ => sc
  | _ => { kind := .function, names := [], isGenerator := false, isCoroutine := false }

/-! ### no exception leaves a def -/
abbrev CX0 : CXT := fun _ _ _ _ _ _ => False
abbrev E0 : XK := fun _ _ _ => False
theorem pass0 {X : Cx} : Passes CX0 X E0 := fun _ _ _ _ _ _ _ h => h.elim

/-! ### a def (or method) of the text as it stands behind the top -/
structure Fun (K : PySem.W.Frag) (x qual : Str) (st : Stmt) (f : Addr) (fd : FuncData) : Prop where
  ex : ∃ (oc : Value) (od : Option Addr) (kV doc pm : Value) (an : Option Addr) (cdv ct : Value) (osl : Array (Option Value)),
    fd = PySem.W.fnOf x qual (defArgs st) (defBody st) (defScope st) .none kV doc pm an cdv ct ∧ K.lookup f = some ⟨oc, od, .func fd, osl⟩ ∧ PySem.W.codeIn K cdv qual = true
  kp : PySem.W.keepIn K (.ref f) = true
section
variable {P : Program} {w : World} {K : PySem.W.Frag} {mg : Str → Option Value} {base : Heap}
/-- THE RULE for a def: its body as a term of rules, and the reading of that term -/
theorem Fun.ok {x qual : Str} {st : Stmt} {f : Addr} {fd : FuncData} {N ps : List Str} {k : Nat} {sp : Sp} (F : Fun K x qual st f fd) (S : FnScope N ps (defScope st)) (len : ∀ vs H Q E, sp vs H Q E → vs.length = ps.length)
    (hbody : ∀ (cdv : Value) (A : Around) (outer : List Env) (s : Shared) (H : Hp) (vs : List V) (Q : VK) (E : XK), Room k (A.deeper (envOfC qual (defScope st) s.heap.objs.size f cdv)) → sp vs H Q E →
      ∃ t, PSs (cxOf CX0 P w K mg base N qual (defScope st) f cdv A outer s H E).nox (defBody st) t ∧ t { nx := fun _ H' => Q .non H', rt := Q } (start N vs) H) : FnOk P w K mg base CX0 (k + 1) f fd ps sp := by
  obtain ⟨oc, od, kV, doc, pm, an, cdv, ct, osl, rfl, lk, hcd⟩ := F.ex
  refine fn_of lk hcd S len fun A outer s H vs Q E hr hsp => ?_
  obtain ⟨t, h, q⟩ := hbody cdv A outer s H vs Q E hr hsp
  exact ⟨t, h.nox, q⟩
/-- how its arguments bind (no defaults): h is «fun _ _ _ _ _ _ us hl => match us, hl with | [_, _], _ => rfl», one _ a parameter -/
theorem Fun.binds {x qual : Str} {st : Stmt} {f : Addr} {fd : FuncData} {ps : List Str} (F : Fun K x qual st f fd)
    (h : ∀ (kV doc pm : Value) (an : Option Addr) (cdv ct : Value) (us : List Value), us.length = ps.length → bindArgs (PySem.W.fnOf x qual (defArgs st) (defBody st) (defScope st) .none kV doc pm an cdv ct) ⟨us, []⟩ = pure (ps.zip us)) : Binds K fd ps [] := by
  obtain ⟨oc, od, kV, doc, pm, an, cdv, ct, osl, rfl, lk, hcd⟩ := F.ex
  exact .all (h kV doc pm an cdv ct)
theorem fun_mk {x qual : Str} {st : Stmt} {f : Addr} {oc : Value} {od an : Option Addr} {osl : Array (Option Value)} {kV doc pm cdv ct : Value} (l : K.lookup f = some ⟨oc, od, .func (PySem.W.fnOf x qual (defArgs st) (defBody st) (defScope st) .none kV doc pm an cdv ct), osl⟩)
    (c : PySem.W.codeIn K cdv qual = true) (k : PySem.W.keepIn K (.ref f) = true) : Fun K x qual st f (PySem.W.fnOf x qual (defArgs st) (defBody st) (defScope st) .none kV doc pm an cdv ct) := ⟨⟨oc, od, kV, doc, pm, an, cdv, ct, osl, rfl, l, c⟩, k⟩
end

/-! ### expressions in short: the name that stands in the i-th slot -/
section
variable {X : Cx}
theorem pv (i : Nat) {x : Str} {pos : Pos} (hN : X.N[i]? = some x := by rfl) (hv : Vis X.env.scope x := by first | exact Or.inl rfl | exact Or.inr (Or.inl rfl) | exact Or.inr (Or.inr rfl)) (hd : (x == ("__debug__" : Str)) = false := by decide)
    (hcd : (x == ("__classdict__" : Str)) = false := by decide) : PE X (.Name x pos) (tVar i) := pe_var hN hv hd hcd
end

/-! ### tests -/
theorem iteF {A B : Prop} (h : B) : if false = true then A else B := by
  rw [if_neg Bool.false_ne_true]
  exact h
theorem iteT {A B : Prop} (h : A) : if true = true then A else B := by
  rw [if_pos rfl]
  exact h
theorem ite2 {c A B : Prop} [Decidable c] (h1 : c → A) (h2 : ¬ c → B) : if c then A else B := by
  by_cases h : c
  · rw [if_pos h]
    exact h1 h
  · rw [if_neg h]
    exact h2 h

/-! ### heaps -/
/-- all that was tracked is as it was -/
def Same (H H' : Hp) : Prop := ∀ b o, H b = some o → H' b = some o
theorem Same.refl (H : Hp) : Same H H := fun _ _ h => h
theorem Same.trans {H H1 H2 : Hp} (a : Same H H1) (b : Same H1 H2) : Same H H2 := fun c o h => b c o (a c o h)
theorem Same.seq {K : PySem.W.Frag} {H H' : Hp} {a : Addr} {xs : List V} (e : Same H H') (h : SqL K H a xs) : SqL K H' a xs := by
  rcases h with (h | ⟨o, h⟩) | h
  · exact .inl (.inl (e _ _ h))
  · exact .inl (.inr ⟨o, e _ _ h⟩)
  · exact .inr h

end L2

set_option Elab.async false
set_option linter.all false
set_option maxRecDepth 100000
namespace L2
open PySem PySem.Spec PyProof.Rows

/-! ### lists of pairs as tables -/
section
variable {κ : Type} [DecidableEq κ]



end


/-! ### a tracked dict, its keys ints and texts or tuples of these -/
theorem kV_is {P : Program} {w : World} {k : Key} {u : Value} (r : RelV (kV k) u) : (mixKind P w).is k u = true := by
  cases k with
  | inl i => obtain ⟨t, e⟩ := (show ∃ t, u = Value.int i t from r); subst e; exact mixKind_int P w i t
  | inr x => obtain ⟨t, e⟩ := (show ∃ t, u = Value.str x t from r); subst e; exact mixKind_str P w x t


section
variable {P : Program} {w : World} {H : Hp} {h : Heap} {a : Addr}
end



section
variable {X : Cx} {pins : List (Addr × Obj)} {σ : St} {H : Hp} {s : Shared} {a : Addr} {y v : V} {u r : Value} {o : Option V} {A : Around} {E : Value → Shared → Prop}

theorem Inv.big (I : Inv X pins σ H s) : sysModules < s.heap.objs.size := by
  have h : mainGlobals < s.heap.objs.size := (I.mod.glob.keeps I.bk).lt
  exact Nat.lt_trans (by decide) h

end

section
variable {X : Cx} {pins : List (Addr × Obj)} {σ : St} {H : Hp} {s : Shared} {a : Addr} {kvs : List (Key × V)} {k : Key} {u : Value} {A : Around} {E : Value → Shared → Prop}
end


/-! ### readings and rules -/



section
variable {X : Cx} {o i e value : Expr} {pos pos' tpos : Pos} {td ty tv : TE}
end


/-! ### displays -/
theorem dk_empty {P : Program} {w : World} {H : Hp} (h : Heap) (hb : sysModules < h.objs.size) : ObjOk P w H (h.push { cls := .type "dict", data := .dict #[] }) h.objs.size (.dK []) :=
  ⟨Nat.zero_le _, beq_eq_false_iff_ne.mpr (Ne.symm (Nat.ne_of_lt hb)), [], .nil, Heap.DictOf.new h⟩
/-- {}, to be a dict of the kind that is wanted -/
def tDNewK : TE := fun _ H Q => ∀ p, H p = none → Q (.ref p) (upd H p (.dK []))
section
variable {X : Cx} {pos : Pos}
theorem pe_dnewK : PE X (.Dict [] [] pos) tDNewK := fun pins s σ H Q I h =>
  wpAny_Dict_empty ⟨.ref s.heap.objs.size, _, I.laid (a := s.heap.objs.size) (o := .dK []) (t' := s.toks) (fun _ _ q => Heap.get?_push_of_some _ q) (Nat.le_refl _) (dk_empty s.heap I.big), rfl, h _ (I.hok.fresh (Nat.le_refl _))⟩
end




/-! ### methods -/


section
variable {X : Cx} {pins : List (Addr × Obj)} {σ : St} {H : Hp} {s : Shared} {a : Addr} {y d : V} {u r : Value} {o : Option V} {A : Around} {E : Value → Shared → Prop}
end

section
variable {X : Cx} {o e f : Expr} {apos cpos : Pos} {td ty tx : TE}
end

/-! ### dict(d): a copy -/
section
variable {X : Cx} {pins : List (Addr × Obj)} {σ : St} {H : Hp} {s : Shared} {a : Addr} {kvs : List (Key × V)} {A : Around} {E : Value → Shared → Prop}
end


section
variable {X : Cx} {pins : List (Addr × Obj)} {σ : St} {H : Hp} {s : Shared} {a : Addr} {y : V} {u : Value} {A : Around} {E : Value → Shared → Prop}
end
end L2

namespace L2
open PySem PySem.Spec PyProof.Rows
section
variable {X : Cx}
end
/-! ### a dict's pairs: keys that differ -/
section
variable {κ : Type} [DecidableEq κ]
end
end L2

set_option Elab.async false
set_option linter.all false
set_option maxRecDepth 100000
namespace L2
open PySem PySem.Spec PyProof.Rows

/-! an object that was not tracked is tracked from now on -/
theorem HOk.track {P : Program} {w : World} {H : Hp} {h : Heap} {a : Addr} {o : HO} (ok : HOk P w H h) (n : H a = none) (new : ObjOk P w (upd H a o) h a o) : HOk P w (upd H a o) h := fun b u q => by
  by_cases hb : b = a
  · subst hb; rw [upd_same] at q; cases q; exact new
  · rw [upd_ne hb] at q
    exact (ok b u q).stay (fun _ _ _ r => r) (fun c r => by rw [upd_ne (ne_of_none r n)]; exact r) fun c xs r => by rw [upd_ne (ne_of_none r n)]; exact r

/-! ### the signs of a text, walked -/
def Its (x : Str) : It := ⟨fun i _ => i < x.cps.size, fun i H v H' => H' = H ∧ ∃ c, x.cps[i]? = some c ∧ v = .str ⟨#[c]⟩, fun i _ => i = x.cps.size⟩
theorem turn_str {P : Program} {w : World} {K : PySem.W.Frag} {tg : Expr} (it : Addr) (x : Str) (t : Tok) (ty : String) (hty : ty = "str_ascii_iterator" ∨ ty = "str_iterator") :
    Turn P w K tg (Its x) [it] it (fun i h => h.IsStrIter it ty x t i) where
  mem := by simp
  obj := fun i h st b hb => by
    have e : b = it := by simpa using hb
    subst e
    obtain ⟨o, e, c, d⟩ := st
    exact ⟨o, e, fun v z => by rw [d] at z; cases z⟩
  keep := fun i h h' st k => let ⟨o, ho, r⟩ := st; ⟨o, k it (by simp) o ho, r⟩
  item := by
    intro X hP hw hK hc i pins s σ H E I hf st hg
    subst hP hw hK
    obtain ⟨f0, f1, f2, f3, f4, f5⟩ := hf it (by simp)
    have fin : ∀ (v : Value) (h' : Heap) (tk : Nat), SignAt x i v → h'.IsStrIter it ty x t (i + 1) → (∀ b o, b ∉ [it] → s.heap.get? b = some o → h'.get? b = some o) →
       ∃ u, some v = some u ∧ wpAny (model X.prog X.w) X.A (letOwnedTupleGo tg (.ref it) u) (fun _ s2 => ∃ x' H', Inv X pins σ H' s2 ∧ RelV x' u ∧ (Its x).yld i H x' H' ∧ s2.heap.IsStrIter it ty x t (i + 1) ∧ ∀ b ∈ [it], H' b = none) E { s with heap := h', toks := tk } := fun v h' tk hv st' kk => by
      obtain ⟨c, u, hcu, rfl⟩ := hv
      have I1 : Inv X pins σ H { s with heap := h', toks := tk } := I.turned (fun b o hb e => kk b o (by simpa using hb) e) f0 f1 f3 f4 f5
      obtain ⟨o, e, ec, ed⟩ := id st'
      refine ⟨_, rfl, go_of (s := { s with heap := h', toks := tk }) e ec ed ?_ ⟨.str ⟨#[c]⟩, H, I1, ⟨_, rfl⟩, ⟨rfl, c, hcu, rfl⟩, st', fun b hb => (hf b hb).1⟩⟩
      rcases hty with rfl | rfl <;> decide
    rcases hty with rfl | rfl
    · exact (Walks.strAscii (prog := X.prog) (w := X.w) (I.ok.hd hc) it x t).item i s _ _ hg st fin
    · exact (Walks.strWide (prog := X.prog) (w := X.w) (I.ok.hd hc) it x t).item i s _ _ hg st fin
  done := by
    intro X hP hw hK hc i pins s σ H E I hf st hg
    subst hP hw hK
    obtain ⟨f0, f1, f2, f3, f4, f5⟩ := hf it (by simp)
    have hg' : i = x.cps.size := hg
    subst hg'
    rcases hty with rfl | rfl
    · exact (Walks.strAscii (prog := X.prog) (w := X.w) (I.ok.hd hc) it x t).done s _ _ st fun h' tk kk => ⟨rfl, I.turned (fun b o hb e => kk b o (by simpa using hb) e) f0 f1 f3 f4 f5⟩
    · exact (Walks.strWide (prog := X.prog) (w := X.w) (I.ok.hd hc) it x t).done s _ _ st fun h' tk kk => ⟨rfl, I.turned (fun b o hb e => kk b o (by simpa using hb) e) f0 f1 f3 f4 f5⟩
  self := fun _ _ _ _ _ st h => by
    rcases hty with rfl | rfl
    · exact wpAny_pyIter_striter_ascii st h
    · exact wpAny_pyIter_striter_wide st h
def iStr (tl : TE) : TI := fun σ H R => tl σ H fun v H1 => ∃ x, v = .str x ∧ R (Its x) H1
theorem pi_str {X : Cx} {tg l : Expr} {tl : TE} (hl : PE X l tl) : PI X tg l (iStr tl) := by
  intro pins s σ H R I h
  refine thn (hl pins s σ H _ I h) fun v s1 ⟨y, H1, I1, r1, q1⟩ => ?_
  obtain ⟨x, rfl, q⟩ := q1
  obtain ⟨t, rfl⟩ := r1
  have fin : ∀ ty : String, (ty = "str_ascii_iterator" ∨ ty = "str_iterator") → PIE X pins σ tg R (.ref s1.heap.objs.size) { s1 with heap := s1.heap.push { cls := .type ty, data := .fields #[.str x t, .int 0 0] } } := fun ty hty =>
    ⟨s1.heap.objs.size, [s1.heap.objs.size], _, _, H1, rfl, I1.kept (t' := s1.toks) fun b o e => Heap.get?_push_of_some _ e, turn_str _ x t ty hty, ⟨_, Heap.get?_push_size _ rfl, rfl, rfl⟩, fun b hb => by
      have e : b = s1.heap.objs.size := by simpa using hb
      subst e
      exact I1.fpOk (Nat.le_refl _) (I1.hok.fresh (Nat.le_refl _)), q⟩
  cases ha : x.cps.all (· < 128)
  · exact wpAny_pyIter_wide ha (fin _ (.inr rfl))
  · exact wpAny_pyIter_ascii ha (fin _ (.inl rfl))

/-! ### a walk of a known row of values -/
structure Wk (J : It) (xs : List V) (P : Hp → Prop) : Prop where
  go : ∀ i H, i < xs.length → P H → J.go i H
  yld : ∀ i H x H', P H → J.yld i H x H' → H' = H ∧ (i < xs.length → xs[i]? = some x)
  stop : ∀ H, P H → J.stop xs.length H
theorem wk_list (K : PySem.W.Frag) (a : Addr) (xs : List V) : Wk (Itl K a) xs (fun H => SqL K H a xs) :=
  ⟨fun i H hi h => ⟨xs, xs[i], h, by simp [hi]⟩, fun i H x H' h y => ⟨y.1, fun _ => y.2 xs h⟩, fun H h => ⟨xs, h, Nat.le_refl _⟩⟩
theorem wk_tup (K : PySem.W.Frag) (a : Addr) (xs : List V) : Wk (Itt K a) xs (fun H => SqT K H a xs) :=
  ⟨fun i H hi h => ⟨xs, xs[i], h, by simp [hi]⟩, fun i H x H' h y => ⟨y.1, fun _ => y.2 xs h⟩, fun H h => ⟨xs, h, Nat.le_refl _⟩⟩
def signsV (x : Str) : List V := x.cps.toList.map fun c => V.str ⟨#[c]⟩
theorem signsV_length (x : Str) : (signsV x).length = x.cps.size := by simp [signsV]
theorem wk_str (x : Str) : Wk (Its x) (signsV x) (fun _ => True) :=
  ⟨fun i H hi _ => by rw [signsV_length] at hi; exact hi, fun i H v H' _ y => ⟨y.1, fun hi => by
    obtain ⟨c, hc, rfl⟩ := y.2
    unfold signsV
    rw [List.getElem?_map, Array.getElem?_toList, hc] <;> rfl⟩, fun H _ => signsV_length x⟩
def rangeV (lo : Int) (n : Nat) : List V := (List.range n).map fun (i : Nat) => V.int (lo + (i : Int))
theorem rangeV_length (lo : Int) (n : Nat) : (rangeV lo n).length = n := by simp [rangeV]
theorem wk_range (lo : Int) (n : Nat) : Wk (Itr lo n) (rangeV lo n) (fun _ => True) :=
  ⟨fun i H hi _ => by rw [rangeV_length] at hi; exact hi, fun i H v H' _ y => ⟨y.1, fun hi => by
    rw [rangeV_length] at hi
    obtain ⟨_, rfl⟩ := y
    unfold rangeV
    rw [List.getElem?_map, List.getElem?_range hi] <;> rfl⟩, fun H _ => by
    show n ≤ (rangeV lo n).length
    rw [rangeV_length]; exact Nat.le_refl _⟩
/-- a for over a known row -/
theorem for_wk {J : It} {xs : List V} {P : Hp → Prop} {g : TG} {tb : TS} {D : Ends} {σ : St} {H : Hp} (wk : Wk J xs P) (Pv : Nat → St → Hp → Prop) (h0 : Pv 0 σ H) (hl : ∀ i σ H, i ≤ xs.length → Pv i σ H → P H)
    (hs : ∀ i x σ H, xs[i]? = some x → Pv i σ H → g x σ H fun σ2 H2 => tb { D with nx := Pv (i + 1), ct := Pv (i + 1), bk := D.nx } σ2 H2) (hd : ∀ σ H, Pv xs.length σ H → D.nx σ H) :
    ∃ W : Nat → Nat → St → Hp → Prop, (∃ m, W 0 m σ H) ∧ ∀ i m σ H, W i m σ H →
      (J.stop i H ∧ D.nx σ H) ∨ (J.go i H ∧ ∃ N : St → Hp → Prop, (∀ σ' H', N σ' H' → ∃ m', m' < m ∧ W (i + 1) m' σ' H') ∧ ∀ x H', J.yld i H x H' → g x σ H' fun σ2 H2 => tb { D with nx := N, ct := N, bk := D.nx } σ2 H2) := by
  refine ⟨fun i m σ H => m = xs.length - i ∧ i ≤ xs.length ∧ Pv i σ H, ⟨xs.length, by simp, Nat.zero_le _, h0⟩, ?_⟩
  rintro i m σ H ⟨rfl, hi, p⟩
  have q := hl i σ H hi p
  by_cases hlt : i < xs.length
  · refine .inr ⟨wk.go i H hlt q, Pv (i + 1), fun σ' H' p' => ⟨xs.length - (i + 1), by omega, rfl, hlt, p'⟩, fun x H' y => ?_⟩
    obtain ⟨e, y2⟩ := wk.yld i H x H' q y
    subst e
    exact hs i x σ _ (y2 hlt) p
  · have e : i = xs.length := by omega
    subst e
    exact .inl ⟨wk.stop H q, hd σ H p⟩

/-! ### a list comprehension of one clause -/
def closOf (scope : Scope) (env : Env) : List (Str × Addr) := ((scope.names.filter fun y => y.2 == .free).map fun y => (y.1, (env.cells.lookup y.1).getD 0)).reverse
theorem clos_go (env : Env) : ∀ (l : List (Str × NameKind)) (cs : List (Str × Addr)), (∀ y ∈ l, y.2 = .free → ∃ c, env.cells.lookup y.1 = some c) →
    (forIn l cs fun (x : Str × NameKind) (r : List (Str × Addr)) => if (x.2 == NameKind.free) = true then (cellOf env x.1 >>= fun c => pure (ForInStep.yield ((x.1, c) :: r)) : Sem (ForInStep (List (Str × Addr)))) else pure (ForInStep.yield r))
      = (pure (((l.filter fun y => y.2 == .free).map fun y => (y.1, (env.cells.lookup y.1).getD 0)).reverse ++ cs) : Sem (List (Str × Addr)))
  | [], cs, _ => by simp
  | y :: l, cs, h => by
    rw [List.forIn_cons]
    have ih := fun cs => clos_go env l cs fun z hz => h z (List.mem_cons_of_mem _ hz)
    by_cases hk : (y.2 == NameKind.free) = true
    · obtain ⟨c, hc⟩ := h y List.mem_cons_self (by simpa using hk)
      have ec : cellOf env y.1 = pure c := by unfold cellOf; rw [hc]
      rw [if_pos hk, ec]
      show (forIn l ((y.1, c) :: cs) _ : Sem _) = _
      rw [ih]
      rw [List.filter_cons_of_pos (by simpa using hk), List.map_cons, List.reverse_cons, hc]
      simp
    · rw [if_neg hk]
      show (forIn l cs _ : Sem _) = _
      rw [ih, List.filter_cons_of_neg (by simpa using hk)]
theorem closureFor_eq {scope : Scope} {env : Env} (h : ∀ y ∈ scope.names, y.2 = .free → ∃ c, env.cells.lookup y.1 = some c) : closureFor scope env = pure (closOf scope env) := by
  have e := clos_go env scope.names [] h
  rw [List.append_nil] at e
  unfold closureFor
  show (forIn scope.names [] _ >>= fun r => pure r : Sem _) = _
  exact (congrArg (fun t : Sem (List (Str × Addr)) => t >>= fun r => pure r) e).trans rfl
theorem mem_closOf {scope : Scope} {env : Env} {p : Str × Addr} (h : p ∈ closOf scope env) : ∃ y ∈ scope.names, y.2 = .free ∧ p = (y.1, (env.cells.lookup y.1).getD 0) := by
  unfold closOf at h
  rw [List.mem_reverse, List.mem_map] at h
  obtain ⟨y, hy, e⟩ := h
  rw [List.mem_filter] at hy
  exact ⟨y, hy.1, by simpa using hy.2, e.symm⟩
theorem lookup_closOf {scope : Scope} {env : Env} (h : ∀ y ∈ scope.names, y.2 = .free → ∃ c, env.cells.lookup y.1 = some c) {y : Str} {c : Addr} (e : (closOf scope env).lookup y = some c) : env.cells.lookup y = some c := by
  obtain ⟨z, hz, hf, q⟩ := mem_closOf (PySem.mem_of_lookup e)
  obtain ⟨d, hd⟩ := h z hz hf
  have q1 : y = z.1 := congrArg Prod.fst q
  have q2 : c = (env.cells.lookup z.1).getD 0 := congrArg Prod.snd q
  rw [hd] at q2
  rw [q1, hd, q2] <;> rfl
theorem has_closOf {scope : Scope} {env : Env} {y : Str} (e : (y, NameKind.free) ∈ scope.names) : ∃ c, (closOf scope env).lookup y = some c := by
  have m : (y, (env.cells.lookup y).getD 0) ∈ closOf scope env := by
    unfold closOf
    rw [List.mem_reverse, List.mem_map]
    exact ⟨(y, .free), List.mem_filter.mpr ⟨e, by rfl⟩, rfl⟩
  cases q : (closOf scope env).lookup y with
  | some c => exact ⟨c, rfl⟩
  | none =>
    rw [List.lookup_eq_none_iff] at q
    have := q _ m
    simp at this
theorem lookup_relabel_free {env : Env} (hk : env.scope.kind = .function) : ∀ {names : List (Str × NameKind)} {x : Str}, names.lookup x = some .free → env.kindOf x = some .cell →
    (names.map fun (n, k) => if (k == NameKind.free && env.scope.kind == .function && env.kindOf n == some .cell) then (n, NameKind.cell) else (n, k)).lookup x = some .cell
  | [], _, h, _ => by simp at h
  | (n, k) :: r, x, h, hc => by
    have ih := @lookup_relabel_free env hk r x
    show List.lookup x ((if (k == NameKind.free && env.scope.kind == .function && env.kindOf n == some .cell) = true then (n, NameKind.cell) else (n, k)) :: _) = _
    cases hx : x == n with
    | true =>
      have hxn : x = n := by simpa using hx
      simp only [List.lookup_cons, hx] at h
      cases h
      rw [if_pos (by rw [hk, ← hxn, hc]; rfl)]
      simp [List.lookup_cons, hx]
    | false =>
      simp only [List.lookup_cons, hx] at h
      by_cases hc' : (k == NameKind.free && env.scope.kind == .function && env.kindOf n == some .cell) = true
      · rw [if_pos hc']; simp only [List.lookup_cons, hx]; exact ih h hc
      · rw [if_neg hc']; simp only [List.lookup_cons, hx]; exact ih h hc
theorem relabel_back {env : Env} : ∀ {names : List (Str × NameKind)} {x : Str} {k : NameKind},
    (names.map fun (n, k) => if (k == NameKind.free && env.scope.kind == .function && env.kindOf n == some .cell) then (n, NameKind.cell) else (n, k)).lookup x = some k → (k = .cell ∨ k = .free) →
    (x, NameKind.free) ∈ names ∨ (x, NameKind.cell) ∈ names
  | [], _, _, h, _ => by simp at h
  | (n, k0) :: r, x, k, h, hk => by
    have ih := @relabel_back env r x k
    change List.lookup x ((if (k0 == NameKind.free && env.scope.kind == .function && env.kindOf n == some .cell) = true then (n, NameKind.cell) else (n, k0)) :: _) = _ at h
    cases hx : x == n with
    | true =>
      have hxn : x = n := by simpa using hx
      subst hxn
      by_cases hc' : (k0 == NameKind.free && env.scope.kind == .function && env.kindOf x == some .cell) = true
      · have : k0 = .free := by
          rw [Bool.and_eq_true, Bool.and_eq_true] at hc'
          simpa using hc'.1.1
        subst this
        exact .inl List.mem_cons_self
      · rw [if_neg hc'] at h
        simp only [List.lookup_cons, hx] at h
        cases h
        rcases hk with rfl | rfl
        · exact .inr List.mem_cons_self
        · exact .inl List.mem_cons_self
    | false =>
      have h' : (r.map fun (n, k) => if (k == NameKind.free && env.scope.kind == .function && env.kindOf n == some .cell) then (n, NameKind.cell) else (n, k)).lookup x = some k := by
        by_cases hc' : (k0 == NameKind.free && env.scope.kind == .function && env.kindOf n == some .cell) = true
        · rw [if_pos hc'] at h; simp only [List.lookup_cons, hx] at h; exact h
        · rw [if_neg hc'] at h; simp only [List.lookup_cons, hx] at h; exact h
      rcases ih h' hk with z | z
      · exact .inl (List.mem_cons_of_mem _ z)
      · exact .inr (List.mem_cons_of_mem _ z)
end L2

set_option Elab.async false
set_option linter.all false
set_option maxRecDepth 100000
namespace L2
open PySem PySem.Spec PyProof.Rows

/-- the context of a comprehension's block: C its own names' dict, s₀ and H₀ as it begins, ex the iterator's objects -/
def cxComp (X : Cx) (scope : Scope) (N : List Str) (C : Addr) (s₀ : Shared) (H₀ : Hp) (ex : List Addr) : Cx where
  prog := X.prog
  w := X.w
  K := X.K
  mg := X.mg
  base := X.base
  A := X.A
  N := N
  s₀ := s₀
  H₀ := H₀
  env := compEnvC scope (closOf scope X.env) C X.env
  outer := X.stack
  stack := X.stack
  ex := ex
  fn := fun _ => false
  calm := X.calm
  pn := []
  xe := fun _ _ => False

/-- the tests of a clause -/
def PTs (X : Cx) (ifs : List Expr) (t : TT) : Prop :=
  ∀ (pins : List (Addr × Obj)) (s : Shared) (σ : St) (H : Hp) (Q : Bool → Hp → Prop), Inv X pins σ H s → t σ H Q →
    wpAny (model X.prog X.w) X.A (forIn ifs true fun c r => if r = true then do let ok ← isTrue c X.env (eval c X.env); pure (ForInStep.yield ok) else pure (ForInStep.yield r)) (TP X pins σ Q) X.xe s
def tTrue : TT := fun _ H Q => Q true H
theorem pts_nil {X : Cx} : PTs X [] tTrue := fun _ _ _ H _ I h => wpAny_tests_nil ⟨H, I, h⟩
theorem pts_one {X : Cx} {c : Expr} {t : TT} (h : PT X c t) : PTs X [c] t := fun pins s σ H Q I q => wpAny_tests_one (h pins s σ H Q I q)

section
variable {prog : Program} {w : World} {A : Around} {R : Result → Shared → Prop} {s : Shared}
theorem comp_loop {elt target iter : Expr} {ifs : List Expr} {scope : Scope} {pos : Pos} {it acc : Value} {env : Env} (I : Nat → Shared → Prop)
    (turn : ∀ n s, I n s → wpAny (model prog w) A (pyNext it) (fun r s₁ => match r with
      | none => R (.ok .next) s₁
      | some v => wpAny (model prog w) A (letOwnedTupleGo target it v) (fun _ s₁' => wpAny (model prog w) A (assign target env v) (fun _ s₂ =>
          wpAny (model prog w) A (forIn ifs true fun c r => if r = true then do let ok ← isTrue c env (eval c env); pure (ForInStep.yield ok) else pure (ForInStep.yield r)) (fun ok s₃ =>
            if ok = true then wpAny (model prog w) A (eval elt env) (fun x s₄ =>
              wpAny (model prog w) A (call (.builtin "list.append") [acc, x]) (fun _ s₅ => ∃ m, m < n ∧ I m s₅) (notedBy (model prog w) A env fun e s' => R (.error e) s') s₄) (notedBy (model prog w) A env fun e s' => R (.error e) s') s₃
            else ∃ m, m < n ∧ I m s₃) (notedBy (model prog w) A env fun e s' => R (.error e) s') s₂) (notedBy (model prog w) A env fun e s' => R (.error e) s') s₁') (notedBy (model prog w) A env fun e s' => R (.error e) s') s₁) (notedBy (model prog w) A env fun e s' => R (.error e) s') s)
    (n : Nat) (h : I n s) :
    codeAny (model prog w) A (.compLoop (.ListComp elt [⟨target, iter, ifs, 0⟩] scope pos) 0 it acc env) R s := by
  refine codeAny_loop rfl I (fun n s hI => ?_) n h
  show wpAny _ A ((compTurn (.ListComp elt [⟨target, iter, ifs, 0⟩] scope pos) 0 it acc env).onRaise (fun x => do noteFrame x env; theTreesLotGoes x)) _ _ s
  refine wpAny_noted ?_
  rw [compTurn_list]
  refine wpAny_bind (wpAny_standAt (wpAny_bind (wpAny_mono (turn n s hI) (fun r s₁ h₁ => ?_) fun _ _ h' => h')))
  cases r with
  | none => exact wpAny_pure h₁
  | some v =>
    refine wpAny_bind (wpAny_mono h₁ (fun _ s₁' h₁' => ?_) fun _ _ h' => h')
    refine wpAny_bind (wpAny_mono h₁' (fun _ s₂ h₂ => wpAny_bind (wpAny_mono h₂ (fun ok s₃ h₃ => ?_) fun _ _ h' => h')) fun _ _ h' => h')
    cases ok with
    | false => exact wpAny_pure ⟨rfl, h₃⟩
    | true =>
      exact wpAny_bind (wpAny_bind (wpAny_mono h₃ (fun x s₄ h₄ => wpAny_bind (wpAny_mono h₄ (fun _ s₅ h₅ => wpAny_pure (wpAny_pure ⟨rfl, h₅⟩)) fun _ _ h' => h')) fun _ _ h' => h'))
end

/-- os: the block's own names; js: the slots of the captured names -/
def caps (σ : St) (js : List Nat) : St := js.map fun j => σ.getD j none
def tCompB (k : Nat) (js : List Nat) (g : TG) (tc : TT) (te : TE) (σ : St) (Q : VK) (J : It) (H1 : Hp) : Prop :=
  ∃ W : Nat → Nat → List V → Hp → Prop, (∃ m, W 0 m [] H1) ∧ ∀ i m ys H, W i m ys H →
    (J.stop i H ∧ ys.length ≤ sizeLine ∧ ∀ D, H D = none → Q (.ref D) (upd H D (.lst ys))) ∨
    (J.go i H ∧ ys.length < sizeLine ∧ ∀ x H', J.yld i H x H' → ∀ os : St, os.length = k → g x (os ++ caps σ js) H' fun σ2 H2 => (∃ os' : St, os'.length = k ∧ σ2 = os' ++ caps σ js) ∧
        tc σ2 H2 fun b H3 => if b = true then te σ2 H3 fun y H4 => ∃ m', m' < m ∧ W (i + 1) m' (ys ++ [y]) H4 else ∃ m', m' < m ∧ W (i + 1) m' ys H3)
def tComp (k : Nat) (js : List Nat) (wi : TI) (g : TG) (tc : TT) (te : TE) : TE := fun σ H Q => wi σ H (tCompB k js g tc te σ Q)

theorem caps_get {σ : St} {js : List Nat} {i : Nat} {v : V} (h : (caps σ js)[i]? = some (some v)) : ∃ j, js[i]? = some j ∧ σ[j]? = some (some v) := by
  unfold caps at h
  rw [List.getElem?_map] at h
  cases e : js[i]? with
  | none => rw [e] at h; cases h
  | some j =>
    rw [e] at h
    have h' : σ.getD j none = some v := Option.some.inj h
    refine ⟨j, rfl, ?_⟩
    rw [List.getD_eq_getElem?_getD] at h'
    cases q : σ[j]? with
    | none => rw [q] at h'; cases h'
    | some o => rw [q] at h'; exact congrArg some h'

set_option maxHeartbeats 1000000 in
theorem pe_comp {X : Cx} {elt iter tg : Expr} {pos : Pos} {ifs : List Expr} {scope : Scope} {wi : TI} {g : TG} {tc : TT} {te : TE} (own : List Str) (js : List Nat) (N' : List Str) (hc : X.calm = true)
    (hi : PI X tg iter wi)
    (hg : ∀ C s₀ H₀ ex, PG (cxComp X scope N' C s₀ H₀ ex) tg g)
    (ht : ∀ C s₀ H₀ ex, PTs (cxComp X scope N' C s₀ H₀ ex) ifs tc)
    (he : ∀ C s₀ H₀ ex, PE (cxComp X scope N' C s₀ H₀ ex) elt te)
    (hN' : N' = own ++ js.map fun j => X.N.getD j Str.empty := by rfl)
    (hk : scope.kind = .function := by rfl)
    (hcell : ∀ y ∈ scope.names, y.2 ≠ .cell := by decide +kernel)
    (hnames : ∀ y ∈ scope.names, y.2 = .local → scope.names.lookup y.1 = some .local := by decide +kernel)
    (hfr : (scope.names.all fun y => y.2 != .free || X.env.scope.names.lookup y.1 == some .cell) = true := by rfl)
    (hjs : (js.all fun j => scope.names.lookup (X.N.getD j Str.empty) == some .free && (X.N[j]?).isSome) = true := by rfl)
    (hs : ∀ z, foldedSetIterable iter X.env z = pure z := by intro _; rfl) :
    PE X (.ListComp elt [⟨tg, iter, ifs, 0⟩] scope pos) (tComp own.length js wi g tc te) := by
  intro pins s σ H Q I h
  have free_cell : ∀ y ∈ scope.names, y.2 = .free → X.env.kindOf y.1 = some .cell := fun y hy hf => by
    have := List.all_eq_true.mp hfr y hy
    rw [hf] at this
    simp at this
    exact this
  have hcl : ∀ y ∈ scope.names, y.2 = .free → ∃ c, X.env.cells.lookup y.1 = some c := fun y hy hf => I.ok.has y.1 (.inl (free_cell y hy hf))
  rw [eval_ListComp]
  refine wpAny_comprehension_free (use := none) rfl hs (closureFor_eq hcl) hk hnames ?_
  refine thn (hi pins s σ H _ I h) fun v s1 h1 => thn h1 fun itv s2 h2 => ?_
  obtain ⟨it, fp, tn, J, H2, e, I2, T, st2, f2, W, ⟨m0, w0⟩, turn⟩ := h2
  subst e
  refine wpAny_newObj_type (wpAny_newFunctionEnv hcell (by intro y hy; simp at hy) (fun h₁ hns₁ hsb₁ => ?_) hk)
  dsimp only at hns₁ hsb₁ ⊢
  generalize hG : s2.heap.push { cls := .type "list", dict := none, data := .seq ([] : List Value).toArray } = G at hns₁ hsb₁ ⊢
  have hC : G.objs.size = s2.heap.objs.size + 1 := by rw [← hG, Heap.size_push]
  have hDC : s2.heap.objs.size ≠ G.objs.size := by rw [hC]; exact Nat.ne_of_lt (Nat.lt_succ_self _)
  have below : ∀ b, b < s2.heap.objs.size → b ≠ G.objs.size ∧ b ≠ s2.heap.objs.size := fun b hb => ⟨by rw [hC]; exact Nat.ne_of_lt (Nat.lt_succ_of_lt hb), Nat.ne_of_lt hb⟩
  have old : ∀ b o, s2.heap.get? b = some o → h₁.get? b = some o := fun b o e => hsb₁.extBut b o (below b (Heap.lt_size e)).1 (Heap.get?_push_of_some _ (hG ▸ Heap.get?_push_of_some _ e))
  have hacc : h₁.get? s2.heap.objs.size = some { cls := .type "list", data := .seq ([] : List Value).toArray 0 } := hsb₁.extBut _ _ hDC (Heap.get?_push_of_some _ (hG ▸ Heap.get?_push_size _ rfl))
  have fplt : ∀ b ∈ fp, b < s2.heap.objs.size := fun b hb => let ⟨_, e, _⟩ := T.obj _ _ st2 b hb; Heap.lt_size e
  have ok' : (cxComp X scope N' G.objs.size s2 H2 fp).Ok := by
    refine ⟨I2.ok.mod, hk, I2.ok.glob, I2.ok.blt, by show s2.heap.objs.size ≤ G.objs.size; rw [hC]; exact Nat.le_succ _, fun x y c e1 e2 => I2.ok.inj x y c (lookup_closOf hcl e1) (lookup_closOf hcl e2), fun x hx => ?_,
      fun x c hx _ => (nomatch hx), I2.ok.hd, I2.ok.frames, .inl rfl, fun b hb => ⟨(below b (fplt b hb)).1, fun x c e => (f2 b hb).2.2.2.2.1 x c (lookup_closOf hcl e)⟩, I2.bs, Nat.le_trans I2.ok.bsz I2.sz, fun b o e hb => ?_, fun b hb z => ?_, I2.stack, I2.stkFree⟩
    · have hx' : (relabel scope X.env).names.lookup x = some .cell ∨ (relabel scope X.env).names.lookup x = some .free := hx
      have : (x, NameKind.free) ∈ scope.names ∨ (x, NameKind.cell) ∈ scope.names := by
        rcases hx' with z | z
        · exact relabel_back z (.inl rfl)
        · exact relabel_back z (.inr rfl)
      rcases this with z | z
      · exact has_closOf z
      · exact absurd rfl (hcell _ z)
    · rcases (f2 b hb).2.2.2.1 with z | z
      · exact I2.ok.noex b o e z
      · have h1 : b < X.base.objs.size := Heap.lt_size e
        exact absurd (Nat.lt_of_lt_of_le h1 (Nat.le_trans I2.ok.bsz z)) (Nat.lt_irrefl _)
    · rcases List.mem_cons.mp (I2.stkSub b z) with e | e
      · exact (f2 b hb).2.1 e
      · exact (f2 b hb).2.2.1 e
  have kindCap : ∀ i y, (js.map fun j => X.N.getD j Str.empty)[i]? = some y → ∃ j, js[i]? = some j ∧ X.N[j]? = some y ∧ scope.names.lookup y = some .free := fun i y e => by
    rw [List.getElem?_map] at e
    cases q : js[i]? with
    | none => rw [q] at e; cases e
    | some j =>
      rw [q] at e
      have e' : X.N.getD j Str.empty = y := Option.some.inj e
      have hj := List.all_eq_true.mp hjs j (List.mem_of_getElem? q)
      rw [Bool.and_eq_true] at hj
      obtain ⟨hj1, hj2⟩ := hj
      rw [e'] at hj1
      obtain ⟨z, hz⟩ := Option.isSome_iff_exists.mp hj2
      rw [List.getD_eq_getElem?_getD, hz] at e'
      exact ⟨j, q, by rw [hz]; exact congrArg some e', by simpa using hj1⟩
  have I0 : ∀ tk : Nat, Inv (cxComp X scope N' G.objs.size s2 H2 fp) [(s2.heap.objs.size, { cls := .type "list", data := .seq ([] : List Value).toArray 0 })] (List.replicate own.length none ++ caps σ js) H2 { s2 with heap := h₁, toks := tk } := fun tk => by
    refine ⟨ok', rfl, I2.bare, Un.kept old, ⟨_, hns₁, fun i y v e1 e2 e3 => ?_⟩, fun x c e => ?_, I2.hok.fresh (by show s2.heap.objs.size ≤ G.objs.size; rw [hC]; exact Nat.le_succ _), fun x c e => I2.freeC x c (lookup_closOf hcl e), fun p hp => ?_, I2.hok.kept old, ?_⟩
    · by_cases hlt : i < own.length
      · rw [List.getElem?_append_left (by simpa using hlt), List.getElem?_replicate] at e2
        split at e2 <;> cases e2
      · have e1' : N'[i]? = some y := e1
        rw [hN', List.getElem?_append_right (by omega)] at e1'
        rw [List.getElem?_append_right (by simpa using hlt), List.length_replicate] at e2
        obtain ⟨j, hj, hs2⟩ := caps_get e2
        obtain ⟨j', hj', hN, hfree⟩ := kindCap _ _ e1'
        rw [hj] at hj'; cases hj'
        obtain ⟨m, hm, hl⟩ := I2.loc
        have hcell' : X.env.kindOf y = some .cell := free_cell (y, .free) (PySem.mem_of_lookup hfree) rfl
        obtain ⟨u, r, l⟩ := hl j y v hN hs2 (.inr (.inl hcell'))
        refine ⟨u, r, ?_⟩
        rcases l with ⟨hk', _⟩ | ⟨hk', c, hc', z⟩
        · rw [hcell'] at hk'; cases hk'
        · obtain ⟨c', e'⟩ := has_closOf (env := X.env) (PySem.mem_of_lookup hfree)
          have := lookup_closOf hcl e'
          rw [hc'] at this; cases this
          refine .inr ⟨.inl (lookup_relabel_free I2.ok.kind hfree hcell'), c, e', ?_⟩
          obtain ⟨o, ho, hd⟩ := z
          exact ⟨o, old _ _ ho, hd⟩
    · obtain ⟨v, o, ho, hd⟩ := I2.cell x c (lookup_closOf hcl e)
      exact ⟨v, o, old _ _ ho, hd⟩
    · have hp' : p = (s2.heap.objs.size, { cls := .type "list", data := .seq ([] : List Value).toArray 0 }) := by
        rcases List.mem_append.mp hp with z | z
        · exact absurd (show p ∈ ([] : List (Addr × Obj)) from z) (by simp)
        · simpa using z
      subst hp'
      refine ⟨hacc, I2.hok.fresh (Nat.le_refl _), hDC, fun z => ?_, fun v z => by cases z⟩
      exact absurd (show s2.heap.objs.size ∈ frs X.stack from z) fun z => by
        rcases List.mem_cons.mp (I2.stkSub _ z) with e | e
        · have := I2.lt
          rw [← e] at this
          exact Nat.lt_irrefl _ this
        · exact I2.nofs (Nat.le_refl _) e
    · show _ = N'.length
      rw [hN']
      simp [caps]
  have stat : ∀ {H' : Hp} {ob : Obj}, (∀ b ∈ fp, H' b = none) → ∀ b ∈ fp, FpOk (cxComp X scope N' G.objs.size s2 H2 fp) [(s2.heap.objs.size, ob)] H' b := fun {H' ob} hn b hb =>
    ⟨hn b hb, (below b (fplt b hb)).1, fun z => ok'.exfs b hb z, .inl hb, fun x c e => (f2 b hb).2.2.2.2.1 x c (lookup_closOf hcl e), fun p hp => by
      have hp' : p = (s2.heap.objs.size, ob) := by
        rcases List.mem_append.mp hp with z | z
        · exact absurd (show p ∈ ([] : List (Addr × Obj)) from z) (by simp)
        · simpa using z
      subst hp'
      exact Ne.symm (below b (fplt b hb)).2⟩
  have loop : ∀ s₃ : Shared, s₃ = { s2 with heap := h₁, toks := s2.toks + ([] : List (Str × Value)).length } →
      codeAny (model X.prog X.w) X.A (.compLoop (.ListComp elt [⟨tg, iter, ifs, 0⟩] scope pos) 0 (.ref it) (.ref s2.heap.objs.size) (compEnvC scope (closOf scope X.env) G.objs.size X.env))
        (compPost (model X.prog X.w) X.A X.xe none (EP X pins σ Q) (.ref s2.heap.objs.size) G.objs.size) s₃ := by
    rintro s₃ rfl
    refine comp_loop (fun n s' => ∃ (i : Nat) (os : St) (H' : Hp) (ys : List V) (its : List Value) (k : Nat), os.length = own.length ∧
      Inv (cxComp X scope N' G.objs.size s2 H2 fp) [(s2.heap.objs.size, { cls := .type "list", data := .seq its.toArray k })] (os ++ caps σ js) H' s' ∧ tn i s'.heap ∧ (∀ b ∈ fp, H' b = none) ∧ Vals ys its ∧ W i n ys H') ?_ m0
      ⟨0, _, H2, [], [], 0, by simp, I0 _, T.keep _ _ _ st2 fun b _ o e => old b o e, fun b hb => (f2 b hb).1, .nil, w0⟩
    rintro n s3 ⟨i, os, H3, ys, its, k, hos, I3, st3, fr3, rv3, w3⟩
    have pinD : ∀ {σ' : St} {H' : Hp} {s' : Shared}, Inv (cxComp X scope N' G.objs.size s2 H2 fp) [(s2.heap.objs.size, { cls := .type "list", data := .seq its.toArray k })] σ' H' s' → s'.heap.get? s2.heap.objs.size = some { cls := .type "list", data := .seq its.toArray k } ∧ H' s2.heap.objs.size = none :=
      fun I => let q := I.pin (s2.heap.objs.size, { cls := .type "list", data := .seq its.toArray k }) (List.mem_append_right _ (by simp)); ⟨q.1, q.2.1⟩
    rcases turn i n ys H3 w3 with ⟨stop, hz, qn⟩ | ⟨go, hz, step⟩
    · refine thn (T.done (cxComp X scope N' G.objs.size s2 H2 fp) rfl rfl rfl hc i _ s3 _ H3 _ I3 (stat fr3) st3 stop) fun r s4 ⟨hr, I4⟩ => ?_
      subst hr
      obtain ⟨hD4, hn4⟩ := pinD I4
      obtain ⟨m, hm, _⟩ := I4.loc
      refine ⟨m, hm, fun h' hsb => ?_⟩
      have b4 := I4.base
      have nC : ∀ b o, s2.heap.get? b = some o → b ≠ G.objs.size := fun b o e => (below b (Heap.lt_size e)).1
      have nD : ∀ b o, s2.heap.get? b = some o → b ≠ s2.heap.objs.size := fun b o e => (below b (Heap.lt_size e)).2
      have hok' : HOk X.prog X.w H3 h' := fun b ob e => by
        refine (I4.hok b ob e).stay (fun c w' hc' q => (hsb.2 c ?_).trans q) (fun _ q => q) fun _ _ q => q
        rintro rfl
        rcases hc' with hc' | hc'
        · rw [← hc', show H3 G.objs.size = none from I4.free] at e; cases e
        · rw [show H3 G.objs.size = none from I4.free] at hc'; cases hc'
      have hD' : h'.get? s2.heap.objs.size = some { cls := .type "list", data := .seq its.toArray k } := (hsb.2 _ hDC).trans hD4
      refine ⟨.ref s2.heap.objs.size, upd H3 s2.heap.objs.size (.lst ys), ?_, rfl, qn _ hn4⟩
      refine I2.call' (ch := fp) I4.os ⟨fun b o e n hb hx => ?_, fun b o e n hb hx => ?_, fun b o e n hx => ?_, fun b o e hx => ?_, fun b xs q => ?_, fun b o u q => ?_, fun b ps q => ?_⟩ (hok'.track hn4 ⟨hz, its, k, rv3, hD'⟩) I4.bare fun b hb => ⟨(f2 b hb).2.2.2.1, (f2 b hb).2.1, (f2 b hb).2.2.2.2.1, (f2 b hb).2.2.2.2.2⟩
      · exact (hsb.2 b (nC b o e)).trans (b4.keep b o e n hb hx)
      · obtain ⟨sl, e1⟩ := b4.slot b o e n hb hx
        exact ⟨sl, (hsb.2 b (nC b o e)).trans e1⟩
      · rw [upd_ne (nD b o e)]; exact b4.free b o e n hx
      · obtain ⟨o', e1⟩ := b4.there b o e hx
        exact ⟨o', (hsb.2 b (nC b o e)).trans e1⟩
      · have z := b4.tups b xs q
        rw [upd_ne (ne_of_none z hn4)]; exact z
      · have z := b4.frzs b o u q
        rw [upd_ne (ne_of_none z hn4)]; exact z
      · obtain ⟨more, z⟩ := b4.tbls b ps q
        exact ⟨more, by rw [upd_ne (ne_of_none z hn4)]; exact z⟩
    · refine thn (T.item (cxComp X scope N' G.objs.size s2 H2 fp) rfl rfl rfl hc i _ s3 _ H3 _ I3 (stat fr3) st3 go) fun r s4 ⟨u, hr, h4⟩ => ?_
      subst hr
      refine thn h4 fun _ s5 ⟨x, H5, I5, r5, y5, st5, fr5⟩ => ?_
      have fpo := T.obj _ _ st5
      have I5' := I5.pinned (stat fr5) fpo
      refine wpAny_mono (hg _ _ _ _ _ s5 _ H5 x u _ I5' r5 (step x H5 y5 os hos)) (fun _ s6 ⟨σ6, H6, I6, ⟨os', hos', e6⟩, q6⟩ => ?_) fun _ _ z => False.elim z
      subst e6
      refine wpAny_mono (ht _ _ _ _ _ s6 _ H6 _ I6 q6) (fun ok s7 ⟨H7, I7, q7⟩ => ?_) fun _ _ z => False.elim z
      have keepFp : ∀ {σ' : St} {H' : Hp} {s' : Shared}, Inv (cxComp X scope N' G.objs.size s2 H2 fp) ([(s2.heap.objs.size, { cls := .type "list", data := .seq its.toArray k })] ++ pinsAt fp s5.heap) σ' H' s' → tn (i + 1) s'.heap ∧ ∀ b ∈ fp, H' b = none := fun I => by
        refine ⟨T.keep _ _ _ st5 fun b hb o e => (I.pin (b, o) (List.mem_append_right _ (List.mem_append_right _ (mem_pinsAt hb e)))).1, fun b hb => ?_⟩
        obtain ⟨o, e, d⟩ := fpo b hb
        exact (I.pin (b, o) (List.mem_append_right _ (List.mem_append_right _ (mem_pinsAt hb e)))).2.1
      cases ok with
      | false =>
        obtain ⟨m', hm', w'⟩ := q7
        obtain ⟨k1, k2⟩ := keepFp I7
        exact ⟨m', hm', i + 1, os', H7, ys, its, k, hos', I7.unpinned, k1, k2, rv3, w'⟩
      | true =>
        rw [if_pos rfl]
        refine wpAny_mono (he _ _ _ _ _ s7 _ H7 _ I7 q7) (fun yv s8 ⟨y, H8, I8, r8, q8⟩ => ?_) fun _ _ z => False.elim z
        obtain ⟨m', hm', w'⟩ := q8
        obtain ⟨k1, k2⟩ := keepFp I8
        have I8' := I8.unpinned
        obtain ⟨hD8, hn8⟩ := pinD I8'
        have hil : its.length < sizeLine := by rw [← rv3.length]; exact hz
        refine call_meets F.slot_list_append ⟨_, hD8, rfl⟩ F.entry_list_append (F.args_list_append_2 _ _) (PySem.list_append _ its.toArray k yv (by rw [List.size_toArray]; omega)) ⟨hD8, ?_⟩
        have q : (s8.heap.update s2.heap.objs.size (Obj.mapSeq fun a => a.push yv)).get? s2.heap.objs.size = some { cls := .type "list", data := .seq (its ++ [yv]).toArray (if (its.toArray.push yv).size == its.toArray.size then k else k + 1) } := by
          have q0 := PySem.IsL.update hD8 (fun a : Array Value => a.push yv)
          have ea : its.toArray.push yv = (its ++ [yv]).toArray := by simp
          rw [← ea]
          exact q0
        refine ⟨m', hm', i + 1, os', H8, ys ++ [y], its ++ [yv], (if (its.toArray.push yv).size == its.toArray.size then k else k + 1), hos', ?_, T.keep _ _ _ k1 fun b hb o e => (Heap.get?_update_other s8.heap _ (below b (fplt b hb)).2.symm).trans e, k2, rv3.append (.cons r8 .nil), w'⟩
        have In : Inv (cxComp X scope N' G.objs.size s2 H2 fp) [] (os' ++ caps σ js) H8 s8 := I8'.pins_of fun p hp => absurd hp (by simp)
        have It : Inv (cxComp X scope N' G.objs.size s2 H2 fp) [] (os' ++ caps σ js) H8 { s8 with heap := s8.heap.update s2.heap.objs.size (Obj.mapSeq fun a => a.push yv) } :=
          In.turned (it := s2.heap.objs.size) (t' := s8.toks) (fun b o hb e => (Heap.get?_update_other s8.heap _ (Ne.symm hb)).trans e) hn8 hDC (.inr (Nat.le_refl _)) (fun x c e z => by
            obtain ⟨v, o, ho, hd⟩ := I8'.cell x c e
            rw [z, hD8] at ho
            cases ho
            cases hd) fun p hp => absurd hp (by simp [cxComp])
        refine It.pins_of fun p hp => ?_
        have hp' : p = (s2.heap.objs.size, { cls := .type "list", data := .seq (its ++ [yv]).toArray (if (its.toArray.push yv).size == its.toArray.size then k else k + 1) }) := List.mem_singleton.mp hp
        subst hp'
        exact ⟨q, hn8, hDC, (I8'.pin _ (List.mem_append_right _ (List.mem_singleton.mpr rfl))).2.2.2.1, fun v z => by cases z⟩
  exact codeAny_compStart_list (loop _ rfl) (T.self _ 0 _ _ _ (T.keep _ _ _ st2 fun b _ o e => old b o e) (loop _ rfl))
end L2

set_option Elab.async false
set_option linter.all false
set_option maxRecDepth 100000
namespace L2
open PySem PySem.Spec PyProof.Rows
section
variable {X : Cx}

/-! isinstance(x, T), T a built-in type -/
theorem call_isi : CallR X (.builtin "isinstance") (fun xs H Q => ∃ x n t b, xs = [x, .ty n] ∧ TyOf X.K H x t ∧ PySem.W.kitOne X.K t (.type n) = some b ∧ Q (.bl b) H) := by
  intro pins s σ H xs us Q I r h
  obtain ⟨x, n, t, b, rfl, ty, e, q⟩ := h
  obtain ⟨u, c, rfl, rx, rc⟩ := r.two
  cases (show c = Value.type n from rc)
  exact isinst_ok I rx ty e fun tk => ⟨.bl b, H, I.tok tk, rfl, q⟩

/-! `x is c`, c True or False -/

/-! all(xs), any(xs) of a list of truths -/
theorem bools_are : ∀ {bs : List Bool} {us : List Value}, Vals (bs.map V.bl) us → LSm.BoolsAre us bs
  | [], _, .nil => .nil
  | b :: bs, _, .cons r t => by
    cases r
    exact .cons b (bools_are t)
theorem call_all (hc : X.calm = true) : CallR X (.builtin "all") (fun xs H Q => ∃ (p : Addr) (bs : List Bool), xs = [.ref p] ∧ SqL X.K H p (bs.map V.bl) ∧ Q (.bl (bs.all id)) H) := by
  intro pins s σ H xs us Q I r h
  obtain ⟨p, bs, rfl, hq, q⟩ := h
  obtain ⟨u, rfl, rx⟩ := r.one
  cases rx
  obtain ⟨its, rv, pl, hz⟩ := I.list hq
  have hb := bools_are rv
  have hl := pl.isList
  have hlt : p < s.heap.objs.size := by obtain ⟨_, e, _⟩ := hl; exact Heap.lt_size e
  refine call_all_walk (wpAny_pyIter_list hl ?_)
  refine ⟨s.heap.objs.size, [s.heap.objs.size, p], [s.heap.objs.size], its.toArray.size, _, _, fun i => (bs[i]?).getD true, rfl, Walks.list (A := X.A.in1) (I.ok.hd hc) _ p (Nat.ne_of_lt hlt) its.toArray,
    ⟨⟨_, Heap.get?_push_size _ rfl, rfl, rfl⟩, hl.push _⟩, fun i v s' Q' E' hP hQ => ?_, fun h' tk hk => ?_⟩
  · obtain ⟨b, e, rfl⟩ := hb.get i v (by simpa using hP)
    simp only [e, Option.getD_some] at hQ
    exact wpAny_truthy_bool hQ
  · have e : ((List.range its.toArray.size).all fun i => (bs[i]?).getD true) = bs.all id := by
      rw [List.size_toArray, hb.length]; exact LSm.range_all bs
    rw [e]
    exact ⟨.bl _, H, I.kept (LSm.kept_iter hk), rfl, q⟩

/-! texts: split, join, index, slices, int() -/
def rSlS : V → Option Int → Option Int → Hp → VK → Prop := fun x lo hi H Q => ∃ z, x = .str z ∧ z.length ≤ sizeLine ∧ Q (.str (Txt.slice z lo hi)) H
theorem sl_str : SlR X rSlS := by
  intro pins s σ H x v vl vu lo hi sl Q I rx hs pl pu h
  obtain ⟨z, rfl, hz, q⟩ := h
  obtain ⟨t, rfl⟩ := rx
  have fin : ∀ t' k, EP X pins σ Q (.str (Txt.slice z lo hi) t') { s with toks := k } := fun t' k => ⟨.str _, H, I.tok k, ⟨t', rfl⟩, q⟩
  refine ⟨"str", _, F.slot_str_getitem.lookup, typeIs_str _ _ _, ?_⟩
  cases pl with
  | none =>
    cases pu with
    | none => exact wpAny_getItem_str_slice (l := none) (u := none) (st := none) hs rfl (post_val_or_str ⟨Nat.le_trans (Txt.slice_le z _ _) hz, fin⟩)
    | int j uj => exact wpAny_getItem_str_slice (l := none) (u := some (j, uj)) (st := none) hs rfl (post_val_or_str ⟨Nat.le_trans (Txt.slice_le z _ _) hz, fin⟩)
  | int i ui =>
    cases pu with
    | none => exact wpAny_getItem_str_slice (l := some (i, ui)) (u := none) (st := none) hs rfl (post_val_or_str ⟨Nat.le_trans (Txt.slice_le z _ _) hz, fin⟩)
    | int j uj => exact wpAny_getItem_str_slice (l := some (i, ui)) (u := some (j, uj)) (st := none) hs rfl (post_val_or_str ⟨Nat.le_trans (Txt.slice_le z _ _) hz, fin⟩)

/-! == and != of two lists of flat items -/
def eqL : List V → List V → Bool
  | [], [] => true
  | x :: xs, y :: ys => eqV x y && eqL xs ys
  | _, _ => false
theorem eqL_len : ∀ {xs ys : List V}, xs.length ≠ ys.length → eqL xs ys = false
  | [], [], h => absurd rfl h
  | [], _ :: _, _ => rfl
  | _ :: _, [], _ => rfl
  | x :: xs, y :: ys, h => by
    unfold eqL
    rw [eqL_len (fun e => h (by simp [e])), Bool.and_false]
theorem eqL_range : ∀ {xs ys : List V}, xs.length = ys.length → ((List.range xs.length).all fun j => eqV (xs.getD j .non) (ys.getD j .non)) = eqL xs ys
  | [], [], _ => rfl
  | [], _ :: _, h => by simp at h
  | _ :: _, [], h => by simp at h
  | x :: xs, y :: ys, h => by
    have ih := eqL_range (xs := xs) (ys := ys) (by simpa using h)
    unfold eqL
    rw [← ih, List.length_cons, List.range_succ_eq_map, List.all_cons, List.all_map]
    rfl
theorem eqAt_items {A : Around} {s : Shared} : ∀ {xs ys : List V} {us ws : List Value}, Vals xs us → Vals ys ws → xs.all flatV = true → ys.all flatV = true →
    ∀ j (h1 : j < us.toArray.size) (h2 : j < ws.toArray.size), SeqAt.EqAt A s us.toArray[j] ws.toArray[j] (eqV (xs.getD j .non) (ys.getD j .non))
  | _, _, _, _, .nil, _, _, _ => fun j h1 _ => by simp at h1
  | _, _, _, _, .cons _ _, .nil, _, _ => fun j _ h2 => by simp at h2
  | x :: xs, y :: ys, u :: us, w :: ws, .cons r t, .cons r' t', f, f' => fun j h1 h2 => by
    rw [List.all_cons, Bool.and_eq_true] at f f'
    cases j with
    | zero => exact eqAt_V r r' f.1 f'.1
    | succ j =>
      have := eqAt_items (A := A) (s := s) t t' f.2 f'.2 j (by simpa using h1) (by simpa using h2)
      simpa using this
def rEqL (K : PySem.W.Frag) (neg : Bool) : R2 := fun x y H Q => ∃ a b xs ys, x = .ref a ∧ y = .ref b ∧ SqL K H a xs ∧ SqL K H b ys ∧ xs.all flatV = true ∧ ys.all flatV = true ∧ Q (.bl (if neg then !eqL xs ys else eqL xs ys)) H
theorem op_eqL (hu : X.A.units < cLine) : OpR X (compareOp .Eq) (rEqL X.K false) := by
  intro pins s σ H x y v u Q I rx ry h
  obtain ⟨a, b, xs, ys, rfl, rfl, ha, hb, fx, fy, q⟩ := h
  cases rx
  cases ry
  obtain ⟨its, r1, p1, _⟩ := I.list ha
  obtain ⟨its2, r2, p2, _⟩ := I.list hb
  have l1 := r1.length
  have l2 := r2.length
  by_cases hl : xs.length = ys.length
  · refine SeqAt.eq_listAt p1.isList p2.isList (by simp only [List.size_toArray]; omega) hu (eqAt_items r1 r2 fx fy) ⟨.bl _, H, I, ?_, q⟩
    rw [List.size_toArray, ← l1, eqL_range hl]
    rfl
  · refine SeqAt.eq_list_lengthsAt p1.isList p2.isList (by simp only [List.size_toArray]; simp; omega) hu ⟨.bl _, H, I, ?_, q⟩
    rw [eqL_len hl]
    rfl
theorem op_neL (hu : X.A.units < cLine) : OpR X (compareOp .NotEq) (rEqL X.K true) := by
  intro pins s σ H x y v u Q I rx ry h
  obtain ⟨a, b, xs, ys, rfl, rfl, ha, hb, fx, fy, q⟩ := h
  cases rx
  cases ry
  obtain ⟨its, r1, p1, _⟩ := I.list ha
  obtain ⟨its2, r2, p2, _⟩ := I.list hb
  have l1 := r1.length
  have l2 := r2.length
  by_cases hl : xs.length = ys.length
  · refine EqBoolInt.of_rcne (SeqAt.RcNeAt.lists p1.isList p2.isList (by simp only [List.size_toArray]; omega) hu (eqAt_items r1 r2 fx fy)) ⟨.bl _, H, I, ?_, q⟩
    rw [List.size_toArray, ← l1, eqL_range hl]
    rfl
  · refine EqBoolInt.of_rcne (SeqAt.RcNeAt.lists_lengths p1.isList p2.isList (by simp only [List.size_toArray]; simp; omega) hu) ⟨.bl _, H, I, ?_, q⟩
    rw [eqL_len hl]
    rfl
theorem eqV_refl : ∀ {x : V}, flatV x = true → eqV x x = true
  | .non, _ => rfl
  | .bl b, _ => by cases b <;> rfl
  | .int i, _ => by show (i == i) = true; simp
  | .str x, _ => by show (x == x) = true; simp
theorem eqL_refl : ∀ {xs : List V}, xs.all flatV = true → eqL xs xs = true
  | [], _ => rfl
  | x :: xs, h => by
    rw [List.all_cons, Bool.and_eq_true] at h
    unfold eqL
    rw [eqV_refl h.1, eqL_refl h.2]
    rfl
theorem flat_ints (ns : List Int) : (ns.map V.int).all flatV = true := by
  rw [List.all_map, List.all_eq_true]
  intro _ _
  rfl
end
end L2

set_option Elab.async false
set_option linter.all false
set_option maxRecDepth 100000
namespace L2
open PySem PySem.Spec PyProof.Rows

/-! a def of the text, and what is known of it -/
structure Def (K : PySem.W.Frag) (mg : Str → Option Value) (x : Str) (st : Stmt) (ps : List Str) : Prop where
  ex : ∃ f fd, Fun K x x st f fd ∧ mg x = some (.ref f) ∧ Binds K fd ps []
def Knows (P : Program) (w : World) (K : PySem.W.Frag) (mg : Str → Option Value) (base : Heap) (k : Nat) (x : Str) (ps : List Str) (sp : Sp) : Prop :=
  ∃ f fd, mg x = some (.ref f) ∧ PySem.W.keepIn K (.ref f) = true ∧ Binds K fd ps [] ∧ FnOk P w K mg base CX0 k f fd ps sp
section
variable {P : Program} {w : World} {K : PySem.W.Frag} {mg : Str → Option Value} {base : Heap}
/-- a def by its body: N its names, t the reading -/
theorem Def.ok {x : Str} {st : Stmt} {N ps : List Str} {k : Nat} {sp : Sp} (D : Def K mg x st ps) (S : FnScope N ps (defScope st)) (len : ∀ vs H Q E, sp vs H Q E → vs.length = ps.length)
    (hbody : ∀ (f : Addr) (cdv : Value) (A : Around) (outer : List Env) (s : Shared) (H : Hp) (vs : List V) (Q : VK) (E : XK), Room k (A.deeper (envOfC x (defScope st) s.heap.objs.size f cdv)) → sp vs H Q E →
      ∃ t, PSs (cxOf CX0 P w K mg base N x (defScope st) f cdv A outer s H E).nox (defBody st) t ∧ t { nx := fun _ H' => Q .non H', rt := Q } (start N vs) H) : Knows P w K mg base (k + 1) x ps sp := by
  obtain ⟨f, fd, F, hm, hb⟩ := D.ex
  exact ⟨f, fd, hm, F.kp, hb, F.ok S len fun cdv A outer s H vs Q E hr h => hbody f cdv A outer s H vs Q E hr h⟩
end
section
variable {X : Cx} {x : Str} {ps : List Str} {sp : Sp} {k : Nat} {e : Expr} {es : List Expr} {t : TA} {p pos : Pos}
theorem pe_callN (F : Knows X.prog X.w X.K X.mg X.base k x ps sp) (hr : Room k X.A) (ha : PA X (e :: es) t) (hg : Gl X x := by rfl) (hdb : (x == ("__debug__" : Str)) = false := by decide)
    (he : starEach (e :: es) X.env = (false, eval e X.env) :: starEach es X.env := by rfl) (hpl : (backTo pos (starEach es X.env)).any (·.1) = false := by rfl) : PE X (.Call (.Name x p) (e :: es) [] pos) (tCall sp [] E0 t) := by
  obtain ⟨f, fd, hm, hk, hb, F⟩ := F
  exact pe_call F hr hg hm hk hb .nil pass0 ha hdb he hpl
end

/-! built-in names -/
structure Bltn (mg : Str → Option Value) : Prop where
  isi : mg "isinstance" = none
  len : mg "len" = none
  all : mg "all" = none
  int : mg "int" = none
  bool : mg "bool" = none
  str : mg "str" = none
  list : mg "list" = none
  range : mg "range" = none
def rIsi (K : PySem.W.Frag) (n : String) : List V → Hp → VK → Prop := fun xs H Q => ∃ x t b, xs = [x, .ty n] ∧ TyOf K H x t ∧ PySem.W.kitOne K t (.type n) = some b ∧ Q (.bl b) H
section
variable {X : Cx} {a : Expr} {ta : TE} {p pos p2 : Pos}
theorem call_isiN (n : String) : CallR X (.builtin "isinstance") (rIsi X.K n) := by
  intro pins s σ H xs us Q I r h
  obtain ⟨x, t, b, rfl, ty, e, q⟩ := h
  exact call_isi pins s σ H _ us Q I r ⟨x, n, t, b, rfl, ty, e, q⟩
theorem pe_isi {T : Str} {n : String} (h : X.mg "isinstance" = none) (hT : X.mg T = none) (hv : bootBuiltins T = some (.type n)) (ha : PE X a ta) (hg : Gl X "isinstance" := by rfl) (hg2 : Gl X T := by rfl)
    (hn : T ≠ "__name__" := by decide) (hd : (T == ("__debug__" : Str)) = false := by decide)
    (he : starEach [a, .Name T p2] X.env = (false, eval a X.env) :: starEach [.Name T p2] X.env := by rfl) (he2 : starEach [.Name T p2] X.env = (false, eval (.Name T p2) X.env) :: starEach [] X.env := by rfl) (hpl : (backTo pos (starEach [.Name T p2] X.env)).any (·.1) = false := by rfl) :
    PE X (.Call (.Name "isinstance" p) [a, .Name T p2] [] pos) (tCB (rIsi X.K n) (tCons ta (tCons (tC (.ty n)) tNil))) :=
  pe_callB (call_isiN n) hg h boot_isinstance (pa_cons ha (pa_cons (pe_bltn (v := .ty n) hg2 hT hv rfl hn hd) pa_nil he2) he) (by decide) (by decide) he hpl
end
/-- a built-in type's kinds -/
def isI : V → Bool
  | .int _ => true
  | _ => false
def isIB : V → Bool
  | .int _ => true
  | .bl _ => true
  | _ => false
def isBl : V → Bool
  | .bl _ => true
  | _ => false
def isS : V → Bool
  | .str _ => true
  | _ => false
theorem isiI {K : PySem.W.Frag} {H : Hp} {x : V} {m : String} (ty : TyOf K H x (.type m)) : PySem.W.kitOne K (.type m) (.type "int") = some (isIB x) := by
  cases ty <;> kernel_rfl
theorem isiB {K : PySem.W.Frag} {H : Hp} {x : V} {m : String} (ty : TyOf K H x (.type m)) : PySem.W.kitOne K (.type m) (.type "bool") = some (isBl x) := by
  cases ty <;> kernel_rfl
theorem isiS {K : PySem.W.Frag} {H : Hp} {x : V} {m : String} (ty : TyOf K H x (.type m)) : PySem.W.kitOne K (.type m) (.type "str") = some (isS x) := by
  cases ty <;> kernel_rfl
/-! a comprehension of one own name -/
theorem pe_comp1 {X : Cx} {elt iter : Expr} {x : Str} {px pos : Pos} {ifs : List Expr} {scope : Scope} {wi : TI} {tc : TT} {te : TE} (js : List Nat) (N' : List Str) (hc : X.calm = true)
    (hi : PI X (.Name x px) iter wi)
    (ht : ∀ C s₀ H₀ ex, PTs (cxComp X scope N' C s₀ H₀ ex) ifs tc)
    (he : ∀ C s₀ H₀ ex, PE (cxComp X scope N' C s₀ H₀ ex) elt te)
    (nd : N'.Nodup := by decide +kernel)
    (hx : scope.names.lookup x = some .local := by rfl)
    (hN' : N' = [x] ++ js.map fun j => X.N.getD j Str.empty := by rfl)
    (hk : scope.kind = .function := by rfl)
    (hcell : ∀ y ∈ scope.names, y.2 ≠ .cell := by decide +kernel)
    (hnames : ∀ y ∈ scope.names, y.2 = .local → scope.names.lookup y.1 = some .local := by decide +kernel)
    (hfr : (scope.names.all fun y => y.2 != .free || X.env.scope.names.lookup y.1 == some .cell) = true := by rfl)
    (hjs : (js.all fun j => scope.names.lookup (X.N.getD j Str.empty) == some .free && (X.N[j]?).isSome) = true := by rfl)
    (hs : ∀ z, foldedSetIterable iter X.env z = pure z := by intro _; rfl) :
    PE X (.ListComp elt [⟨.Name x px, iter, ifs, 0⟩] scope pos) (tComp 1 js wi (gName 0) tc te) :=
  pe_comp [x] js N' hc hi (fun C s₀ H₀ ex => pg_name (X := cxComp X scope N' C s₀ H₀ ex) (i := 0) nd (by show N'[0]? = some x; rw [hN']; rfl) (Or.inl (lookup_relabel_local hx)) (.inr (lookup_relabel_local hx))) ht he hN' hk hcell hnames hfr hjs hs
/-! over a known row -/
theorem comp1_wk {js : List Nat} {J : It} {xs : List V} {Pp : Hp → Prop} {σ : St} {H1 : Hp} {tc : TT} {te : TE} {Q : VK} (wk : Wk J xs Pp) (Pv : Nat → List V → Hp → Prop) (h0 : Pv 0 [] H1) (hP : ∀ i ys H, i ≤ xs.length → Pv i ys H → Pp H ∧ ys.length ≤ i) (hsz : xs.length ≤ sizeLine)
    (hs : ∀ i x ys H (Nx : List V → Hp → Prop), xs[i]? = some x → Pv i ys H → (∀ ys' H', Pv (i + 1) ys' H' → Nx ys' H') → tc (some x :: caps σ js) H fun b H3 => if b = true then te (some x :: caps σ js) H3 fun y H4 => Nx (ys ++ [y]) H4 else Nx ys H3)
    (hd : ∀ ys H, Pv xs.length ys H → ∀ D, H D = none → Q (.ref D) (upd H D (.lst ys))) :
    tCompB 1 js (gName 0) tc te σ Q J H1 := by
  refine ⟨fun i m ys H => m = xs.length - i ∧ i ≤ xs.length ∧ Pv i ys H, ⟨xs.length, by simp, Nat.zero_le _, h0⟩, ?_⟩
  rintro i m ys H ⟨rfl, hi, p⟩
  obtain ⟨q, hl⟩ := hP i ys H hi p
  by_cases hlt : i < xs.length
  · refine .inr ⟨wk.go i H hlt q, by omega, fun x H' y os hos => ?_⟩
    obtain ⟨e, y2⟩ := wk.yld i H x H' q y
    subst e
    match os, hos with
    | [v0], _ =>
      exact ⟨⟨[some x], rfl, rfl⟩, hs i x ys _ (fun ys' H' => ∃ m', m' < xs.length - i ∧ m' = xs.length - (i + 1) ∧ i + 1 ≤ xs.length ∧ Pv (i + 1) ys' H') (y2 hlt) p fun ys' H' p' => ⟨xs.length - (i + 1), by omega, rfl, hlt, p'⟩⟩
  · have e : i = xs.length := by omega
    subst e
    exact .inl ⟨wk.stop H q, by omega, hd ys H p⟩
/-! an expression's value by what is true of it, then the rest -/
theorem tTrue_use {σ : St} {H : Hp} {A B : Hp → Prop} (h : A H) : tTrue σ H fun b H3 => if b = true then A H3 else B H3 := by
  show if true = true then A H else B H
  exact iteT h
end L2

set_option Elab.async false
set_option linter.all false
set_option maxRecDepth 100000
namespace L2
open PySem PySem.Spec PyProof.Rows
/-! no starred argument: told once -/
def notStar : Expr → Bool
  | .Starred _ _ => false
  | _ => true
theorem star_cons {e : Expr} {es : List Expr} {env : Env} (h : notStar e = true) : starEach (e :: es) env = (false, eval e env) :: starEach es env := by
  cases e <;> first | rfl | (exact absurd (show false = true from h) Bool.false_ne_true)
theorem star_none {pos : Pos} {env : Env} : ∀ {es : List Expr}, es.all notStar = true → (backTo pos (starEach es env)).any (·.1) = false
  | [], _ => rfl
  | e :: es, h => by
    rw [List.all_cons, Bool.and_eq_true] at h
    rw [star_cons h.1]
    show (false || (backTo pos (starEach es env)).any (·.1)) = false
    rw [star_none h.2]
    rfl
section
variable {X : Cx} {x : Str} {ps : List Str} {sp : Sp} {j k : Nat} {e : Expr} {es : List Expr} {te : TE} {t : TA} {p pos : Pos} {id T : String} {r : List V → Hp → VK → Prop}
theorem pa_c (ha : PE X e te) (hr : PA X es t) (hn : notStar e = true := by rfl) : PA X (e :: es) (tCons te t) := pa_cons ha hr (star_cons hn)
theorem pe_callM (F : Knows X.prog X.w X.K X.mg X.base j x ps sp) (hr : Room k X.A) (ha : PA X (e :: es) t) (hjk : j ≤ k := by decide) (hg : Gl X x := by rfl) (hdb : (x == ("__debug__" : Str)) = false := by decide)
    (he : notStar e = true := by rfl) (hpl : es.all notStar = true := by rfl) : PE X (.Call (.Name x p) (e :: es) [] pos) (tCall sp [] E0 t) :=
  pe_callN F (hr.mono hjk) ha hg hdb (star_cons he) (star_none hpl)
theorem pe_bcall (hc : CallR X (.builtin id) r) (hg : Gl X x) (hm : X.mg x = none) (hv : bootBuiltins x = some (.builtin id)) (ha : PA X (e :: es) t) (hn : x ≠ "__name__" := by decide) (hdb : (x == ("__debug__" : Str)) = false := by decide)
    (he : notStar e = true := by rfl) (hpl : es.all notStar = true := by rfl) : PE X (.Call (.Name x p) (e :: es) [] pos) (tCB r t) := pe_callB hc hg hm hv ha hn hdb (star_cons he) (star_none hpl)
theorem pe_tcall (hc : CallR X (.type T) r) (hg : Gl X x) (hm : X.mg x = none) (hv : bootBuiltins x = some (.type T)) (ha : PA X (e :: es) t) (hn : x ≠ "__name__" := by decide) (hdb : (x == ("__debug__" : Str)) = false := by decide)
    (he : notStar e = true := by rfl) (hpl : es.all notStar = true := by rfl) : PE X (.Call (.Name x p) (e :: es) [] pos) (tCB r t) := pe_callTy hc hg hm hv ha hn hdb (star_cons he) (star_none hpl)
end
section
variable {X : Cx} {o e : Expr} {es : List Expr} {to : TE} {t : TA} {name : Str} {apos cpos : Pos} {T id : String} {r : V → List V → Hp → VK → Prop}
theorem star_few {pos : Pos} {env : Env} : ∀ {es : List Expr}, es.all notStar = true → (backTo pos (starEach es env)).all (fun x => !x.1) = true
  | [], _ => rfl
  | e :: es, h => by
    rw [List.all_cons, Bool.and_eq_true] at h
    rw [star_cons h.1]
    show (true && (backTo pos (starEach es env)).all (fun x => !x.1)) = true
    rw [star_few h.2]
    rfl
theorem pe_mcall (pa : PlainAttrs T) (slot : Slot T name id) (hty : typeOf (.builtin id) = pure (.type "method_descriptor")) (hm : MtR X id r) (ho : PE X o to) (ha : PA X (e :: es) t)
    (hbase : attributeBase o name X.env (eval o X.env) = eval o X.env := by rfl) (he : notStar e = true := by rfl) (hpl : es.all notStar = true := by rfl) (hlen : (e :: es).length < 30 := by decide)
    (hline : (apos.endLine == cpos.line) = true := by rfl) : PE X (.Call (.Attribute o name apos) (e :: es) [] cpos) (tBM X.K T r to t) := by
  refine pe_bm pa slot hty hm ho ha hbase ?_ hline (star_cons he) (star_none hpl)
  rw [star_few (by rw [List.all_cons, he, hpl]; rfl)]
  show (true && true && decide ((e :: es).length + 0 + 0 < 30)) = true
  rw [decide_eq_true (by omega)]
  rfl
end
section
variable {X : Cx} {a : Expr} {ta : TE} {p pos p2 : Pos}
/-- within a comprehension: the readings name the fragment itself -/
theorem pe_isiC {K0 : PySem.W.Frag} {T : Str} {n : String} (hK : X.K = K0) (h : X.mg "isinstance" = none) (hT : X.mg T = none) (hv : bootBuiltins T = some (.type n)) (ha : PE X a ta) (hg : Gl X "isinstance" := by rfl) (hg2 : Gl X T := by rfl)
    (hn : T ≠ "__name__" := by decide) (hd : (T == ("__debug__" : Str)) = false := by decide)
    (he : notStar a = true := by rfl) :
    PE X (.Call (.Name "isinstance" p) [a, .Name T p2] [] pos) (tCB (rIsi K0 n) (tCons ta (tCons (tC (.ty n)) tNil))) := by
  subst hK
  exact pe_isi h hT hv ha hg hg2 hn hd (star_cons he) (star_cons rfl) (star_none rfl)
theorem pe_isiM {T : Str} {n : String} (h : X.mg "isinstance" = none) (hT : X.mg T = none) (hv : bootBuiltins T = some (.type n)) (ha : PE X a ta) (hg : Gl X "isinstance" := by rfl) (hg2 : Gl X T := by rfl)
    (hn : T ≠ "__name__" := by decide) (hd : (T == ("__debug__" : Str)) = false := by decide) (he : notStar a = true := by rfl) :
    PE X (.Call (.Name "isinstance" p) [a, .Name T p2] [] pos) (tCB (rIsi X.K n) (tCons ta (tCons (tC (.ty n)) tNil))) :=
  pe_isi h hT hv ha hg hg2 hn hd (star_cons he) (star_cons rfl) (star_none rfl)
end
theorem Same.upd {H H1 : Hp} {p : Addr} {o : HO} (s : Same H H1) (h : H p = none) : Same H (L2.upd H1 p o) := fun b u e => by
  rw [upd_ne (ne_of_none e h)]; exact s b u e
theorem hu0 {A : Around} {k : Nat} (hr : Room k A) : A.units < cLine := hr.units0
theorem atI_mem {α : Type} {xs : List α} {i : Int} (h0 : 0 ≤ i) (h1 : i < xs.length) : ∃ v, atI xs i = some v ∧ v ∈ xs ∧ xs[i.toNat]? = some v := by
  have hj : i.toNat < xs.length := by omega
  refine ⟨xs[i.toNat], ?_, List.getElem_mem hj, by simp [hj]⟩
  have h := atI_nat (xs := xs) (j := i.toNat) (v := xs[i.toNat]) (by simp [hj])
  rwa [show ((i.toNat : Nat) : Int) = i by omega] at h
theorem ite_b {c : Bool} {A B : Prop} (h1 : c = true → A) (h2 : c = false → B) : if c = true then A else B := by
  cases c
  · exact iteF (h2 rfl)
  · exact iteT (h1 rfl)
theorem if_use {c : TT} {t u r : TS} {D : Ends} {σ : St} {H : Hp} (Post : Bool → Hp → Prop) (hc : ∀ Q', (∀ b H', Post b H' → Q' b H') → c σ H Q') (kt : ∀ H', Post true H' → t { D with nx := r D } σ H') (kf : ∀ H', Post false H' → u { D with nx := r D } σ H') : tSeq (tIfS c t u) r D σ H := hc _ fun b H' p => by
  cases b
  · exact iteF (kf H' p)
  · exact iteT (kt H' p)
theorem seq_use {te : TE} {g : TG} {u : TS} {D : Ends} {σ : St} {H : Hp} (Post : V → Hp → Prop) (hg : ∀ Q', (∀ v H', Post v H' → Q' v H') → te σ H Q') (k : ∀ v H', Post v H' → g v σ H' (u D)) : tSeq (tAsg te g) u D σ H := hg _ k
end L2

set_option Elab.async false
set_option linter.all false
set_option maxRecDepth 100000
namespace L2
open PySem PySem.Spec PyProof.Rows

/-! data: flat values, lists and tuples of data, as trees -/
inductive D where
  | a (v : V)
  | l (xs : List D)
  | t (xs : List D)
mutual
inductive Rep (K : PySem.W.Frag) (H : Hp) : V → D → Prop
  | a {v : V} (f : flatV v = true) : Rep K H v (.a v)
  | l {p : Addr} {vs : List V} {ds : List D} (h : SqL K H p vs) (r : Reps K H vs ds) : Rep K H (.ref p) (.l ds)
  | t {p : Addr} {vs : List V} {ds : List D} (h : SqT K H p vs) (r : Reps K H vs ds) : Rep K H (.ref p) (.t ds)
inductive Reps (K : PySem.W.Frag) (H : Hp) : List V → List D → Prop
  | nil : Reps K H [] []
  | cons {v : V} {d : D} {vs : List V} {ds : List D} (r : Rep K H v d) (rs : Reps K H vs ds) : Reps K H (v :: vs) (d :: ds)
end
section
variable {X : Cx} {pins : List (Addr × Obj)} {σ : St} {H : Hp} {s : Shared}
theorem SqL.notT (I : Inv X pins σ H s) {p : Addr} {xs ys : List V} (h : SqL X.K H p xs) (h' : SqT X.K H p ys) : False := by
  obtain ⟨_, _, pl, _⟩ := I.list h
  obtain ⟨_, _, pt, _⟩ := I.tuple h'
  exact SeqAt.ne_of_list_tuple pl.isList pt rfl
mutual
theorem Rep.inj (I : Inv X pins σ H s) : ∀ {v : V} {d e : D}, Rep X.K H v d → Rep X.K H v e → d = e
  | _, _, _, .a f, .a _ => rfl
  | _, _, _, .a f, .l _ _ => absurd (show false = true from f) Bool.false_ne_true
  | _, _, _, .a f, .t _ _ => absurd (show false = true from f) Bool.false_ne_true
  | _, _, _, .l _ _, .a f => absurd (show false = true from f) Bool.false_ne_true
  | _, _, _, .t _ _, .a f => absurd (show false = true from f) Bool.false_ne_true
  | _, _, _, .l h r, .l h' r' => by
    have e := I.list_inj h h'
    subst e
    rw [Reps.inj I r r']
  | _, _, _, .t h r, .t h' r' => by
    have e := I.tuple_inj h h'
    subst e
    rw [Reps.inj I r r']
  | _, _, _, .l h _, .t h' _ => (SqL.notT I h h').elim
  | _, _, _, .t h _, .l h' _ => (SqL.notT I h' h).elim
theorem Reps.inj (I : Inv X pins σ H s) : ∀ {vs : List V} {ds es : List D}, Reps X.K H vs ds → Reps X.K H vs es → ds = es
  | _, _, _, .nil, .nil => rfl
  | _, _, _, .cons r t, .cons r' t' => by rw [Rep.inj I r r', Reps.inj I t t']
end
end
end L2
namespace L2
open PySem PySem.Spec PyProof.Rows
section
variable {X : Cx} {pins : List (Addr × Obj)} {σ : St} {H : Hp} {s : Shared} {A : Around} {x : V} {u : Value} {p : Addr} {items : Array Value}
end
end L2

set_option Elab.async false
set_option linter.all false
set_option maxRecDepth 100000
set_option maxHeartbeats 2000000
namespace L2
open PySem
/-! ### a run has one end -/
end L2

set_option Elab.async false
set_option linter.all false
set_option maxRecDepth 100000
namespace L2
open PySem
end L2

set_option Elab.async false
set_option linter.all false
set_option maxRecDepth 100000
namespace L2
open PySem
/-! ### what leaves an exception's context as it is -/
/-- the record at a has None as its third field, and no dict -/
def Ctx0 (a : Addr) (h : Heap) : Prop := ∃ o fs, h.get? a = some o ∧ o.data = .fields fs ∧ fs[2]? = some Value.none ∧ o.dict = none
def F2 (f : Obj → Obj) : Prop := ∀ o fs, o.data = .fields fs → fs[2]? = some Value.none → ∃ fs', (f o).data = .fields fs' ∧ fs'[2]? = some Value.none ∧ (f o).dict = o.dict
def Tame {α : Type} : Sem α → Prop
  | .pure _ => True
  | .raise _ => True
  | .unsupported _ => True
  | .finish _ => True
  | .rule _ k => Tame (k ())
  | .at _ k => Tame (k ())
  | .point _ k => Tame (k ())
  | .load _ _ k => ∀ o, Tame (k o)
  | .update _ _ f k => F2 f ∧ Tame (k ())
  | .alloc _ k => ∀ a, Tame (k a)
  | .loadIfAlive _ k => ∀ o, Tame (k o)
  | .fresh k => ∀ t, Tame (k t)
  | .ask k => ∀ x, Tame (k x)
  | .handled _ k => ∀ x, Tame (k x)
  | .stack k => ∀ x, Tame (k x)
  | .thread k => ∀ x, Tame (k x)
  | _ => False
theorem tame_bind {α β : Type} {m : Sem α} {f : α → Sem β} (hf : ∀ a, Tame (f a)) : Tame m → Tame (m >>= f) := by
  show Tame m → Tame (Sem.bind m f)
  induction m with
  | pure a => intro _; exact hf a
  | raise e => intro _; trivial
  | unsupported w => intro _; trivial
  | finish w => intro _; trivial
  | rule t k ih => intro h; exact ih () h
  | «at» t k ih => intro h; exact ih () h
  | point t k ih => intro h; exact ih () h
  | load a t k ih => intro h o; exact ih o (h o)
  | update a t g k ih => intro h; exact ⟨h.1, ih () h.2⟩
  | alloc o k ih => intro h a; exact ih a (h a)
  | loadIfAlive o k ih => intro h a; exact ih a (h a)
  | fresh k ih => intro h a; exact ih a (h a)
  | ask k ih => intro h a; exact ih a (h a)
  | handled o k ih => intro h a; exact ih a (h a)
  | stack k ih => intro h a; exact ih a (h a)
  | thread k ih => intro h a; exact ih a (h a)
  | _ => intro h; exact h.elim
theorem Ctx0.push {a : Addr} {h : Heap} {o : Obj} (c : Ctx0 a h) : Ctx0 a (h.push o) := by
  obtain ⟨ob, fs, e, d, f⟩ := c
  exact ⟨ob, fs, Heap.get?_push_of_some _ e, d, f⟩
theorem Ctx0.update {a b : Addr} {h : Heap} {f : Obj → Obj} (c : Ctx0 a h) (hf : F2 f) : Ctx0 a (h.update b f) := by
  obtain ⟨ob, fs, e, d, g⟩ := c
  by_cases z : b = a
  · subst z
    obtain ⟨fs', d', g', k⟩ := hf ob fs d g.1
    exact ⟨f ob, fs', Heap.get?_update_self _ e (Obj.isFreed_of_fields d'), d', g', by rw [k]; exact g.2⟩
  · exact ⟨ob, fs, by rw [Heap.get?_update_other _ _ z]; exact e, d, g⟩
theorem tame_wp {α : Type} {M : Model} {Γ : Ctx} {a : Addr} {Q : α → Pos → Shared → Prop} {E : Value → Pos → Shared → Prop} (m : Sem α) : ∀ {p : Pos} {s : Shared}, Tame m → Ctx0 a s.heap → Sem.wp M Γ m Q E p s →
    Sem.wp M Γ m (fun x p s => Q x p s ∧ Ctx0 a s.heap) (fun e p s => E e p s ∧ Ctx0 a s.heap) p s := by
  induction m with
  | pure x => intro p s _ c h; rw [Sem.wp] at h ⊢; exact ⟨h, c⟩
  | raise e => intro p s _ c h; rw [Sem.wp] at h ⊢; exact ⟨h, c⟩
  | unsupported w => intro p s _ c h; rw [Sem.wp] at h; exact h.elim
  | finish w => intro p s _ c h; rw [Sem.wp] at h; exact h.elim
  | rule t k ih => intro p s q c h; rw [Sem.wp] at h ⊢; exact ih () q c h
  | «at» t k ih => intro p s q c h; rw [Sem.wp] at h ⊢; exact ih () q c h
  | point t k ih => intro p s q c h; rw [Sem.wp] at h ⊢; exact ih () q c h
  | load b t k ih => intro p s q c h; rw [Sem.wp] at h ⊢; obtain ⟨o, e, h⟩ := h; exact ⟨o, e, ih o (q o) c h⟩
  | update b t g k ih => intro p s q c h; rw [Sem.wp] at h ⊢; exact ⟨h.1, ih () q.2 (c.update q.1) h.2⟩
  | alloc o k ih => intro p s q c h; rw [Sem.wp] at h ⊢; exact ih _ (q _) c.push h
  | loadIfAlive b k ih => intro p s q c h; rw [Sem.wp] at h ⊢; exact ih _ (q _) c h
  | fresh k ih => intro p s q c h; rw [Sem.wp] at h ⊢; exact ih _ (q _) c h
  | ask k ih => intro p s q c h; rw [Sem.wp] at h ⊢; exact ih _ (q _) c h
  | handled o k ih => intro p s q c h; rw [Sem.wp] at h ⊢; exact ih _ (q _) c h
  | stack k ih => intro p s q c h; rw [Sem.wp] at h ⊢; exact ih _ (q _) c h
  | thread k ih => intro p s q c h; rw [Sem.wp] at h ⊢; exact ih _ (q _) c h
  | _ => intro p s q; exact q.elim
theorem tame_any {α : Type} {M : Model} {A : Around} {a : Addr} {m : Sem α} {Q : α → Shared → Prop} {E : Value → Shared → Prop} {s : Shared} (t : Tame m) (c : Ctx0 a s.heap) (h : wpAny M A m Q E s) :
    wpAny M A m (fun x s => Q x s ∧ Ctx0 a s.heap) (fun e s => E e s ∧ Ctx0 a s.heap) s := fun Γ p hΓ => tame_wp m t c (h Γ p hΓ)
theorem tame_field {v : Value} {i : Nat} : Tame (field v i) := by
  unfold field
  refine tame_bind (fun fs => ?_) ?_
  · cases fs[i]? <;> trivial
  · unfold fieldsOf
    cases v with
    | ref a =>
      refine tame_bind (fun o => ?_) (fun o => trivial)
      cases o.data <;> trivial
    | _ => trivial
theorem f2_set {i : Nat} {x : Value} (hi : i ≠ 2) : F2 (Obj.mapFields (·.setIfInBounds i x)) := fun o fs d g => ⟨fs.setIfInBounds i x, Obj.data_mapFields d _, by rw [Array.getElem?_setIfInBounds_ne hi]; exact g, by cases o; simp only at d; subst d; rfl⟩
theorem tame_setField {v x : Value} {i : Nat} (hi : i ≠ 2) : Tame (setField v i x) := by
  unfold setField
  cases v with
  | ref a =>
    show Tame (updateField a i x)
    unfold updateField
    refine tame_bind (fun o => ?_) (fun o => trivial)
    cases o.data with
    | fields vs =>
      show Tame (if i < vs.size then _ else _)
      split
      · exact ⟨f2_set hi, trivial⟩
      · trivial
    | _ => trivial
  | _ => trivial
theorem tame_setFlight {e : Value} {f : Option Addr} : Tame (setFlight e f) := by
  unfold setFlight
  refine tame_bind (fun tb => ?_) tame_field
  split
  · exact tame_setField (by decide)
  · trivial
theorem tame_ready : ∀ l : List Env, Tame (readyFrames l)
  | [] => trivial
  | env :: outer => by
    unfold readyFrames
    cases env.frame with
    | none => trivial
    | some f =>
      refine tame_bind (fun o => ?_) (fun o => trivial)
      split
      · trivial
      · refine tame_bind (fun b => ?_) ?_
        · refine tame_bind (fun v => ?_) ?_
          · exact tame_bind (fun _ => tame_ready outer) ⟨fun o fs d g => ⟨fs, d, g, rfl⟩, trivial⟩
          · unfold keptBack
            cases outer with
            | nil =>
              dsimp only
              split
              · trivial
              · exact tame_bind (fun _ => trivial) (tame_bind (fun _ => trivial) (fun _ => trivial))
            | cons c l => trivial
        · unfold behindIsImport
          split
          · trivial
          · split
            · trivial
            · exact tame_bind (fun _ => trivial) tame_field
theorem tame_new (vs : Array Value) : Tame (newObj (Value.type "traceback") (.fields vs)) := by
  have fin : ∀ d : Data, Tame (newObjAsIs (Value.type "traceback") d) := fun d => fun _ => trivial
  unfold newObj
  dsimp only
  split
  · exact tame_bind (fun _ => fin _) trivial
  · exact fin _
theorem tame_noteFrame {e : Value} {env : Env} : Tame (noteFrame e env) := by
  unfold noteFrame
  cases env.frame with
  | none => trivial
  | some f =>
    refine tame_bind (fun hd => ?_) tame_field
    have rest : Tame (do setField e 1 (← EntryCells.newEntry hd (← frameOf env) .none (rawInt f) .none (← entryPlaceOf f (hd != .none)))) := by
      refine tame_bind (fun fr => ?_) ?_
      · refine tame_bind (fun pl => ?_) ?_
        · refine tame_bind (fun en => tame_setField (by decide)) ?_
          exact tame_new _
        · unfold entryPlaceOf
          refine tame_bind (fun acts => ?_) (fun _ => trivial)
          split <;> trivial
      · unfold frameOf
        refine tame_bind (fun l => ?_) ?_
        · refine tame_bind (fun o => ?_) ?_
          · cases o <;> trivial
          · unfold frameObject
            split
            · trivial
            · exact tame_bind (fun _ => trivial) (tame_ready _)
        · unfold frameEnvs
          exact tame_bind (fun _ => trivial) (fun _ => trivial)
    dsimp only
    split
    · refine tame_bind (fun x => ?_) tame_field
      split
      · trivial
      · exact tame_bind (fun _ => rest) (tame_setField (by decide))
    · exact rest
theorem tame_leaving {e : Value} {env : Env} : Tame (leaving env e) := by
  unfold leaving
  exact tame_bind (fun _ => tame_setFlight) tame_noteFrame
end L2

set_option Elab.async false
set_option linter.all false
set_option maxRecDepth 100000
namespace L2
open PySem PySem.Spec PyProof.Rows

/-! ### exceptions: how one lies behind a call -/
/-- all that stood at s, and all that is tracked, is in B (the frames apart) -/
def Cov (B : Heap) (fs : List Addr) (s : Shared) (H' : Hp) : Prop := ∀ b, b ∉ fs → ((∃ o, s.heap.get? b = some o) ∨ ∃ o, H' b = some o) → ∃ o, B.get? b = some o
def CX1 (P : Program) (w : World) (base : Heap) : CXT := fun outer H s E e s' => ∃ (a C : Addr) (a0 : Value) (H' : Hp) (B : Heap), e = .ref a ∧ s'.os = s.os ∧ AllBare s'.gens ∧ Un (frs outer) [] H H' s.heap s'.heap ∧ HOk P w H' s'.heap ∧
  Heap.FlyingW B outer a (.ref C) a0 s'.heap ∧ base.StaysIn B ∧ Cov B (frs outer) s H' ∧ (∀ b ∈ frs outer, H' b = none) ∧ Ctx0 a s'.heap ∧ E (.ref C) none H'

theorem hok_there {P : Program} {w : World} {H : Hp} {h : Heap} (ok : HOk P w H h) {b : Addr} {u : HO} (e : H b = some u) : ∃ o, h.get? b = some o := by
  have x := ok b u e
  cases u with
  | lst xs => obtain ⟨_, _, _, _, e⟩ := x; exact ⟨_, e⟩
  | tup xs => obtain ⟨_, _, _, o, e, _⟩ := x; exact ⟨_, e⟩
  | dK kvs => obtain ⟨_, _, _, _, o, _, _, e, _⟩ := x; exact ⟨_, e⟩
  | dT kvs => obtain ⟨_, _, _, _, o, _, _, e, _⟩ := x; exact ⟨_, e⟩
  | set S n => obtain ⟨o, _, _, _, e, _⟩ := x; exact ⟨_, e⟩
  | ins C dx fs => obtain ⟨_, _, _, e, _⟩ := x; exact ⟨_, e⟩
  | own y => obtain ⟨_, e⟩ := x; exact ⟨_, e⟩
  | xd fs => obtain ⟨_, ⟨_, _, _, e, _⟩, _⟩ := x; exact ⟨_, e⟩
  | rng lo hi => obtain ⟨_, _, _, e⟩ := x; exact ⟨_, e⟩
  | frz ob u => obtain ⟨e, _⟩ := x; exact ⟨_, e⟩
  | tbl ps => exact ⟨_, (show h.get? b = some _ from x)⟩
  | met f y => exact ⟨_, (show h.get? b = some _ from x)⟩
  | ext φ => obtain ⟨_, ⟨_, e⟩, _⟩ := x; exact ⟨_, e⟩
/-- what is in B stays, the frames keep up to slots: a step behind an exception -/
theorem un_step {fs : List Addr} {H H' : Hp} {s : Shared} {h1 h2 B : Heap} (u : Un fs [] H H' s.heap h1) (c : Cov B fs s H') (st1 : B.StaysIn h1) (st2 : B.StaysIn h2) (up : h1.UpToSlots h2)
    (fd : ∀ b ∈ fs, ∃ o, h1.get? b = some o ∧ ∀ vs, o.data ≠ .fields vs) : Un fs [] H H' s.heap h2 := by
  have go : ∀ b o, b ∉ fs → (∃ v, s.heap.get? b = some v) → h1.get? b = some o → h2.get? b = some o := fun b o hb hs e => by
    obtain ⟨o', e'⟩ := c b hb (.inl hs)
    have := st1 b o' e'
    rw [e] at this; cases this
    exact st2 b o e'
  refine ⟨fun b o q n hb hx => go b o hb ⟨o, q⟩ (u.keep b o q n hb hx), fun b o q n hb hx => ?_, u.free, fun b o q hx => ?_, u.tups, u.frzs, u.tbls⟩
  · obtain ⟨sl, e⟩ := u.slot b o q n hb hx
    obtain ⟨o1, e1, hd⟩ := fd b hb
    rw [e] at e1; cases e1
    obtain ⟨sl2, e2⟩ := up b _ e hd
    exact ⟨sl2, e2⟩
  · obtain ⟨o', e⟩ := u.there b o q hx
    by_cases hb : b ∈ fs
    · obtain ⟨o1, e1, hd⟩ := fd b hb
      rw [e] at e1; cases e1
      obtain ⟨sl2, e2⟩ := up b _ e hd
      exact ⟨_, e2⟩
    · exact ⟨o', go b o' hb ⟨o, q⟩ e⟩
theorem hok_step {P : Program} {w : World} {fs : List Addr} {H' : Hp} {s : Shared} {h1 h2 B : Heap} (ok : HOk P w H' h1) (c : Cov B fs s H') (st1 : B.StaysIn h1) (st2 : B.StaysIn h2) (nf : ∀ b ∈ fs, H' b = none) : HOk P w H' h2 := fun b u q =>
  (ok b u q).stay (fun d v hd e => by
    have hn : ∃ o, H' d = some o := by
      rcases hd with rfl | hd
      · exact ⟨_, q⟩
      · exact ⟨_, hd⟩
    have hf : d ∉ fs := fun z => by obtain ⟨o, ho⟩ := hn; rw [nf d z] at ho; cases ho
    obtain ⟨o', e'⟩ := c d hf (.inr hn)
    have := st1 d o' e'
    rw [e] at this; cases this
    exact st2 d v e') (fun _ r => r) fun _ _ r => r
theorem flying_data {B h : Heap} {l : List Env} {a : Addr} {cls a0 : Value} (fl : Heap.FlyingW B l a cls a0 h) : ∀ b ∈ frs l, ∃ o, h.get? b = some o ∧ ∀ vs, o.data ≠ .fields vs := fun b hb => (fl.2.2.1.mem hb).2

section
variable {P : Program} {w : World} {K : PySem.W.Frag} {mg : Str → Option Value} {base : Heap} {N : List Str} {qual : Str} {scope : Scope} {f : Addr} {cd : Value} {A : Around} {outer : List Env} {s₀ : Shared} {H₀ : Hp} {E : XK}
  {pins : List (Addr × Obj)} {σ : St} {H : Hp} {s : Shared}
/-- a new exception leaves the def in which it is raised -/
theorem raise_leaves {h' : Heap} {e C : Addr} {us : List Value} (I : Inv (cxOf (CX1 P w base) P w K mg base N qual scope f cd A outer s₀ H₀ E) pins σ H s) (hx : Heap.MadeExcOf s.heap h' e (.ref C) us) (hE : E (.ref C) none H) :
    (cxOf (CX1 P w base) P w K mg base N qual scope f cd A outer s₀ H₀ E).xe (.ref e) { s with heap := h' } := by
  have hst := I.stack
  have hfree := I.stkFree
  have hfr : ∀ b, b ∈ frs (envOfC qual scope s₀.heap.objs.size f cd :: outer) ↔ b = s₀.heap.objs.size ∨ b ∈ frs outer := fun b => by
    show b ∈ s₀.heap.objs.size :: frs outer ↔ _
    exact List.mem_cons
  have old : ∀ b o, s₀.heap.get? b = some o → b ≠ s₀.heap.objs.size := fun b o q => Nat.ne_of_lt (Heap.lt_size q)
  have hin : ∀ env ∈ (envOfC qual scope s₀.heap.objs.size f cd :: outer), ∀ b, env.frame = some b → b ∈ frs (envOfC qual scope s₀.heap.objs.size f cd :: outer) := fun env he b hb => List.mem_filterMap.mpr ⟨env, he, hb⟩
  have c0 : Ctx0 e h' := by
    obtain ⟨t, g, _⟩ := hx.there
    exact ⟨_, _, g, rfl, rfl, rfl⟩
  refine wpAny_mono (tame_any (a := e) (s := { s with heap := h' }) tame_leaving c0 (wpAny_leaves_madeW (E := fun _ _ => False) (Q := fun _ s2 => ∃ (h2 : Heap) (t : Addr), s2 = { s with heap := h2 } ∧ Heap.FlyingW (PySem.W.hideAll s.heap (frs (envOfC qual scope s₀.heap.objs.size f cd :: outer))) outer e (.ref C) (.ref t) h2 ∧ h2.TupAt t us ∧ (PySem.W.hideAll s.heap (frs (envOfC qual scope s₀.heap.objs.size f cd :: outer))).get? t = none ∧ h'.UpToSlots h2) (base := PySem.W.hideAll s.heap (frs (envOfC qual scope s₀.heap.objs.size f cd :: outer))) (h := s.heap) I.ok.frames rfl (fun b o q => PySem.W.of_hideAll _ q) (PySem.W.funFrames_hide hst hin) hx fun h2 t fl tup tn up => ⟨h2, t, rfl, fl, tup, tn, up⟩)) (fun _ s2 ⟨⟨h2, t, e2, fl, tup, tn, up⟩, c2⟩ => ?_) (fun _ _ z => z.1.elim)
  subst e2
  have keep : ∀ b o, b ∉ frs (envOfC qual scope s₀.heap.objs.size f cd :: outer) → s.heap.get? b = some o → h2.get? b = some o := fun b o hb q => fl.1 b o (PySem.W.hideAll_get _ q hb)
  have slots : ∀ b o, b ∈ frs (envOfC qual scope s₀.heap.objs.size f cd :: outer) → s.heap.get? b = some o → ∃ sl, h2.get? b = some { o with slots := sl } := fun b o hb q => by
    obtain ⟨_, o1, e1, hd⟩ := hst.mem hb
    rw [q] at e1; cases e1
    exact up b o (hx.keeps b o q) hd
  refine ⟨e, C, .ref t, H, _, rfl, I.os, I.bare, ⟨fun b o q n hb hx => ?_, fun b o q n hb hx => ?_, I.base.free, fun b o q hx => ?_, I.base.tups, I.base.frzs, I.base.tbls⟩, fun b u q => ?_, fl, fun b o q => ?_, fun b hb hh => ?_, fun b hb => hfree b ((hfr b).mpr (.inr hb)), c2, hE⟩
  · refine keep b o (fun z => ?_) (I.base.keep b o q n hb hx)
    rcases (hfr b).mp z with z | z
    · exact old b o q z
    · exact hb z
  · obtain ⟨sl, e1⟩ := I.base.slot b o q n hb hx
    obtain ⟨sl2, e2⟩ := slots b _ ((hfr b).mpr (.inr hb)) e1
    exact ⟨sl2, e2⟩
  · obtain ⟨o1, e1⟩ := I.base.there b o q hx
    by_cases z : b ∈ frs (envOfC qual scope s₀.heap.objs.size f cd :: outer)
    · obtain ⟨sl2, e2⟩ := slots b _ z e1
      exact ⟨_, e2⟩
    · exact ⟨_, keep b _ z e1⟩
  · refine (I.hok b u q).stay (fun d v hd r => keep d v (fun z => ?_) r) (fun _ r => r) fun _ _ r => r
    have hn : ∃ o, H d = some o := by
      rcases hd with rfl | hd
      · exact ⟨_, q⟩
      · exact ⟨_, hd⟩
    obtain ⟨o, ho⟩ := hn
    rw [hfree d z] at ho; cases ho
  · refine PySem.W.hideAll_get _ (I.bk b o q) fun z => ?_
    have := (hst.mem z).1
    have q' : base.get? b = some o := q
    rw [show (cxOf (CX1 P w base) P w K mg base N qual scope f cd A outer s₀ H₀ E).base = base from rfl] at this
    rw [q'] at this; cases this
  · have hs : (∃ o, s.heap.get? b = some o) ∧ b ≠ s₀.heap.objs.size := by
      rcases hh with ⟨o, ho⟩ | ⟨o, ho⟩
      · exact ⟨I.base.there b o ho (by intro z; cases z), old b o ho⟩
      · refine ⟨hok_there I.hok ho, fun z => ?_⟩
        have := I.free
        rw [z] at ho
        rw [show (cxOf (CX1 P w base) P w K mg base N qual scope f cd A outer s₀ H₀ E).env.locals = s₀.heap.objs.size from rfl] at this
        rw [this] at ho; cases ho
    obtain ⟨⟨o, ho⟩, hne⟩ := hs
    exact ⟨o, PySem.W.hideAll_get _ ho fun z => ((hfr b).mp z).elim hne hb⟩
/-- an exception of a callee leaves the caller too -/
theorem passes_on : Passes (CX1 P w base) (cxOf (CX1 P w base) P w K mg base N qual scope f cd A outer s₀ H₀ E) E := by
  intro pins σ H s e s' I h
  obtain ⟨a, C, a0, H', B, rfl, os, bare, un, hok, fl, st, cov, nf, c0, hE⟩ := h
  have hfr : ∀ b, b ∈ frs (envOfC qual scope s₀.heap.objs.size f cd :: outer) ↔ b = s₀.heap.objs.size ∨ b ∈ frs outer := fun b => by
    show b ∈ s₀.heap.objs.size :: frs outer ↔ _
    exact List.mem_cons
  have old : ∀ b o, s₀.heap.get? b = some o → b ≠ s₀.heap.objs.size := fun b o q => Nat.ne_of_lt (Heap.lt_size q)
  refine wpAny_mono (tame_any (a := a) (s := s') tame_leaving c0 (wpAny_leaves_onW (E := fun _ _ => False) (Q := fun _ s2 => ∃ h2 : Heap, s2 = { s' with heap := h2 } ∧ Heap.FlyingW B outer a (.ref C) a0 h2 ∧ s'.heap.UpToSlots h2) I.ok.frames rfl fl fun h2 fl2 up => ⟨h2, rfl, fl2, up⟩)) (fun _ s2 ⟨⟨h2, e2, fl2, up⟩, c2⟩ => ?_) (fun _ _ z => z.1.elim)
  subst e2
  have un2 := un_step un cov fl.1 fl2.1 up (flying_data fl)
  have I2 : Inv (cxOf (CX1 P w base) P w K mg base N qual scope f cd A outer s₀ H₀ E) pins σ H' { s' with heap := h2 } := I.call' (s' := { s' with heap := h2 }) os un2 (hok_step hok cov fl.1 fl2.1 nf) bare (fun b z => by cases z)
  refine ⟨a, C, a0, H', B, rfl, I2.os, I2.bare, I2.base, I2.hok, fl2, st, fun b hb hh => ?_, fun b hb => nf b ((hfr b).mpr (.inr hb)), c2, hE⟩
  have hne : b ≠ s₀.heap.objs.size := by
    rcases hh with ⟨o, ho⟩ | ⟨o, ho⟩
    · exact old b o ho
    · intro z
      have := nf b ((hfr b).mpr (.inl z))
      rw [this] at ho; cases ho
  refine cov b (fun z => ((hfr b).mp z).elim hne hb) ?_
  rcases hh with ⟨o, ho⟩ | hh
  · exact .inl (I.base.there b o ho (by intro z; cases z))
  · exact .inr hh
end
end L2

set_option Elab.async false
set_option linter.all false
set_option maxRecDepth 100000
namespace L2
open PySem PySem.Spec PyProof.Rows

/-! ### raise C(..) -/
abbrev bmV : List Value := [.type "ValueError", .type "Exception", .type "BaseException", .type "object"]
theorem exc_in {K : PySem.W.Frag} {h : Heap} {C : Addr} {bmB : List Value} {newId : String} (X : K.In h) (q : PySem.W.excIn K C bmB newId = true) :
    ∃ bm N nm qn bs hdct sn sub ab col dd k0 k1 k2 k3 k5 mN, h.get? C = some (excClassObj nm qn C N bs bm hdct sn sub ab col dd k0 k1 k2 k3 k5 newId) ∧ h.Ns N mN ∧ mN "__init__" = none ∧ OwnTail h bmB bm := by
  revert q
  unfold PySem.W.excIn
  split
  · rename_i d1 cdat slots hlook
    split
    · rename_i C1 tl1 z0 z1 z2 z3 nid z5 hmro hslots
      intro q
      rw [Bool.and_eq_true, Bool.and_eq_true, Bool.and_eq_true, Bool.and_eq_true, Bool.and_eq_true] at q
      obtain ⟨⟨⟨⟨⟨qa, qb⟩, qc⟩, qd⟩, qe⟩, qf⟩ := q
      have ea : C1 = C := by simpa using qa
      have eb : nid = newId := by simpa using qb
      have ec : cdat.hasDel = false := by simpa using qc
      have ef : PySem.W.nsIn K cdat.ns "__init__" = some none := by simpa using qf
      subst ea eb
      cases cdat with
      | mk nm bs mro ns qn hd sn sub ab col del =>
        simp only at hmro ec qe ef
        subst hmro ec
        cases slots with
        | mk sl =>
          simp only at hslots
          subst hslots
          exact ⟨tl1, ns, nm, qn, bs, hd, sn, sub, ab, col, d1, z0, z1, z2, z3, z5, _, X _ _ hlook, .of_isNs (PySem.W.isNs_of_in X qe), PySem.W.nsMap_none_of_in X qe ef, PySem.W.tail_of_in X qd⟩
    · intro q; cases q
  · intro q; cases q
def tRaise (C : Addr) (E : XK) (ta : TA) : TS := fun _ σ H => ta σ H fun vs H1 => vs.length ≤ sizeLine ∧ E (.ref C) none H1
section
variable {P : Program} {w : World} {K : PySem.W.Frag} {mg : Str → Option Value} {base : Heap} {N : List Str} {qual : Str} {scope : Scope} {f : Addr} {cd : Value} {A : Around} {outer : List Env} {s₀ : Shared} {H₀ : Hp} {E : XK}
/-- the context of a def that may raise -/
abbrev cxR (P : Program) (w : World) (K : PySem.W.Frag) (mg : Str → Option Value) (base : Heap) (N : List Str) (qual : Str) (scope : Scope) (f : Addr) (cd : Value) (A : Around) (outer : List Env) (s₀ : Shared) (H₀ : Hp) (E : XK) : Cx :=
  cxOf (CX1 P w base) P w K mg base N qual scope f cd A outer s₀ H₀ E
theorem ps_raise {x : Str} {np cpos pos : Pos} {e : Expr} {es : List Expr} {ta : TA} {C : Addr} (q : PySem.W.excIn K C bmV "ValueError.__new__" = true) (hm : mg x = some (.ref C)) (ha : PA (cxR P w K mg base N qual scope f cd A outer s₀ H₀ E) (e :: es) ta)
    (hg : Gl (cxR P w K mg base N qual scope f cd A outer s₀ H₀ E) x := by rfl) (he : notStar e = true := by rfl) (hpl : es.all notStar = true := by rfl) (hdb : (x == ("__debug__" : Str)) = false := by decide) :
    PS (cxR P w K mg base N qual scope f cd A outer s₀ H₀ E) (.Raise (some (.Call (.Name x np) (e :: es) [] cpos)) none pos) (tRaise C E ta) := by
  intro pins s σ H D I h
  obtain ⟨bm, Nn, nm, qn, bs, hdct, sn, sub, ab, col, dd, k0, k1, k2, k3, k5, mN, hC, hN, hni, T⟩ := exc_in (X := I.mod.kin) q
  have hh : (cxR P w K mg base N qual scope f cd A outer s₀ H₀ E).A.handled = none := I.ok.hd rfl
  have hall : (e :: es).all notStar = true := by rw [List.all_cons, he, hpl]; rfl
  refine wpAny_Raise_call_subU (nm := nm) (q := qn) (C := C) (N := Nn) (bs := bs) (hdct := hdct) (sn := sn) (sub := sub) (ab := ab) (col := col) (dd := dd) (k0 := k0) (k1 := k1) (k2 := k2) (k3 := k3) (k5 := k5) PySem.F.excBase_ValueError (by decide) PySem.F.excBase_ValueError (T.hasType (by decide)) hh (star_none hall) hni ?_
  refine ld_glob I hg hm ⟨rfl, ?_⟩ hdb
  have hA := ha cpos pins s σ H _ I h
  rw [star_cons he] at hA ⊢
  refine Calls.evalArgs_plain ?_
  refine thn hA fun us s2 ⟨vs, H2, I2, r2, hl, q2⟩ => ⟨rfl, ?_, I2.bk _ _ hC, hN.keeps I2.bk, T.keeps I2.bk, fun h' a hx => raise_leaves I2 hx q2⟩
  rw [← r2.length]; exact hl
end

/-! ### a def that may raise, and its contract -/
section
variable {P : Program} {w : World} {K : PySem.W.Frag} {mg : Str → Option Value} {base : Heap}
theorem Fun.okX {x qual : Str} {st : Stmt} {f : Addr} {fd : FuncData} {N ps : List Str} {k : Nat} {sp : Sp} (F : Fun K x qual st f fd) (S : FnScope N ps (defScope st)) (len : ∀ vs H Q E, sp vs H Q E → vs.length = ps.length)
    (hbody : ∀ (cdv : Value) (A : Around) (outer : List Env) (s : Shared) (H : Hp) (vs : List V) (Q : VK) (E : XK), Room k (A.deeper (envOfC qual (defScope st) s.heap.objs.size f cdv)) → sp vs H Q E →
      ∃ t, PSs (cxR P w K mg base N qual (defScope st) f cdv A outer s H E) (defBody st) t ∧ t { nx := fun _ H' => Q .non H', rt := Q } (start N vs) H) : FnOk P w K mg base (CX1 P w base) (k + 1) f fd ps sp := by
  obtain ⟨oc, od, kV, doc, pm, an, cdv, ct, osl, rfl, lk, hcd⟩ := F.ex
  exact fn_of lk hcd S len fun A outer s H vs Q E hr hsp => hbody cdv A outer s H vs Q E hr hsp
def KnowsX (P : Program) (w : World) (K : PySem.W.Frag) (mg : Str → Option Value) (base : Heap) (k : Nat) (x : Str) (ps : List Str) (sp : Sp) : Prop :=
  ∃ f fd, mg x = some (.ref f) ∧ PySem.W.keepIn K (.ref f) = true ∧ Binds K fd ps [] ∧ FnOk P w K mg base (CX1 P w base) k f fd ps sp
theorem Def.okX {x : Str} {st : Stmt} {N ps : List Str} {k : Nat} {sp : Sp} (D : Def K mg x st ps) (S : FnScope N ps (defScope st)) (len : ∀ vs H Q E, sp vs H Q E → vs.length = ps.length)
    (hbody : ∀ (f : Addr) (cdv : Value) (A : Around) (outer : List Env) (s : Shared) (H : Hp) (vs : List V) (Q : VK) (E : XK), Room k (A.deeper (envOfC x (defScope st) s.heap.objs.size f cdv)) → sp vs H Q E →
      ∃ t, PSs (cxR P w K mg base N x (defScope st) f cdv A outer s H E) (defBody st) t ∧ t { nx := fun _ H' => Q .non H', rt := Q } (start N vs) H) : KnowsX P w K mg base (k + 1) x ps sp := by
  obtain ⟨f, fd, F, hm, hb⟩ := D.ex
  exact ⟨f, fd, hm, F.kp, hb, F.okX S len fun cdv A outer s H vs Q E hr h => hbody f cdv A outer s H vs Q E hr h⟩
end
section
variable {X : Cx} {CX : CXT} {x m : Str} {ps : List Str} {sp : Sp} {j k : Nat} {e o : Expr} {es : List Expr} {ta : TE} {t : TA} {p pos apos : Pos} {E : XK} {C : Addr}
theorem pe_callX (F : KnowsX X.prog X.w X.K X.mg X.base j x ps sp) (hr : Room k X.A) (hx : Passes (CX1 X.prog X.w X.base) X E) (ha : PA X (e :: es) t) (hjk : j ≤ k := by decide) (hg : Gl X x := by rfl) (hdb : (x == ("__debug__" : Str)) = false := by decide)
    (he : notStar e = true := by rfl) (hpl : es.all notStar = true := by rfl) : PE X (.Call (.Name x p) (e :: es) [] pos) (tCall sp [] E t) := by
  obtain ⟨f, fd, hm, hk, hb, F⟩ := F
  exact pe_call F (hr.mono hjk) hg hm hk hb .nil hx ha hdb (star_cons he) (star_none hpl)
end
end L2

set_option Elab.async false
set_option linter.all false
set_option maxRecDepth 100000
namespace L2
open PySem PySem.Spec PyProof.Rows

/-! ### try: .. except NAME: .. -/
/-- within the try's suite: the pins that stood are borne by every state -/
abbrev Cx.inTry (X : Cx) (pn : List (Addr × Obj)) (xe : Value → Shared → Prop) : Cx := { X with pn := pn, xe := xe }
/-- within the except's suite -/
abbrev Cx.inExc (X : Cx) (a : Addr) : Cx := { X with A := X.A.mark (some (.ref a)), calm := false }
section
variable {X : Cx} {pins : List (Addr × Obj)} {σ : St} {H : Hp} {s : Shared} {xe : Value → Shared → Prop} {a : Addr}
theorem Inv.inTry (I : Inv X pins σ H s) (xe : Value → Shared → Prop) : Inv (X.inTry (X.pn ++ pins) xe) [] σ H s :=
  ⟨⟨I.ok.mod, I.ok.kind, I.ok.glob, I.ok.blt, I.ok.above, I.ok.inj, I.ok.has, I.ok.cab, I.ok.hd, I.ok.frames, I.ok.stk, I.ok.exf, I.ok.bs, I.ok.bsz, I.ok.noex, I.ok.exfs, I.ok.funs, I.ok.frf⟩,
    I.os, I.bare, I.base, I.loc, I.cell, I.free, I.freeC, fun p hp => I.pin p (by simpa using hp), I.hok, I.len⟩
theorem Inv.outTry {pins' : List (Addr × Obj)} (I : Inv (X.inTry (X.pn ++ pins) xe) pins' σ H s) : Inv X pins σ H s :=
  ⟨⟨I.ok.mod, I.ok.kind, I.ok.glob, I.ok.blt, I.ok.above, I.ok.inj, I.ok.has, I.ok.cab, I.ok.hd, I.ok.frames, I.ok.stk, I.ok.exf, I.ok.bs, I.ok.bsz, I.ok.noex, I.ok.exfs, I.ok.funs, I.ok.frf⟩,
    I.os, I.bare, I.base, I.loc, I.cell, I.free, I.freeC, fun p hp => I.pin p (List.mem_append_left _ hp), I.hok, I.len⟩
theorem Inv.inExc (I : Inv X pins σ H s) (a : Addr) : Inv (X.inExc a) pins σ H s :=
  ⟨⟨I.ok.mod, I.ok.kind, I.ok.glob, I.ok.blt, I.ok.above, I.ok.inj, I.ok.has, I.ok.cab, (fun z => by cases z), I.ok.frames, I.ok.stk, I.ok.exf, I.ok.bs, I.ok.bsz, I.ok.noex, I.ok.exfs, I.ok.funs, I.ok.frf⟩,
    I.os, I.bare, I.base, I.loc, I.cell, I.free, I.freeC, I.pin, I.hok, I.len⟩
theorem SP.outTry {D : Ends} {f : Flow} {s' : Shared} (h : SP (X.inTry (X.pn ++ pins) xe) [] D f s') : SP X pins D f s' := by
  cases f with
  | next => obtain ⟨σ', H', I, q⟩ := h; exact ⟨σ', H', I.outTry, q⟩
  | brk => obtain ⟨σ', H', I, q⟩ := h; exact ⟨σ', H', I.outTry, q⟩
  | cont => obtain ⟨σ', H', I, q⟩ := h; exact ⟨σ', H', I.outTry, q⟩
  | ret u => obtain ⟨v, σ', H', I, r, q⟩ := h; exact ⟨v, σ', H', I.outTry, r, q⟩
end
/-- the exceptions of the suite's calls, by the names' values at the call -/
abbrev Lands (X : Cx) (Eb : St → XK) : Prop := ∀ (pins : List (Addr × Obj)) (σ : St) (H : Hp) (s : Shared) (e : Value) (s' : Shared), Inv X pins σ H s → CX1 X.prog X.w X.base X.stack H s (Eb σ) e s' → X.xe e s'
section
variable {X : Cx} {x : Str} {np hpos pos : Pos} {body : List Stmt} {b₀ : Stmt} {suite : List Stmt} {Dc : Addr} {tb : (St → XK) → TS} {ts : TS}
end
end L2

set_option Elab.async false
set_option linter.all false
set_option maxRecDepth 100000
namespace L2
open PySem PySem.Spec PyProof.Rows

/-! ### calls within a try's suite -/
section
variable {X : Cx} {k j : Nat} {f C : Addr} {fd : FuncData} {ps : List Str} {sp : Sp} {Eb : St → XK} {x m : Str} {p pos apos : Pos} {e o : Expr} {es : List Expr} {ta : TE} {t : TA}
theorem run_fnS {pins : List (Addr × Obj)} {σ : St} {H : Hp} {s : Shared} {Q : VK} {us : List Value} {vs : List V} (F : FnOk X.prog X.w X.K X.mg X.base (CX1 X.prog X.w X.base) k f fd ps sp) (hr : Room k X.A) (hb : Binds X.K fd ps []) (hx : Lands X Eb)
    (I : Inv X pins σ H s) (r : Vals vs us) (h : sp vs H Q (Eb σ)) : wpAny (model X.prog X.w) X.A (call (.ref f) us) (EP X pins σ Q) X.xe s := by
  have hl : us.length = ps.length := by rw [← r.length]; exact F.len _ _ _ _ h
  have hbind := hb s us I.kIn (by rw [List.append_nil]; exact hl)
  rw [List.append_nil] at hbind
  refine wpAny_call (codeAny_mono (F.run X.A X.stack s H ⟨us, []⟩ us vs Q (Eb σ) hr I.env0 hbind r h) fun res s' hq => ?_)
  cases res with
  | error e => exact hx pins σ H s e s' I hq
  | ok fl =>
    cases fl with
    | ret u => exact I.after hq
    | next => exact False.elim hq
    | brk => exact False.elim hq
    | cont => exact False.elim hq
def tCallS (sp : Sp) (Eb : St → XK) (t : TA) : TE := fun σ H Q => t σ H fun vs H1 => sp vs H1 Q (Eb σ)
theorem pe_callS (F : KnowsX X.prog X.w X.K X.mg X.base j x ps sp) (hr : Room k X.A) (hx : Lands X Eb) (ha : PA X (e :: es) t) (hjk : j ≤ k := by decide) (hg : Gl X x := by rfl) (hdb : (x == ("__debug__" : Str)) = false := by decide)
    (he : notStar e = true := by rfl) (hpl : es.all notStar = true := by rfl) : PE X (.Call (.Name x p) (e :: es) [] pos) (tCallS sp Eb t) := by
  obtain ⟨f, fd, hm, hk, hb, F⟩ := F
  intro pins s σ H Q I h
  refine wpAny_Call_Name_kw (ld_glob I hg hm ?_ hdb)
  refine PySem.W.callWith_K (h₀ := X.base) I.ok.mod.kin hk (thn (ha pos pins s σ H _ I h) fun us s1 ⟨vs, H1, I1, r, q⟩ => ⟨I1.kIn, ?_⟩) (star_cons he) (star_none hpl)
  exact run_fnS F (hr.mono hjk) hb hx I1 r q
end
end L2

set_option Elab.async false
set_option linter.all false
set_option maxRecDepth 100000
namespace L2
open PySem PySem.Spec PyProof.Rows

/-! ### for k, x in enumerate(xs) -/
end L2

set_option Elab.async false
set_option linter.all false
set_option maxRecDepth 100000
namespace L2
open PySem PySem.Spec PyProof.Rows
open PySem.AutoSeq1 (wpAny_loadPart')
open PySem.MeetsSeq

/-! ### in, not in, != of data -/
section
variable {X : Cx}
/-! ### xs.insert(i, y), xs.remove(y), a ** n -/
end
end L2

set_option Elab.async false
set_option linter.all false
set_option maxRecDepth 100000
namespace L2
open PySem PySem.Spec PyProof.Rows
section
variable {X : Cx} {pos : Pos}
end

/-! ### the law's head, with the size of the script's ints -/
theorem weight_all {ns : List Int} : ∀ v ∈ ns, (PySem.W.WData.weight (.int v)) ≤ PySem.W.WData.weightAll (ns.map .int) := by
  intro v hv
  induction ns with
  | nil => cases hv
  | cons n r ih =>
    have e : PySem.W.WData.weightAll ((n :: r).map PySem.W.WData.int) = PySem.W.WData.weight (.int n) + 1 + PySem.W.WData.weightAll (r.map .int) := by
      rw [List.map_cons, PySem.W.WData.weightAll]
    rw [e]
    rcases List.mem_cons.mp hv with rfl | hv
    · omega
    · have := ih hv
      omega
end L2

set_option Elab.async false
set_option linter.all false
set_option maxRecDepth 100000
namespace Att
open PySem PySem.W PySem.Calls PyProof.Rows L2
theorem small_of {ns : List Int} (h : WData.layableAll [WData.list (ns.map WData.int)] = true) : ∀ v ∈ ns, Builtin.Int.intBits v ≤ 1048576 := by
  intro v hv
  unfold WData.layableAll at h
  rw [List.all_cons, Bool.and_eq_true] at h
  have h1 := h.1
  unfold WData.layable at h1
  rw [Bool.and_eq_true] at h1
  have h2 := of_decide_eq_true h1.2
  have e : WData.weight (WData.list (ns.map WData.int)) = WData.weightAll (ns.map WData.int) := by rw [WData.weight]
  rw [e] at h2
  have h3 := weight_all v hv
  have e2 : WData.weight (.int v) = Builtin.Int.intBits v := by
    rw [WData.weight]
    rfl
  rw [e2] at h3
  have : (2 : Nat) ^ 20 = 1048576 := by decide
  omega
theorem attach_callW {l : OpenLaw} {n : Nat} {q : Program} {loose : List Str} {XP : (Str → Option Value) → Heap → Prop} {YP : World → Heap → Prop} {d : DefRec}
    (hn : l.most = some n) (hdf : d.params.defaults = [])
    (call : ∀ (w : World) (s₀ s₁ : Shared) (mg mb : Str → Option Value) (fa : Addr) (o : Obj) (pm cd doc : Value) (a : Addr) (vs : List Value) (ns : List Int),
      Ground q loose [] XP w s₀ mg mb s₁.heap → YP w s₁.heap →
      s₁.heap.get? fa = some o → o.data = .func (docDef d.name d.params d.body d.scope pm cd doc) → s₁.heap.CodeRec cd d.name → mg d.name = some (.ref fa) →
      s₁.heap.get? a = some { cls := .type "list", data := .seq vs.toArray } → IntsAre vs ns → ns.length ≤ n → (∀ v ∈ ns, Builtin.Int.intBits v ≤ 1048576) → s₁.gens = #[] →
      codeAny (model l.prog w) callerA (.call (.ref fa) ⟨[.ref a], []⟩) (fun r s' => r = .ok (.ret (.bool true)) ∧ OldK s₁.heap s'.heap ∧ s'.os = s₁.os ∧ AllBare s'.gens) s₁) :
    WalkO q loose XP YP l.row.toRowW d [] (fun f vs => PySem.call f vs) := by
  intro w s₀ s₁ mg mb G Y fa o pm cd doc dV kV ho hd hcd hD hmg hg args vals as hpre hlay hrd hwl hlo
  obtain rfl : dV = .none := Dflts.none hD hdf
  obtain rfl : kV = .none := Dflts.noKw hD
  obtain ⟨a, vs, ns, rfl, rfl, hobj, hints, hlen⟩ := script_of hn hpre hwl
  refine enter_call (codeAny_mono (call w s₀ s₁ mg mb fa o pm cd doc a vs ns G Y ho (fd_plain hd) hcd hmg hobj hints hlen (small_of hlay) hg) fun r s' hq => ?_)
  obtain ⟨rfl, h2, h3, h4⟩ := hq
  exact ⟨.inl ⟨.bool true, .bool true, [], rfl, fun _ => rfl, .bool true, post_true l _, fun _ => ⟨List.Pairwise.nil, fun _ hm => (nomatch hm)⟩⟩, h2, h3, h4⟩
end Att
namespace L2
open PySem PySem.Spec PyProof.Rows
theorem walk_ofW {l : PySem.W.OpenLaw} {n k : Nat} {q : Program} {loose : List Str} {XP : (Str → Option Value) → Heap → Prop} {YP : World → Heap → Prop} {d : DefRec} {K : Params → PySem.W.Frag} {CX : World → CXT} {sp : World → Sp} {x : Str}
    (hn : l.most = some n) (hn2 : n ≤ sizeLine) (hdf : d.params.defaults = []) (hr : Room k callerA)
    (hY : ∀ (w : World) (h : Heap), YP w h → (K w.params).In h)
    (F : ∀ (w : World) (mg : Str → Option Value) (fa : Addr) (h : Heap), (K w.params).In h → h.Ns mainGlobals mg → mg d.name = some (.ref fa) →
      ∃ fd : FuncData, (∀ (s : Shared) (u : Value), BindsTo s fd ⟨[u], []⟩ [(x, u)]) ∧
        ∀ base : Heap, (K w.params).In base → base.Ns mainGlobals mg → FnOk l.prog w (K w.params) mg base (CX w) k fa fd [x] (sp w))
    (hsp : ∀ (w : World) (H : Hp) (a : Addr) (ns : List Int), ns.length ≤ n → (∀ v ∈ ns, Builtin.Int.intBits v ≤ 1048576) → Only H → SqL (K w.params) H a (ns.map V.int) → sp w [.ref a] H (fun v _ => v = .bl true) fun _ _ _ => False)
    (hCX : ∀ (w : World) (H : Hp) (s : Shared) (e : Value) (s' : Shared), CX w [] H s (fun _ _ _ => False) e s' → False) :
    PySem.W.WalkO q loose XP YP l.row.toRowW d [] (fun f vs => PySem.call f vs) := by
  refine Att.attach_callW hn hdf fun w s₀ s₁ mg mb fa o pm cd doc a vs ns G Y ho hd hcd hmg hobj hints hlen hsm hg => ?_
  have KX := hY w _ Y
  obtain ⟨fd, hb, hF⟩ := F w mg fa _ KX G.T.g hmg
  exact law_call KX G.T.g G.T.b G.T.builtins G.T.nolimit hg hobj hints (Nat.le_trans hlen hn2) hr hF hb (fun H hO hS => hsp w H a ns hlen hsm hO hS) fun H e s' => hCX w H s₁ e s'
end L2

set_option Elab.async false
set_option linter.all false
set_option maxRecDepth 100000
namespace L2
open PySem PySem.Spec PyProof.Rows
section
variable {X : Cx} {CX : CXT} {x : Str} {ps : List Str} {sp : Sp} {j k : Nat} {e : Expr} {es : List Expr} {t : TA} {p pos : Pos} {E : XK} {C : Addr}
end
end L2

set_option Elab.async false
set_option linter.all false
set_option maxRecDepth 100000
namespace L2
open PySem PySem.Spec PyProof.Rows
theorem def_mk {K : PySem.W.Frag} {h : Heap} {mg : Str → Option Value} (X : K.In h) (G : h.Ns mainGlobals mg) {x : Str} {st : Stmt} {ps : List Str} {f : Addr} {oc : Value} {od an : Option Addr} {osl : Array (Option Value)} {kV doc pm cdv ct : Value}
    (a : PySem.W.nsIn K mainGlobals x = some (some (.ref f))) (l : K.lookup f = some ⟨oc, od, .func (PySem.W.fnOf x x (defArgs st) (defBody st) (defScope st) .none kV doc pm an cdv ct), osl⟩) (c : PySem.W.codeIn K cdv x = true) (k : PySem.W.keepIn K (.ref f) = true)
    (b : ∀ (kV doc pm : Value) (an : Option Addr) (cdv ct : Value) (us : List Value), us.length = ps.length → bindArgs (PySem.W.fnOf x x (defArgs st) (defBody st) (defScope st) .none kV doc pm an cdv ct) ⟨us, []⟩ = pure (ps.zip us)) : Def K mg x st ps :=
  ⟨⟨_, _, fun_mk l c k, PySem.W.mg_of X G a, (fun_mk l c k).binds b⟩⟩
section
variable {P : Program} {w : World} {K : PySem.W.Frag} {mg : Str → Option Value} {base : Heap} {C : Addr}
end
end L2

set_option Elab.async false
set_option linter.all false
set_option maxRecDepth 100000
namespace L2
open PySem PySem.Spec PyProof.Rows
section
variable {X : Cx}
end
end L2

set_option Elab.async false
set_option linter.all false
set_option maxRecDepth 100000
namespace L2
open PySem PySem.Spec PyProof.Rows
set_option maxHeartbeats 1000000 in
/-- what is known of the block's own dict at its end -/
structure CEnd (X : Cx) (pins : List (Addr × Obj)) (H : Hp) (C : Addr) : Prop where
  no : H C = none
  ne : C ≠ X.env.locals
  new : X.s₀.heap.objs.size ≤ C
  cl : ∀ x c, X.env.cells.lookup x = some c → c ≠ C
  pn : ∀ p ∈ X.pn ++ pins, p.1 ≠ C
set_option maxHeartbeats 1000000 in
theorem comp_gen {X : Cx} {elt iter tg : Expr} {pos ppos : Pos} {ifs : List Expr} {scope : Scope} {wi : TI} {g : TG} {tc : TT} {te : TE} {use : Option (Value → Sem Unit)} {Qf : Value → Shared → Prop} (own : List Str) (js : List Nat) (N' : List Str) (hc : X.calm = true)
    (hi : PI X tg iter wi)
    (hg : ∀ C s₀ H₀ ex, PG (cxComp X scope N' C s₀ H₀ ex) tg g)
    (ht : ∀ C s₀ H₀ ex, PTs (cxComp X scope N' C s₀ H₀ ex) ifs tc)
    (he : ∀ C s₀ H₀ ex, PE (cxComp X scope N' C s₀ H₀ ex) elt te)
    (hN' : N' = own ++ js.map fun j => X.N.getD j Str.empty)
    (hk : scope.kind = .function)
    (hcell : ∀ y ∈ scope.names, y.2 ≠ .cell)
    (hnames : ∀ y ∈ scope.names, y.2 = .local → scope.names.lookup y.1 = some .local)
    (hfr : (scope.names.all fun y => y.2 != .free || X.env.scope.names.lookup y.1 == some .cell) = true)
    (hjs : (js.all fun j => scope.names.lookup (X.N.getD j Str.empty) == some .free && (X.N[j]?).isSome) = true)
    (hs : ∀ z, foldedSetIterable iter X.env z = pure z)
    {pins : List (Addr × Obj)} {s : Shared} {σ : St} {H : Hp} {Q : VK} (I : Inv X pins σ H s) (h : tComp own.length js wi g tc te σ H Q)
    (fin : ∀ (D C : Addr) (H' : Hp) (s4 : Shared) (m : Str → Option Value), Inv X pins σ H' s4 → Q (.ref D) H' → s4.heap.Ns C m → CEnd X pins H' C → compPost (model X.prog X.w) X.A X.xe use Qf (.ref D) C (.ok .next) s4) :
    wpAny (model X.prog X.w) X.A (comprehension (.ListComp elt [⟨tg, iter, ifs, 0⟩] scope pos) scope X.env ppos (newList []) false (eval iter X.env) use) Qf X.xe s := by
  have free_cell : ∀ y ∈ scope.names, y.2 = .free → X.env.kindOf y.1 = some .cell := fun y hy hf => by
    have := List.all_eq_true.mp hfr y hy
    rw [hf] at this
    simp at this
    exact this
  have hcl : ∀ y ∈ scope.names, y.2 = .free → ∃ c, X.env.cells.lookup y.1 = some c := fun y hy hf => I.ok.has y.1 (.inl (free_cell y hy hf))
  refine wpAny_comprehension_free (use := use) rfl hs (closureFor_eq hcl) hk hnames ?_
  refine thn (hi pins s σ H _ I h) fun v s1 h1 => thn h1 fun itv s2 h2 => ?_
  obtain ⟨it, fp, tn, J, H2, e, I2, T, st2, f2, W, ⟨m0, w0⟩, turn⟩ := h2
  subst e
  refine wpAny_newObj_type (wpAny_newFunctionEnv hcell (by intro y hy; simp at hy) (fun h₁ hns₁ hsb₁ => ?_) hk)
  dsimp only at hns₁ hsb₁ ⊢
  generalize hG : s2.heap.push { cls := .type "list", dict := none, data := .seq ([] : List Value).toArray } = G at hns₁ hsb₁ ⊢
  have hC : G.objs.size = s2.heap.objs.size + 1 := by rw [← hG, Heap.size_push]
  have hDC : s2.heap.objs.size ≠ G.objs.size := by rw [hC]; exact Nat.ne_of_lt (Nat.lt_succ_self _)
  have below : ∀ b, b < s2.heap.objs.size → b ≠ G.objs.size ∧ b ≠ s2.heap.objs.size := fun b hb => ⟨by rw [hC]; exact Nat.ne_of_lt (Nat.lt_succ_of_lt hb), Nat.ne_of_lt hb⟩
  have old : ∀ b o, s2.heap.get? b = some o → h₁.get? b = some o := fun b o e => hsb₁.extBut b o (below b (Heap.lt_size e)).1 (Heap.get?_push_of_some _ (hG ▸ Heap.get?_push_of_some _ e))
  have hacc : h₁.get? s2.heap.objs.size = some { cls := .type "list", data := .seq ([] : List Value).toArray 0 } := hsb₁.extBut _ _ hDC (Heap.get?_push_of_some _ (hG ▸ Heap.get?_push_size _ rfl))
  have fplt : ∀ b ∈ fp, b < s2.heap.objs.size := fun b hb => let ⟨_, e, _⟩ := T.obj _ _ st2 b hb; Heap.lt_size e
  have ok' : (cxComp X scope N' G.objs.size s2 H2 fp).Ok := by
    refine ⟨I2.ok.mod, hk, I2.ok.glob, I2.ok.blt, by show s2.heap.objs.size ≤ G.objs.size; rw [hC]; exact Nat.le_succ _, fun x y c e1 e2 => I2.ok.inj x y c (lookup_closOf hcl e1) (lookup_closOf hcl e2), fun x hx => ?_,
      fun x c hx _ => (nomatch hx), I2.ok.hd, I2.ok.frames, .inl rfl, fun b hb => ⟨(below b (fplt b hb)).1, fun x c e => (f2 b hb).2.2.2.2.1 x c (lookup_closOf hcl e)⟩, I2.bs, Nat.le_trans I2.ok.bsz I2.sz, fun b o e hb => ?_, fun b hb z => ?_, I2.stack, I2.stkFree⟩
    · have hx' : (relabel scope X.env).names.lookup x = some .cell ∨ (relabel scope X.env).names.lookup x = some .free := hx
      have : (x, NameKind.free) ∈ scope.names ∨ (x, NameKind.cell) ∈ scope.names := by
        rcases hx' with z | z
        · exact relabel_back z (.inl rfl)
        · exact relabel_back z (.inr rfl)
      rcases this with z | z
      · exact has_closOf z
      · exact absurd rfl (hcell _ z)
    · rcases (f2 b hb).2.2.2.1 with z | z
      · exact I2.ok.noex b o e z
      · have h1 : b < X.base.objs.size := Heap.lt_size e
        exact absurd (Nat.lt_of_lt_of_le h1 (Nat.le_trans I2.ok.bsz z)) (Nat.lt_irrefl _)
    · rcases List.mem_cons.mp (I2.stkSub b z) with e | e
      · exact (f2 b hb).2.1 e
      · exact (f2 b hb).2.2.1 e
  have kindCap : ∀ i y, (js.map fun j => X.N.getD j Str.empty)[i]? = some y → ∃ j, js[i]? = some j ∧ X.N[j]? = some y ∧ scope.names.lookup y = some .free := fun i y e => by
    rw [List.getElem?_map] at e
    cases q : js[i]? with
    | none => rw [q] at e; cases e
    | some j =>
      rw [q] at e
      have e' : X.N.getD j Str.empty = y := Option.some.inj e
      have hj := List.all_eq_true.mp hjs j (List.mem_of_getElem? q)
      rw [Bool.and_eq_true] at hj
      obtain ⟨hj1, hj2⟩ := hj
      rw [e'] at hj1
      obtain ⟨z, hz⟩ := Option.isSome_iff_exists.mp hj2
      rw [List.getD_eq_getElem?_getD, hz] at e'
      exact ⟨j, q, by rw [hz]; exact congrArg some e', by simpa using hj1⟩
  have I0 : ∀ tk : Nat, Inv (cxComp X scope N' G.objs.size s2 H2 fp) [(s2.heap.objs.size, { cls := .type "list", data := .seq ([] : List Value).toArray 0 })] (List.replicate own.length none ++ caps σ js) H2 { s2 with heap := h₁, toks := tk } := fun tk => by
    refine ⟨ok', rfl, I2.bare, Un.kept old, ⟨_, hns₁, fun i y v e1 e2 e3 => ?_⟩, fun x c e => ?_, I2.hok.fresh (by show s2.heap.objs.size ≤ G.objs.size; rw [hC]; exact Nat.le_succ _), fun x c e => I2.freeC x c (lookup_closOf hcl e), fun p hp => ?_, I2.hok.kept old, ?_⟩
    · by_cases hlt : i < own.length
      · rw [List.getElem?_append_left (by simpa using hlt), List.getElem?_replicate] at e2
        split at e2 <;> cases e2
      · have e1' : N'[i]? = some y := e1
        rw [hN', List.getElem?_append_right (by omega)] at e1'
        rw [List.getElem?_append_right (by simpa using hlt), List.length_replicate] at e2
        obtain ⟨j, hj, hs2⟩ := caps_get e2
        obtain ⟨j', hj', hN, hfree⟩ := kindCap _ _ e1'
        rw [hj] at hj'; cases hj'
        obtain ⟨m, hm, hl⟩ := I2.loc
        have hcell' : X.env.kindOf y = some .cell := free_cell (y, .free) (PySem.mem_of_lookup hfree) rfl
        obtain ⟨u, r, l⟩ := hl j y v hN hs2 (.inr (.inl hcell'))
        refine ⟨u, r, ?_⟩
        rcases l with ⟨hk', _⟩ | ⟨hk', c, hc', z⟩
        · rw [hcell'] at hk'; cases hk'
        · obtain ⟨c', e'⟩ := has_closOf (env := X.env) (PySem.mem_of_lookup hfree)
          have := lookup_closOf hcl e'
          rw [hc'] at this; cases this
          refine .inr ⟨.inl (lookup_relabel_free I2.ok.kind hfree hcell'), c, e', ?_⟩
          obtain ⟨o, ho, hd⟩ := z
          exact ⟨o, old _ _ ho, hd⟩
    · obtain ⟨v, o, ho, hd⟩ := I2.cell x c (lookup_closOf hcl e)
      exact ⟨v, o, old _ _ ho, hd⟩
    · have hp' : p = (s2.heap.objs.size, { cls := .type "list", data := .seq ([] : List Value).toArray 0 }) := by
        rcases List.mem_append.mp hp with z | z
        · exact absurd (show p ∈ ([] : List (Addr × Obj)) from z) (by simp)
        · simpa using z
      subst hp'
      refine ⟨hacc, I2.hok.fresh (Nat.le_refl _), hDC, fun z => ?_, fun v z => by cases z⟩
      exact absurd (show s2.heap.objs.size ∈ frs X.stack from z) fun z => by
        rcases List.mem_cons.mp (I2.stkSub _ z) with e | e
        · have := I2.lt
          rw [← e] at this
          exact Nat.lt_irrefl _ this
        · exact I2.nofs (Nat.le_refl _) e
    · show _ = N'.length
      rw [hN']
      simp [caps]
  have stat : ∀ {H' : Hp} {ob : Obj}, (∀ b ∈ fp, H' b = none) → ∀ b ∈ fp, FpOk (cxComp X scope N' G.objs.size s2 H2 fp) [(s2.heap.objs.size, ob)] H' b := fun {H' ob} hn b hb =>
    ⟨hn b hb, (below b (fplt b hb)).1, fun z => ok'.exfs b hb z, .inl hb, fun x c e => (f2 b hb).2.2.2.2.1 x c (lookup_closOf hcl e), fun p hp => by
      have hp' : p = (s2.heap.objs.size, ob) := by
        rcases List.mem_append.mp hp with z | z
        · exact absurd (show p ∈ ([] : List (Addr × Obj)) from z) (by simp)
        · simpa using z
      subst hp'
      exact Ne.symm (below b (fplt b hb)).2⟩
  have loop : ∀ s₃ : Shared, s₃ = { s2 with heap := h₁, toks := s2.toks + ([] : List (Str × Value)).length } →
      codeAny (model X.prog X.w) X.A (.compLoop (.ListComp elt [⟨tg, iter, ifs, 0⟩] scope pos) 0 (.ref it) (.ref s2.heap.objs.size) (compEnvC scope (closOf scope X.env) G.objs.size X.env))
        (compPost (model X.prog X.w) X.A X.xe use Qf (.ref s2.heap.objs.size) G.objs.size) s₃ := by
    rintro s₃ rfl
    refine comp_loop (fun n s' => ∃ (i : Nat) (os : St) (H' : Hp) (ys : List V) (its : List Value) (k : Nat), os.length = own.length ∧
      Inv (cxComp X scope N' G.objs.size s2 H2 fp) [(s2.heap.objs.size, { cls := .type "list", data := .seq its.toArray k })] (os ++ caps σ js) H' s' ∧ tn i s'.heap ∧ (∀ b ∈ fp, H' b = none) ∧ Vals ys its ∧ W i n ys H') ?_ m0
      ⟨0, _, H2, [], [], 0, by simp, I0 _, T.keep _ _ _ st2 fun b _ o e => old b o e, fun b hb => (f2 b hb).1, .nil, w0⟩
    rintro n s3 ⟨i, os, H3, ys, its, k, hos, I3, st3, fr3, rv3, w3⟩
    have pinD : ∀ {σ' : St} {H' : Hp} {s' : Shared}, Inv (cxComp X scope N' G.objs.size s2 H2 fp) [(s2.heap.objs.size, { cls := .type "list", data := .seq its.toArray k })] σ' H' s' → s'.heap.get? s2.heap.objs.size = some { cls := .type "list", data := .seq its.toArray k } ∧ H' s2.heap.objs.size = none :=
      fun I => let q := I.pin (s2.heap.objs.size, { cls := .type "list", data := .seq its.toArray k }) (List.mem_append_right _ (by simp)); ⟨q.1, q.2.1⟩
    rcases turn i n ys H3 w3 with ⟨stop, hz, qn⟩ | ⟨go, hz, step⟩
    · refine thn (T.done (cxComp X scope N' G.objs.size s2 H2 fp) rfl rfl rfl hc i _ s3 _ H3 _ I3 (stat fr3) st3 stop) fun r s4 ⟨hr, I4⟩ => ?_
      subst hr
      obtain ⟨hD4, hn4⟩ := pinD I4
      obtain ⟨m, hm, _⟩ := I4.loc
      have hsb : Heap.SameBut G.objs.size s4.heap s4.heap := ⟨rfl, fun _ _ => rfl⟩
      have b4 := I4.base
      have nC : ∀ b o, s2.heap.get? b = some o → b ≠ G.objs.size := fun b o e => (below b (Heap.lt_size e)).1
      have nD : ∀ b o, s2.heap.get? b = some o → b ≠ s2.heap.objs.size := fun b o e => (below b (Heap.lt_size e)).2
      have hok' : HOk X.prog X.w H3 s4.heap := fun b ob e => by
        refine (I4.hok b ob e).stay (fun c w' hc' q => (hsb.2 c ?_).trans q) (fun _ q => q) fun _ _ q => q
        rintro rfl
        rcases hc' with hc' | hc'
        · rw [← hc', show H3 G.objs.size = none from I4.free] at e; cases e
        · rw [show H3 G.objs.size = none from I4.free] at hc'; cases hc'
      have hD' : s4.heap.get? s2.heap.objs.size = some { cls := .type "list", data := .seq its.toArray k } := (hsb.2 _ hDC).trans hD4
      have hCn : H3 G.objs.size = none := I4.free
      have hC2 : s2.heap.objs.size ≤ G.objs.size := by rw [hC]; exact Nat.le_succ _
      refine fin s2.heap.objs.size G.objs.size (upd H3 s2.heap.objs.size (.lst ys)) s4 m ?_ (qn _ hn4) hm ⟨by rw [upd_ne (Ne.symm hDC)]; exact hCn, fun z => ?_, Nat.le_trans I2.sz hC2, fun x c e z => ?_, fun p hp z => ?_⟩
      rotate_left
      · have h9 := I2.lt
        rw [← z] at h9
        exact Nat.lt_irrefl _ (Nat.lt_of_lt_of_le h9 hC2)
      · obtain ⟨v, o, ho, _⟩ := I2.cell x c e
        have h9 := Heap.lt_size ho
        rw [z] at h9
        exact Nat.lt_irrefl _ (Nat.lt_of_lt_of_le h9 hC2)
      · have h9 := Heap.lt_size (I2.pin p hp).1
        rw [z] at h9
        exact Nat.lt_irrefl _ (Nat.lt_of_lt_of_le h9 hC2)
      refine I2.call' (ch := fp) I4.os ⟨fun b o e n hb hx => ?_, fun b o e n hb hx => ?_, fun b o e n hx => ?_, fun b o e hx => ?_, fun b xs q => ?_, fun b o u q => ?_, fun b ps q => ?_⟩ (hok'.track hn4 ⟨hz, its, k, rv3, hD'⟩) I4.bare fun b hb => ⟨(f2 b hb).2.2.2.1, (f2 b hb).2.1, (f2 b hb).2.2.2.2.1, (f2 b hb).2.2.2.2.2⟩
      · exact (hsb.2 b (nC b o e)).trans (b4.keep b o e n hb hx)
      · obtain ⟨sl, e1⟩ := b4.slot b o e n hb hx
        exact ⟨sl, (hsb.2 b (nC b o e)).trans e1⟩
      · rw [upd_ne (nD b o e)]; exact b4.free b o e n hx
      · obtain ⟨o', e1⟩ := b4.there b o e hx
        exact ⟨o', (hsb.2 b (nC b o e)).trans e1⟩
      · have z := b4.tups b xs q
        rw [upd_ne (ne_of_none z hn4)]; exact z
      · have z := b4.frzs b o u q
        rw [upd_ne (ne_of_none z hn4)]; exact z
      · obtain ⟨more, z⟩ := b4.tbls b ps q
        exact ⟨more, by rw [upd_ne (ne_of_none z hn4)]; exact z⟩
    · refine thn (T.item (cxComp X scope N' G.objs.size s2 H2 fp) rfl rfl rfl hc i _ s3 _ H3 _ I3 (stat fr3) st3 go) fun r s4 ⟨u, hr, h4⟩ => ?_
      subst hr
      refine thn h4 fun _ s5 ⟨x, H5, I5, r5, y5, st5, fr5⟩ => ?_
      have fpo := T.obj _ _ st5
      have I5' := I5.pinned (stat fr5) fpo
      refine wpAny_mono (hg _ _ _ _ _ s5 _ H5 x u _ I5' r5 (step x H5 y5 os hos)) (fun _ s6 ⟨σ6, H6, I6, ⟨os', hos', e6⟩, q6⟩ => ?_) fun _ _ z => False.elim z
      subst e6
      refine wpAny_mono (ht _ _ _ _ _ s6 _ H6 _ I6 q6) (fun ok s7 ⟨H7, I7, q7⟩ => ?_) fun _ _ z => False.elim z
      have keepFp : ∀ {σ' : St} {H' : Hp} {s' : Shared}, Inv (cxComp X scope N' G.objs.size s2 H2 fp) ([(s2.heap.objs.size, { cls := .type "list", data := .seq its.toArray k })] ++ pinsAt fp s5.heap) σ' H' s' → tn (i + 1) s'.heap ∧ ∀ b ∈ fp, H' b = none := fun I => by
        refine ⟨T.keep _ _ _ st5 fun b hb o e => (I.pin (b, o) (List.mem_append_right _ (List.mem_append_right _ (mem_pinsAt hb e)))).1, fun b hb => ?_⟩
        obtain ⟨o, e, d⟩ := fpo b hb
        exact (I.pin (b, o) (List.mem_append_right _ (List.mem_append_right _ (mem_pinsAt hb e)))).2.1
      cases ok with
      | false =>
        obtain ⟨m', hm', w'⟩ := q7
        obtain ⟨k1, k2⟩ := keepFp I7
        exact ⟨m', hm', i + 1, os', H7, ys, its, k, hos', I7.unpinned, k1, k2, rv3, w'⟩
      | true =>
        rw [if_pos rfl]
        refine wpAny_mono (he _ _ _ _ _ s7 _ H7 _ I7 q7) (fun yv s8 ⟨y, H8, I8, r8, q8⟩ => ?_) fun _ _ z => False.elim z
        obtain ⟨m', hm', w'⟩ := q8
        obtain ⟨k1, k2⟩ := keepFp I8
        have I8' := I8.unpinned
        obtain ⟨hD8, hn8⟩ := pinD I8'
        have hil : its.length < sizeLine := by rw [← rv3.length]; exact hz
        refine call_meets F.slot_list_append ⟨_, hD8, rfl⟩ F.entry_list_append (F.args_list_append_2 _ _) (PySem.list_append _ its.toArray k yv (by rw [List.size_toArray]; omega)) ⟨hD8, ?_⟩
        have q : (s8.heap.update s2.heap.objs.size (Obj.mapSeq fun a => a.push yv)).get? s2.heap.objs.size = some { cls := .type "list", data := .seq (its ++ [yv]).toArray (if (its.toArray.push yv).size == its.toArray.size then k else k + 1) } := by
          have q0 := PySem.IsL.update hD8 (fun a : Array Value => a.push yv)
          have ea : its.toArray.push yv = (its ++ [yv]).toArray := by simp
          rw [← ea]
          exact q0
        refine ⟨m', hm', i + 1, os', H8, ys ++ [y], its ++ [yv], (if (its.toArray.push yv).size == its.toArray.size then k else k + 1), hos', ?_, T.keep _ _ _ k1 fun b hb o e => (Heap.get?_update_other s8.heap _ (below b (fplt b hb)).2.symm).trans e, k2, rv3.append (.cons r8 .nil), w'⟩
        have In : Inv (cxComp X scope N' G.objs.size s2 H2 fp) [] (os' ++ caps σ js) H8 s8 := I8'.pins_of fun p hp => absurd hp (by simp)
        have It : Inv (cxComp X scope N' G.objs.size s2 H2 fp) [] (os' ++ caps σ js) H8 { s8 with heap := s8.heap.update s2.heap.objs.size (Obj.mapSeq fun a => a.push yv) } :=
          In.turned (it := s2.heap.objs.size) (t' := s8.toks) (fun b o hb e => (Heap.get?_update_other s8.heap _ (Ne.symm hb)).trans e) hn8 hDC (.inr (Nat.le_refl _)) (fun x c e z => by
            obtain ⟨v, o, ho, hd⟩ := I8'.cell x c e
            rw [z, hD8] at ho
            cases ho
            cases hd) fun p hp => absurd hp (by simp [cxComp])
        refine It.pins_of fun p hp => ?_
        have hp' : p = (s2.heap.objs.size, { cls := .type "list", data := .seq (its ++ [yv]).toArray (if (its.toArray.push yv).size == its.toArray.size then k else k + 1) }) := List.mem_singleton.mp hp
        subst hp'
        exact ⟨q, hn8, hDC, (I8'.pin _ (List.mem_append_right _ (List.mem_singleton.mpr rfl))).2.2.2.1, fun v z => by cases z⟩
  exact codeAny_compStart_list (loop _ rfl) (T.self _ 0 _ _ _ (T.keep _ _ _ st2 fun b _ o e => old b o e) (loop _ rfl))
/-- y = [elt for x in iter if ..], y a local name of the def: it is stored ahead of the block's own names' end -/
theorem ps_setC {X : Cx} {elt iter : Expr} {x y : Str} {px py pos spos : Pos} {ifs : List Expr} {scope : Scope} {wi : TI} {tc : TT} {te : TE} {i : Nat} (js : List Nat) (N' : List Str) (hN : X.N.Nodup) (hy : X.N[i]? = some y) (hl : Loc X.env.scope y) (hc : X.calm = true)
    (hi : PI X (.Name x px) iter wi)
    (ht : ∀ C s₀ H₀ ex, PTs (cxComp X scope N' C s₀ H₀ ex) ifs tc)
    (he : ∀ C s₀ H₀ ex, PE (cxComp X scope N' C s₀ H₀ ex) elt te)
    (hsw : swapsWith (.ListComp elt [⟨.Name x px, iter, ifs, 0⟩] scope pos) (some (.Name y py)) spos.line X.env = pure true := by rfl)
    (hf : X.fn y = true ∨ X.env.scope.names.lookup y = some .local := by first | exact .inl rfl | exact .inr rfl | assumption)
    (nd : N'.Nodup := by decide +kernel)
    (hx : scope.names.lookup x = some .local := by rfl)
    (hN' : N' = [x] ++ js.map fun j => X.N.getD j Str.empty := by rfl)
    (hk : scope.kind = .function := by rfl)
    (hcell : ∀ y ∈ scope.names, y.2 ≠ .cell := by decide +kernel)
    (hnames : ∀ y ∈ scope.names, y.2 = .local → scope.names.lookup y.1 = some .local := by decide +kernel)
    (hfr : (scope.names.all fun y => y.2 != .free || X.env.scope.names.lookup y.1 == some .cell) = true := by rfl)
    (hjs : (js.all fun j => scope.names.lookup (X.N.getD j Str.empty) == some .free && (X.N[j]?).isSome) = true := by rfl)
    (hs : ∀ z, foldedSetIterable iter X.env z = pure z := by intro _; rfl) :
    PS X (.Assign [.Name y py] (.ListComp elt [⟨.Name x px, iter, ifs, 0⟩] scope pos) spos) (tAsg (tComp 1 js wi (gName 0) tc te) (gName i)) := by
  intro pins s σ H D I h
  rw [exec_Assign_Name_used _ _ _ _ hsw]
  refine wpAny_bind (wpAny_standAt (wpAny_bind ?_))
  show wpAny _ _ (do let _ ← comprehension (.ListComp elt [⟨.Name x px, iter, ifs, 0⟩] scope pos) scope X.env _ (newList []) false (eval iter X.env) (some (assign (.Name y py) X.env))) _ _ s
  refine wpAny_bind (wpAny_mono (comp_gen (use := some (assign (.Name y py) X.env)) (Qf := fun _ s' => SP X pins D .next s') [x] js N' hc hi (fun C s₀ H₀ ex => pg_name (X := cxComp X scope N' C s₀ H₀ ex) (i := 0) nd (by show N'[0]? = some x; rw [hN']; rfl) (Or.inl (lookup_relabel_local hx)) (.inr (lookup_relabel_local hx)))
    ht he hN' hk hcell hnames hfr hjs hs I h ?_) (fun _ s' hq => wpAny_pure (wpAny_pure hq)) fun _ _ e => e)
  intro B C H' s4 m I4 q hn ce
  refine wpAny_assign_Name (store_ok2 I4 hN hy hl (v := .ref B) rfl (fun s5 I5 ⟨a, sb, ha⟩ => ?_) hf)
  have hne : C ≠ a := by
    rcases ha with rfl | ha
    · exact ce.ne
    · exact Ne.symm (ce.cl _ _ ha)
  refine ⟨m, hn.sameBut sb hne, fun h' hsb => ⟨_, H', I5.turned (t' := s5.toks) (it := C) (fun b o hb e => (hsb.2 b hb).trans e) ce.no ce.ne (.inr ce.new) ce.cl ce.pn, q⟩⟩
end L2

set_option Elab.async false
set_option linter.all false
set_option maxRecDepth 100000
set_option maxHeartbeats 1000000
namespace L2
open PySem PySem.Spec PyProof.Rows
/-! ### for x, y in zip(t, u), t and u tuples -/
section
variable {P : Program} {w : World} {A : Around} {E : Value → Shared → Prop} {s : Shared}
theorem nextT_item {it t : Addr} {i : Nat} {its : Array Value} {v : Value} {R : Value → Shared → Prop} (g : IsTupIter s.heap it t i) (ht : IsTup s.heap t its) (hv : its[i]? = some v)
    (k : ∀ h', IsTupIter h' it t (i + 1) → Heap.SameBut it s.heap h' → R v { s with heap := h' }) : wpAny (model P w) A (Builtin.SmallTypes.nextOf (.ref it)) R E s := by
  obtain ⟨ob, e1, c1, d1⟩ := id g
  obtain ⟨ot, e2, _, m, d2⟩ := ht
  unfold Builtin.SmallTypes.nextOf
  refine wpAny_bind (wpAny_callSpecial?_slot (name := Str.ofString "__next__") g.typeIs slot_tupleiter_next (wpAny_call_entry slot_tupleiter_next g.typeIs entry_tupleiter_next (?_ : wpAny _ _ (field (.ref it) 0 >>= _) _ _ s) (args_tupleiter_next _)))
  refine wpAny_bind (wpAny_field e1 d1 (x := .ref t) rfl (?_ : wpAny _ _ (if (Value.ref t == Value.none) = true then _ else _) _ _ s))
  rw [if_neg (fun q => Bool.false_ne_true q : ¬ ((Value.ref t == Value.none) = true))]
  refine wpAny_bind (wpAny_field e1 d1 (x := .int i 0) rfl (wpAny_bind (wpAny_seqItems e2 d2 ?_)))
  simp only [Int.toNat_natCast, hv]
  exact wpAny_bind (wpAny_setField e1 d1 (by simp) (wpAny_pure ⟨v, rfl, wpAny_pure (k _ ⟨_, Heap.get?_update_self _ e1 (Obj.isFreed_of_fields (Obj.data_mapFields d1 _)), (Obj.cls_mapFields ..).trans c1, by rw [Obj.data_mapFields d1]; simp [rawInt]⟩ (Heap.SameBut.update ..))⟩))
theorem nextT_end {it t : Addr} {i : Nat} {its : Array Value} {R : Value → Shared → Prop} (hh : A.handled = none) (g : IsTupIter s.heap it t i) (ht : IsTup s.heap t its) (hv : its[i]? = none)
    (k : ∀ h' e, Heap.ExtBut it s.heap h' → (∃ o, h'.get? e = some o ∧ o.cls = .type "StopIteration") → E (.ref e) { s with heap := h' }) : wpAny (model P w) A (Builtin.SmallTypes.nextOf (.ref it)) R E s := by
  obtain ⟨ob, e1, c1, d1⟩ := id g
  obtain ⟨ot, e2, _, m, d2⟩ := ht
  unfold Builtin.SmallTypes.nextOf
  refine wpAny_bind (wpAny_callSpecial?_slot (name := Str.ofString "__next__") g.typeIs slot_tupleiter_next (wpAny_call_entry slot_tupleiter_next g.typeIs entry_tupleiter_next (?_ : wpAny _ _ (field (.ref it) 0 >>= _) _ _ s) (args_tupleiter_next _)))
  refine wpAny_bind (wpAny_field e1 d1 (x := .ref t) rfl (?_ : wpAny _ _ (if (Value.ref t == Value.none) = true then _ else _) _ _ s))
  rw [if_neg (fun q => Bool.false_ne_true q : ¬ ((Value.ref t == Value.none) = true))]
  refine wpAny_bind (wpAny_field e1 d1 (x := .int i 0) rfl (wpAny_bind (wpAny_seqItems e2 d2 ?_)))
  simp only [Int.toNat_natCast, hv]
  refine wpAny_bind (wpAny_rule (wpAny_bind (wpAny_setField e1 d1 (by simp) (?_ : wpAny _ _ (newExc (.type "StopIteration") [] >>= _) _ _ _))))
  refine wpAny_bind ?_
  simp only [newExc, newTuple]
  refine wpAny_bind (wpAny_newObj_type (wpAny_bind (m := firstArgMember _ _) (wpAny_of_eq (a := Value.none) (by first | rfl | (simp only [firstArgMember]; rfl)) (wpAny_newObj_type ?_ (by size_fits)))) (by size_fits))
  simp only [raiseNew]
  refine wpAny_bind (wpAny_handled ?_)
  have hh' : A.in1.handled = none := hh
  first | rw [hh'] | rw [hh]
  exact wpAny_bind (wpAny_pure (wpAny_throw (k _ _ (((Heap.SameBut.update ..).extBut.push _).push _) ⟨_, Heap.get?_push_size _ rfl, rfl⟩)))
/-- what the five objects of a zip are -/
structure ZAt (h : Heap) (z TI TO i1 i2 t1 t2 : Addr) (f : Value) (i : Nat) : Prop where
  hz : IsZip h z TI TO f
  ti : IsPair h TI (.ref i1) (.ref i2)
  to : ∃ a b, IsPair h TO a b
  j1 : IsTupIter h i1 t1 i
  j2 : IsTupIter h i2 t2 i
theorem zipT_item {z TI TO i1 i2 t1 t2 : Addr} {i : Nat} {xs ys : Array Value} {x y : Value} {R : Option Value → Shared → Prop} (D : ZipApart z TI TO i1 i2 t1 t2) (Z : ZAt s.heap z TI TO i1 i2 t1 t2 .none i)
    (h1 : IsTup s.heap t1 xs) (h2 : IsTup s.heap t2 ys) (hx : xs[i]? = some x) (hy : ys[i]? = some y)
    (k : ∀ h', ZAt h' z TI TO i1 i2 t1 t2 (rawInt s.heap.objs.size) (i + 1) → IsPair h' s.heap.objs.size x y → (∀ c o, c ≠ z → c ≠ TO → c ≠ i1 → c ≠ i2 → s.heap.get? c = some o → h'.get? c = some o) → R (some (.ref s.heap.objs.size)) { s with heap := h' }) :
    wpAny (model P w) A (pyNext (.ref z)) R E s := by
  obtain ⟨hz, hTI, ⟨a, b, hTO⟩, j1, j2⟩ := Z
  have ty : s.TypeIs (.ref z) "zip" := ⟨_, hz, rfl⟩
  unfold pyNext
  refine wpAny_bind (wpAny_attempt (wpAny_callSpecial?_slot (name := Str.ofString "__next__") ty F.slot_zip_next (wpAny_call_entry F.slot_zip_next ty F.entry_zip_next (?_ : wpAny _ _ (field (.ref z) 2 >>= _) _ _ _) (F.args_zip_next_1 _))))
  refine wpAny_bind (wpAny_field hz rfl (x := .bool false) rfl (?_ : wpAny _ _ (field (.ref z) 3 >>= _) _ _ _))
  refine wpAny_bind (wpAny_field hz rfl (x := .ref TI) rfl (wpAny_bind (wpAny_seqItems hTI rfl (?_ : wpAny _ _ (Builtin.SmallTypes.ownedTupleIsFree (.ref z) >>= _) _ _ _))))
  refine wpAny_bind ?_
  unfold Builtin.SmallTypes.ownedTupleIsFree
  refine wpAny_bind (wpAny_field hz rfl (x := .none) rfl (wpAny_pure ?_))
  simp only [if_true]
  refine wpAny_bind (wpAny_rule (wpAny_bind (wpAny_field hz rfl (x := .ref TO) rfl (wpAny_bind (wpAny_setField_rec hz (by simp) fun g1 hz1 q1 => ?_)))))
  have z1 : IsZip g1 z TI TO .ellipsis := hz1
  refine wpAny_bind ?_
  simp only [List.zipIdx_cons, List.zipIdx_nil, List.forIn_cons, List.forIn_nil]
  refine wpAny_bind (wpAny_bind (wpAny_onRaise (?_ : wpAny _ _ (Builtin.SmallTypes.nextOf (.ref i1) >>= _) _ _ _)))
  refine wpAny_bind (nextT_item (j1.extBut q1.extBut D.i1z) (h1.extBut q1.extBut D.l1z) hx fun g2 n1 q2 => wpAny_pure ?_)
  have p2 : IsPair g2 TO a b := q2.extBut _ _ D.TOi1 (q1.extBut _ _ D.TOz hTO)
  refine wpAny_bind (wpAny_seqItems p2 rfl (wpAny_bind (wpAny_updateSeq_pair p2 fun g3 r3 q3 => wpAny_bind (wpAny_letGo (wpAny_pure ?_)))))
  have p3 : IsPair g3 TO x b := r3
  refine wpAny_bind (wpAny_bind (wpAny_onRaise (?_ : wpAny _ _ (Builtin.SmallTypes.nextOf (.ref i2) >>= _) _ _ _)))
  refine wpAny_bind (nextT_item (((j2.extBut q1.extBut D.i2z).extBut q2.extBut D.i12.symm).extBut q3.extBut D.TOi2.symm) (((h2.extBut q1.extBut D.l2z).extBut q2.extBut D.l2i1).extBut q3.extBut D.l2TO) hy fun g4 n2 q4 => wpAny_pure ?_)
  have p4 : IsPair g4 TO x b := q4.extBut _ _ D.TOi2 p3
  refine wpAny_bind (wpAny_seqItems p4 rfl (wpAny_bind (wpAny_updateSeq_pair p4 fun g5 r5 q5 => wpAny_bind (wpAny_letGo (wpAny_pure (wpAny_pure ?_))))))
  have p5 : IsPair g5 TO x y := r5
  refine wpAny_bind (wpAny_seqItems p5 rfl (wpAny_bind (wpAny_newTuple (?_ : wpAny _ _ (Builtin.SmallTypes.ownedTupleHandOut (.ref z) (.ref g5.objs.size) >>= _) _ _ _))))
  have sz : g5.objs.size = s.heap.objs.size := by rw [q5.1, q4.1, q3.1, q2.1, q1.1]
  have z5 : IsZip g5 z TI TO .ellipsis := q5.extBut _ _ D.TOz.symm (q4.extBut _ _ D.i2z.symm (q3.extBut _ _ D.TOz.symm (q2.extBut _ _ D.i1z.symm z1)))
  have kp : ∀ c o, c ≠ z → c ≠ TO → c ≠ i1 → c ≠ i2 → s.heap.get? c = some o → g5.get? c = some o := fun c o c1 c2 c3 c4 e => q5.extBut _ _ c2 (q4.extBut _ _ c4 (q3.extBut _ _ c2 (q2.extBut _ _ c3 (q1.extBut _ _ c1 e))))
  have m1 : IsTupIter g5 i1 t1 (i + 1) := ((n1.extBut q3.extBut D.TOi1.symm).extBut q4.extBut D.i12).extBut q5.extBut D.TOi1.symm
  have m2 : IsTupIter g5 i2 t2 (i + 1) := n2.extBut q5.extBut D.TOi2.symm
  have lz : z < g5.objs.size := Heap.lt_size z5
  refine wpAny_bind ?_
  unfold Builtin.SmallTypes.ownedTupleHandOut
  have z6 : IsZip (g5.push { cls := .type "tuple", data := .seq #[x, y] }) z TI TO .ellipsis := Heap.get?_push_of_some _ z5
  refine wpAny_bind (wpAny_setField_rec z6 (by simp) fun g7 r7 q7 => ?_)
  have z7 : IsZip g7 z TI TO (rawInt g5.objs.size) := r7
  refine wpAny_setField_rec z7 (by simp) fun g8 r8 q8 => ?_
  have z8 : IsZip g8 z TI TO (rawInt g5.objs.size) := r8
  have up : ∀ c o, c ≠ z → g5.get? c = some o → g8.get? c = some o := fun c o c1 e => q8.extBut _ _ c1 (q7.extBut _ _ c1 (Heap.get?_push_of_some _ e))
  have p8 : IsPair g8 g5.objs.size x y := q8.extBut _ _ (Nat.ne_of_gt lz) (q7.extBut _ _ (Nat.ne_of_gt lz) (Heap.get?_push_size _ rfl))
  rw [sz] at z8 p8
  refine wpAny_pure ⟨_, rfl, wpAny_pure ?_⟩
  show R (some (.ref g5.objs.size)) _
  rw [sz]
  refine k g8 ⟨z8, ?_, ⟨_, _, up _ _ D.TOz p5⟩, ?_, ?_⟩ p8 fun c o c1 c2 c3 c4 e => up c o c1 (kp c o c1 c2 c3 c4 e)
  · exact up _ _ D.TIz (kp _ _ D.TIz D.TITO D.TIi1 D.TIi2 hTI)
  · obtain ⟨o, e, r⟩ := m1
    exact ⟨o, up _ _ D.i1z e, r⟩
  · obtain ⟨o, e, r⟩ := m2
    exact ⟨o, up _ _ D.i2z e, r⟩
theorem zipT_end {z TI TO i1 i2 t1 t2 : Addr} {i : Nat} {xs ys : Array Value} {R : Option Value → Shared → Prop} (hh : A.handled = none) (D : ZipApart z TI TO i1 i2 t1 t2) (Z : ZAt s.heap z TI TO i1 i2 t1 t2 .none i)
    (h1 : IsTup s.heap t1 xs) (h2 : IsTup s.heap t2 ys) (hend : xs[i]? = none ∨ ys[i]? = none)
    (k : ∀ h', (∀ c o, c ≠ z → c ≠ TO → c ≠ i1 → c ≠ i2 → s.heap.get? c = some o → h'.get? c = some o) → R none { s with heap := h' }) :
    wpAny (model P w) A (pyNext (.ref z)) R E s := by
  obtain ⟨hz, hTI, ⟨a, b, hTO⟩, j1, j2⟩ := Z
  have ty : s.TypeIs (.ref z) "zip" := ⟨_, hz, rfl⟩
  have stp : ∀ h' e, (∀ c o, c ≠ z → c ≠ TO → c ≠ i1 → c ≠ i2 → s.heap.get? c = some o → h'.get? c = some o) → (∃ o, h'.get? e = some o ∧ o.cls = .type "StopIteration") →
      wpAny (model P w) A (do if (← isInstance (.ref e) (.type "StopIteration")) then pure none else throw (.ref e)) R E { s with heap := h' } := by
    rintro h' e kk ⟨o, ho, hc⟩
    exact wpAny_bind (wpAny_isInstance (T := "StopIteration") (b := true) ⟨o, ho, hc⟩ isSubtype_stop (wpAny_pure (k _ kk)))
  unfold pyNext
  refine wpAny_bind (wpAny_attempt (wpAny_callSpecial?_slot (name := Str.ofString "__next__") ty F.slot_zip_next (wpAny_call_entry F.slot_zip_next ty F.entry_zip_next (?_ : wpAny _ _ (field (.ref z) 2 >>= _) _ _ _) (F.args_zip_next_1 _))))
  refine wpAny_bind (wpAny_field hz rfl (x := .bool false) rfl (?_ : wpAny _ _ (field (.ref z) 3 >>= _) _ _ _))
  refine wpAny_bind (wpAny_field hz rfl (x := .ref TI) rfl (wpAny_bind (wpAny_seqItems hTI rfl (?_ : wpAny _ _ (Builtin.SmallTypes.ownedTupleIsFree (.ref z) >>= _) _ _ _))))
  refine wpAny_bind ?_
  unfold Builtin.SmallTypes.ownedTupleIsFree
  refine wpAny_bind (wpAny_field hz rfl (x := .none) rfl (wpAny_pure ?_))
  simp only [if_true]
  refine wpAny_bind (wpAny_rule (wpAny_bind (wpAny_field hz rfl (x := .ref TO) rfl (wpAny_bind (wpAny_setField_rec hz (by simp) fun g1 hz1 q1 => ?_)))))
  have z1 : IsZip g1 z TI TO .ellipsis := hz1
  refine wpAny_bind ?_
  simp only [List.zipIdx_cons, List.zipIdx_nil, List.forIn_cons, List.forIn_nil]
  refine wpAny_bind (wpAny_bind (wpAny_onRaise (?_ : wpAny _ _ (Builtin.SmallTypes.nextOf (.ref i1) >>= _) _ _ _)))
  have fin : ∀ (h2 h' : Heap) (e : Addr), IsZip h2 z TI TO .ellipsis → (∃ o, h2.get? e = some o ∧ o.cls = .type "StopIteration") → e ≠ z := by
    rintro h2 h' e hz2 ⟨o, ho, hc⟩ rfl
    rw [hz2] at ho
    cases ho
    simp at hc
  cases hx : xs[i]? with
  | none =>
    refine wpAny_bind (nextT_end hh (j1.extBut q1.extBut D.i1z) (h1.extBut q1.extBut D.l1z) hx fun g2 e q2 he => ?_)
    have z2 : IsZip g2 z TI TO .ellipsis := q2 _ _ D.i1z.symm z1
    have ne := fin g2 g2 e z2 he
    obtain ⟨oe, he1, he2⟩ := he
    exact wpAny_setField_rec z2 (by simp) fun g3 _ q3 => stp g3 e (fun c o c1 _ c3 _ x => q3.extBut _ _ c1 (q2 _ _ c3 (q1.extBut _ _ c1 x))) ⟨oe, q3.extBut _ _ ne he1, he2⟩
  | some x =>
    have hy : ys[i]? = none := by
      rcases hend with q | q
      · rw [hx] at q; cases q
      · exact q
    refine wpAny_bind (nextT_item (j1.extBut q1.extBut D.i1z) (h1.extBut q1.extBut D.l1z) hx fun g2 n1 q2 => wpAny_pure ?_)
    have p2 : IsPair g2 TO a b := q2.extBut _ _ D.TOi1 (q1.extBut _ _ D.TOz hTO)
    refine wpAny_bind (wpAny_seqItems p2 rfl (wpAny_bind (wpAny_updateSeq_pair p2 fun g3 r3 q3 => wpAny_bind (wpAny_letGo (wpAny_pure ?_)))))
    refine wpAny_bind (wpAny_bind (wpAny_onRaise (?_ : wpAny _ _ (Builtin.SmallTypes.nextOf (.ref i2) >>= _) _ _ _)))
    refine wpAny_bind (nextT_end hh (((j2.extBut q1.extBut D.i2z).extBut q2.extBut D.i12.symm).extBut q3.extBut D.TOi2.symm) (((h2.extBut q1.extBut D.l2z).extBut q2.extBut D.l2i1).extBut q3.extBut D.l2TO) hy fun g4 e q4 he => ?_)
    have z4 : IsZip g4 z TI TO .ellipsis := q4 _ _ D.i2z.symm (q3.extBut _ _ D.TOz.symm (q2.extBut _ _ D.i1z.symm z1))
    have ne := fin g4 g4 e z4 he
    obtain ⟨oe, he1, he2⟩ := he
    exact wpAny_setField_rec z4 (by simp) fun g5 _ q5 => stp g5 e (fun c o c1 c2 c3 c4 x => q5.extBut _ _ c1 (q4 _ _ c4 (q3.extBut _ _ c2 (q2.extBut _ _ c3 (q1.extBut _ _ c1 x))))) ⟨oe, q5.extBut _ _ ne he1, he2⟩
/-- the heap behind zip(t, u) -/
def zH (h : Heap) (t1 t2 : Addr) : Heap :=
  ((((h.push { cls := .type "tuple_iterator", data := .fields #[.ref t1, .int 0 0] }).push { cls := .type "tuple_iterator", data := .fields #[.ref t2, .int 0 0] }).push { cls := .type "tuple", data := .seq #[.ref h.objs.size, .ref (h.objs.size + 1)] }).push { cls := .type "tuple", data := .seq #[.none, .none] }).push { cls := .type "zip", data := .fields #[.none, .bool false, .bool false, .ref (h.objs.size + 2), .ref (h.objs.size + 3)] }
theorem zT_new (t1 t2 : Addr) (xs ys : Array Value) :
    Meets (Builtin.«zip.__new__» ⟨[.type "zip", .ref t1, .ref t2], []⟩) (fun _ R s => IsTup s.heap t1 xs ∧ IsTup s.heap t2 ys ∧ R (.ok (.ret (.ref (s.heap.objs.size + 4)))) { s with heap := zH s.heap t1 t2 }) :=
  .of_wp fun prog w A R s h => by
    obtain ⟨hp, g, d, tk, os⟩ := s
    obtain ⟨k1, k2, h⟩ := h
    have hsub := sub_zip
    have T1 : IsTup (Shared.heap ⟨hp, g, d, tk, os⟩) t1 xs := k1
    have T2 : IsTup (Shared.heap ⟨hp.push { cls := .type "tuple_iterator", data := .fields #[.ref t1, .int 0 0] }, g, d, tk, os⟩) t2 ys := IsTup.push k2 _
    have e1 : (hp.push { cls := .type "tuple_iterator", data := .fields #[.ref t1, .int 0 0] }).objs.size = hp.objs.size + 1 := Heap.size_push ..
    have e2 : ((hp.push { cls := .type "tuple_iterator", data := .fields #[.ref t1, .int 0 0] }).push { cls := .type "tuple_iterator", data := .fields #[.ref t2, .int 0 0] }).objs.size = hp.objs.size + 2 := by rw [Heap.size_push, e1]
    have e3 : (((hp.push { cls := .type "tuple_iterator", data := .fields #[.ref t1, .int 0 0] }).push { cls := .type "tuple_iterator", data := .fields #[.ref t2, .int 0 0] }).push { cls := .type "tuple", data := .seq #[.ref hp.objs.size, .ref (hp.objs.size + 1)] }).objs.size = hp.objs.size + 3 := by rw [Heap.size_push, e2]
    have e4 : ((((hp.push { cls := .type "tuple_iterator", data := .fields #[.ref t1, .int 0 0] }).push { cls := .type "tuple_iterator", data := .fields #[.ref t2, .int 0 0] }).push { cls := .type "tuple", data := .seq #[.ref hp.objs.size, .ref (hp.objs.size + 1)] }).push { cls := .type "tuple", data := .seq #[.none, .none] }).objs.size = hp.objs.size + 4 := by rw [Heap.size_push, e3]
    unfold zH at h
    simp only [← e1, ← e2, ← e3, ← e4] at h
    wp_walk using iter_tuple T1, iter_tuple T2
    exact ⟨_, rfl, h⟩
theorem zT_call {t1 t2 : Addr} {xs ys : Array Value} {R : Value → Shared → Prop} (h1 : IsTup s.heap t1 xs) (h2 : IsTup s.heap t2 ys)
    (k : ∀ h', ZAt h' (s.heap.objs.size + 4) (s.heap.objs.size + 2) (s.heap.objs.size + 3) s.heap.objs.size (s.heap.objs.size + 1) t1 t2 .none 0 → (∀ c o, s.heap.get? c = some o → h'.get? c = some o) → R (.ref (s.heap.objs.size + 4)) { s with heap := h' }) :
    wpAny (model P w) A (call (.type "zip") [.ref t1, .ref t2]) R E s := by
  refine callType_new F.called_zip (by decide) (F.typeCall_zip_2 _ _) (F.newCall_zip_2 _ _) (fun obj => F.args_object_init_3 obj _ _) F.entry_zip_new (zT_new t1 t2 xs ys) ⟨h1, h2, ?_⟩
  have e1 : (s.heap.push { cls := .type "tuple_iterator", data := .fields #[.ref t1, .int 0 0] }).objs.size = s.heap.objs.size + 1 := Heap.size_push ..
  have e2 : ((s.heap.push { cls := .type "tuple_iterator", data := .fields #[.ref t1, .int 0 0] }).push { cls := .type "tuple_iterator", data := .fields #[.ref t2, .int 0 0] }).objs.size = s.heap.objs.size + 2 := by rw [Heap.size_push, e1]
  have e3 : (((s.heap.push { cls := .type "tuple_iterator", data := .fields #[.ref t1, .int 0 0] }).push { cls := .type "tuple_iterator", data := .fields #[.ref t2, .int 0 0] }).push { cls := .type "tuple", data := .seq #[.ref s.heap.objs.size, .ref (s.heap.objs.size + 1)] }).objs.size = s.heap.objs.size + 3 := by rw [Heap.size_push, e2]
  have e4 : ((((s.heap.push { cls := .type "tuple_iterator", data := .fields #[.ref t1, .int 0 0] }).push { cls := .type "tuple_iterator", data := .fields #[.ref t2, .int 0 0] }).push { cls := .type "tuple", data := .seq #[.ref s.heap.objs.size, .ref (s.heap.objs.size + 1)] }).push { cls := .type "tuple", data := .seq #[.none, .none] }).objs.size = s.heap.objs.size + 4 := by rw [Heap.size_push, e3]
  have a5 : (zH s.heap t1 t2).get? (s.heap.objs.size + 4) = some { cls := .type "zip", data := .fields #[.none, .bool false, .bool false, .ref (s.heap.objs.size + 2), .ref (s.heap.objs.size + 3)] } := by
    unfold zH
    have q := Heap.get?_push_size ((((s.heap.push { cls := .type "tuple_iterator", data := .fields #[.ref t1, .int 0 0] }).push { cls := .type "tuple_iterator", data := .fields #[.ref t2, .int 0 0] }).push { cls := .type "tuple", data := .seq #[.ref s.heap.objs.size, .ref (s.heap.objs.size + 1)] }).push { cls := .type "tuple", data := .seq #[.none, .none] }) (o := { cls := .type "zip", data := .fields #[.none, .bool false, .bool false, .ref (s.heap.objs.size + 2), .ref (s.heap.objs.size + 3)] }) rfl
    rw [e4] at q
    exact q
  have a4 : (zH s.heap t1 t2).get? (s.heap.objs.size + 3) = some { cls := .type "tuple", data := .seq #[.none, .none] } := by
    unfold zH
    have q := Heap.get?_push_size (((s.heap.push { cls := .type "tuple_iterator", data := .fields #[.ref t1, .int 0 0] }).push { cls := .type "tuple_iterator", data := .fields #[.ref t2, .int 0 0] }).push { cls := .type "tuple", data := .seq #[.ref s.heap.objs.size, .ref (s.heap.objs.size + 1)] }) (o := { cls := .type "tuple", data := .seq #[.none, .none] }) rfl
    rw [e3] at q
    exact Heap.get?_push_of_some _ q
  have a3 : (zH s.heap t1 t2).get? (s.heap.objs.size + 2) = some { cls := .type "tuple", data := .seq #[.ref s.heap.objs.size, .ref (s.heap.objs.size + 1)] } := by
    unfold zH
    have q := Heap.get?_push_size ((s.heap.push { cls := .type "tuple_iterator", data := .fields #[.ref t1, .int 0 0] }).push { cls := .type "tuple_iterator", data := .fields #[.ref t2, .int 0 0] }) (o := { cls := .type "tuple", data := .seq #[.ref s.heap.objs.size, .ref (s.heap.objs.size + 1)] }) rfl
    rw [e2] at q
    exact Heap.get?_push_of_some _ (Heap.get?_push_of_some _ q)
  have a2 : (zH s.heap t1 t2).get? (s.heap.objs.size + 1) = some { cls := .type "tuple_iterator", data := .fields #[.ref t2, .int 0 0] } := by
    unfold zH
    have q := Heap.get?_push_size (s.heap.push { cls := .type "tuple_iterator", data := .fields #[.ref t1, .int 0 0] }) (o := { cls := .type "tuple_iterator", data := .fields #[.ref t2, .int 0 0] }) rfl
    rw [e1] at q
    exact Heap.get?_push_of_some _ (Heap.get?_push_of_some _ (Heap.get?_push_of_some _ q))
  have a1 : (zH s.heap t1 t2).get? s.heap.objs.size = some { cls := .type "tuple_iterator", data := .fields #[.ref t1, .int 0 0] } := by
    unfold zH
    exact Heap.get?_push_of_some _ (Heap.get?_push_of_some _ (Heap.get?_push_of_some _ (Heap.get?_push_of_some _ (Heap.get?_push_size _ rfl))))
  have kp : ∀ c o, s.heap.get? c = some o → (zH s.heap t1 t2).get? c = some o := fun c o q => by
    unfold zH
    exact Heap.get?_push_of_some _ (Heap.get?_push_of_some _ (Heap.get?_push_of_some _ (Heap.get?_push_of_some _ (Heap.get?_push_of_some _ q))))
  exact ⟨⟨_, a5, rfl⟩, k _ ⟨a5, a3, ⟨_, _, a4⟩, ⟨_, a1, rfl, rfl⟩, ⟨_, a2, rfl, rfl⟩⟩ kp⟩
end
def Itz (K : PySem.W.Frag) (t1 t2 : Addr) : It :=
  ⟨fun i H => ∃ xs ys x y, SqT K H t1 xs ∧ SqT K H t2 ys ∧ xs[i]? = some x ∧ ys[i]? = some y,
   fun i H v H' => ∃ T x y, H T = none ∧ v = .ref T ∧ H' = upd H T (.tup [x, y]) ∧ (∀ xs, SqT K H t1 xs → xs[i]? = some x) ∧ ∀ ys, SqT K H t2 ys → ys[i]? = some y,
   fun i H => ∃ xs ys, SqT K H t1 xs ∧ SqT K H t2 ys ∧ (xs.length ≤ i ∨ ys.length ≤ i)⟩
theorem turn_zipT {P : Program} {w : World} {K : PySem.W.Frag} {elts : List Expr} {k : Nat} {tpos : Pos} {z TI TO i1 i2 t1 t2 : Addr} (D : ZipApart z TI TO i1 i2 t1 t2) :
    Turn P w K (.Tuple elts k tpos) (Itz K t1 t2) [z, TI, TO, i1, i2] z (fun i h => ZAt h z TI TO i1 i2 t1 t2 .none i) where
  mem := by simp
  obj := fun i h st b hb => by
    obtain ⟨hz, hTI, ⟨a, c, hTO⟩, ⟨o1, e1, _, d1⟩, ⟨o2, e2, _, d2⟩⟩ := st
    have hb' : b = z ∨ b = TI ∨ b = TO ∨ b = i1 ∨ b = i2 := by simpa using hb
    rcases hb' with rfl | rfl | rfl | rfl | rfl
    · exact ⟨_, hz, fun v q => by cases q⟩
    · exact ⟨_, hTI, fun v q => by cases q⟩
    · exact ⟨_, hTO, fun v q => by cases q⟩
    · exact ⟨o1, e1, fun v q => by rw [d1] at q; cases q⟩
    · exact ⟨o2, e2, fun v q => by rw [d2] at q; cases q⟩
  keep := fun i h h' st kk => by
    obtain ⟨hz, hTI, ⟨a, c, hTO⟩, ⟨o1, e1, r1⟩, ⟨o2, e2, r2⟩⟩ := st
    exact ⟨kk z (by simp) _ hz, kk TI (by simp) _ hTI, ⟨a, c, kk TO (by simp) _ hTO⟩, ⟨o1, kk i1 (by simp) _ e1, r1⟩, ⟨o2, kk i2 (by simp) _ e2, r2⟩⟩
  item := by
    intro X hP hw hK hc i pins s σ H E I hf st hg
    subst hP hw hK
    obtain ⟨xs, ys, x, y, g1, g2, hx, hy⟩ := hg
    obtain ⟨its1, rv1, p1, _⟩ := I.tuple g1
    obtain ⟨its2, rv2, p2, _⟩ := I.tuple g2
    obtain ⟨u1, hu1, ru1⟩ := rv1.get hx
    obtain ⟨u2, hu2, ru2⟩ := rv2.get hy
    refine zipT_item D st p1 p2 (x := u1) (y := u2) (by simpa using hu1) (by simpa using hu2) fun h1 Z1 hT kp => ⟨_, rfl, ?_⟩
    refine wpAny_letOwnedTupleGo_zip Z1.hz fun h2 hz2 q2 => ?_
    have hTn : H s.heap.objs.size = none := I.fresh
    have new : ∀ b o, s.heap.get? b = some o → b ≠ s.heap.objs.size := fun b o q => Nat.ne_of_lt (Heap.lt_size q)
    have hTz : s.heap.objs.size ≠ z := fun e => new _ _ st.hz e.symm
    have keep : ∀ b o, b ≠ z → b ≠ TO → b ≠ i1 → b ≠ i2 → s.heap.get? b = some o → h2.get? b = some o := fun b o c1 c2 c3 c4 q => (q2.2 b c1).trans (kp b o c1 c2 c3 c4 q)
    have trk : ∀ b o, H b = some o → b ≠ z ∧ b ≠ TO ∧ b ≠ i1 ∧ b ≠ i2 := fun b o q => by
      refine ⟨?_, ?_, ?_, ?_⟩ <;> (intro e; subst e)
      · rw [(hf b (by simp)).1] at q; cases q
      · rw [(hf b (by simp)).1] at q; cases q
      · rw [(hf b (by simp)).1] at q; cases q
      · rw [(hf b (by simp)).1] at q; cases q
    have T2 : h2.get? s.heap.objs.size = some { cls := .type "tuple", data := .seq #[u1, u2] } := (q2.2 _ hTz).trans hT
    have ok2 : HOk X.prog X.w (upd H s.heap.objs.size (.tup [x, y])) h2 := fun b v q => by
      by_cases hb : b = s.heap.objs.size
      · subst hb
        rw [upd_same] at q; cases q
        exact ⟨by show 2 ≤ sizeLine; decide, [u1, u2], .cons ru1 (.cons ru2 .nil), _, T2, rfl, 0, rfl⟩
      · rw [upd_ne hb] at q
        refine (I.hok b v q).stay (fun c o hc' r => ?_) (fun c r => by rw [upd_ne (ne_of_none r hTn)]; exact r) fun c ys r => by rw [upd_ne (ne_of_none r hTn)]; exact r
        have : ∃ o, H c = some o := by
          rcases hc' with rfl | hc'
          · exact ⟨_, q⟩
          · exact ⟨_, hc'⟩
        obtain ⟨o', ho⟩ := this
        obtain ⟨n1, n2, n3, n4⟩ := trk c o' ho
        exact keep c o n1 n2 n3 n4 r
    have nin : ∀ {b : Addr}, b ∉ [z, TI, TO, i1, i2] → b ≠ z ∧ b ≠ TO ∧ b ≠ i1 ∧ b ≠ i2 := fun {b} q => ⟨fun e => q (by simp [e]), fun e => q (by simp [e]), fun e => q (by simp [e]), fun e => q (by simp [e])⟩
    have I2 : Inv X pins σ (upd H s.heap.objs.size (.tup [x, y])) { s with heap := h2, toks := s.toks } := by
      refine I.call (g' := s.gens) (d' := s.drawn) (t' := s.toks) (ch := [z, TI, TO, i1, i2]) ⟨fun b o q n hb hx => ?_, fun b o q n hb hx => ?_, fun b o q n hx => ?_, fun b o q hx => ?_, fun b ys q => ?_, fun b o ys q => ?_, fun b ys q => ?_⟩ ok2 I.bare (fun b hb => ?_)
      · obtain ⟨n1, n2, n3, n4⟩ := nin hx
        exact keep b o n1 n2 n3 n4 q
      · obtain ⟨n1, n2, n3, n4⟩ := nin hx
        exact ⟨o.slots, keep b o n1 n2 n3 n4 q⟩
      · rw [upd_ne (new b o q)]; exact n
      · obtain ⟨n1, n2, n3, n4⟩ := nin hx
        exact ⟨o, keep b o n1 n2 n3 n4 q⟩
      · rw [upd_ne (ne_of_none q hTn)]; exact q
      · rw [upd_ne (ne_of_none q hTn)]; exact q
      · exact ⟨#[], by rw [upd_ne (ne_of_none q hTn), q]; simp⟩
      · obtain ⟨f0, f1, f2, f3, f4, f5⟩ := hf b hb
        exact ⟨f3, f1, f4, f5⟩
    refine ⟨.ref s.heap.objs.size, _, I2, rfl, ⟨_, x, y, hTn, rfl, rfl, fun zs hz' => by rw [I.tuple_inj hz' g1]; exact hx, fun zs hz' => by rw [I.tuple_inj hz' g2]; exact hy⟩, ?_, fun b hb => ?_⟩
    · obtain ⟨_, hTI, ⟨a, c, hTO⟩, ⟨o1, e1, r1⟩, ⟨o2, e2, r2⟩⟩ := Z1
      exact ⟨hz2, (q2.2 _ D.TIz).trans hTI, ⟨a, c, (q2.2 _ D.TOz).trans hTO⟩, ⟨o1, (q2.2 _ D.i1z).trans e1, r1⟩, ⟨o2, (q2.2 _ D.i2z).trans e2, r2⟩⟩
    · rw [upd_ne (fun e => ?_)]
      · exact (hf b hb).1
      · obtain ⟨hz, hTI, ⟨a, c, hTO⟩, ⟨o1, e1, _⟩, ⟨o2, e2, _⟩⟩ := st
        have hb' : b = z ∨ b = TI ∨ b = TO ∨ b = i1 ∨ b = i2 := by simpa using hb
        rcases hb' with rfl | rfl | rfl | rfl | rfl
        · exact new _ _ hz e
        · exact new _ _ hTI e
        · exact new _ _ hTO e
        · exact new _ _ e1 e
        · exact new _ _ e2 e
  done := by
    intro X hP hw hK hc i pins s σ H E I hf st hg
    subst hP hw hK
    obtain ⟨xs, ys, g1, g2, hle⟩ := hg
    obtain ⟨its1, rv1, p1, _⟩ := I.tuple g1
    obtain ⟨its2, rv2, p2, _⟩ := I.tuple g2
    have l1 := rv1.length
    have l2 := rv2.length
    have hend : its1.toArray[i]? = none ∨ its2.toArray[i]? = none := by
      rcases hle with q | q
      · exact .inl (by simp; omega)
      · exact .inr (by simp; omega)
    refine zipT_end (I.ok.hd hc) D st p1 p2 hend fun h' kp => ⟨rfl, ?_⟩
    have nin : ∀ {b : Addr}, b ∉ [z, TI, TO, i1, i2] → b ≠ z ∧ b ≠ TO ∧ b ≠ i1 ∧ b ≠ i2 := fun {b} q => ⟨fun e => q (by simp [e]), fun e => q (by simp [e]), fun e => q (by simp [e]), fun e => q (by simp [e])⟩
    have trk : ∀ b o, H b = some o → b ≠ z ∧ b ≠ TO ∧ b ≠ i1 ∧ b ≠ i2 := fun b o q => by
      refine ⟨?_, ?_, ?_, ?_⟩ <;> (intro e; subst e)
      · rw [(hf b (by simp)).1] at q; cases q
      · rw [(hf b (by simp)).1] at q; cases q
      · rw [(hf b (by simp)).1] at q; cases q
      · rw [(hf b (by simp)).1] at q; cases q
    have ok2 : HOk X.prog X.w H h' := fun b v q => by
      refine (I.hok b v q).stay (fun c o hc' r => ?_) (fun c r => r) fun c ys r => r
      have : ∃ o, H c = some o := by
        rcases hc' with rfl | hc'
        · exact ⟨_, q⟩
        · exact ⟨_, hc'⟩
      obtain ⟨o', ho⟩ := this
      obtain ⟨n1, n2, n3, n4⟩ := trk c o' ho
      exact kp c o n1 n2 n3 n4 r
    refine I.call (g' := s.gens) (d' := s.drawn) (t' := s.toks) (ch := [z, TI, TO, i1, i2]) ⟨fun b o q n hb hx => ?_, fun b o q n hb hx => ?_, fun b o q n hx => n, fun b o q hx => ?_, fun b ys q => q, fun b o ys q => q, fun b ys q => ⟨#[], by rw [q]; simp⟩⟩ ok2 I.bare (fun b hb => ?_)
    · obtain ⟨n1, n2, n3, n4⟩ := nin hx
      exact kp b o n1 n2 n3 n4 q
    · obtain ⟨n1, n2, n3, n4⟩ := nin hx
      exact ⟨o.slots, kp b o n1 n2 n3 n4 q⟩
    · obtain ⟨n1, n2, n3, n4⟩ := nin hx
      exact ⟨o, kp b o n1 n2 n3 n4 q⟩
    · obtain ⟨f0, f1, f2, f3, f4, f5⟩ := hf b hb
      exact ⟨f3, f1, f4, f5⟩
  self := fun _ _ _ _ _ st h => wpAny_pyIter_zip st.hz h
theorem zapart {n a b : Nat} (la : a < n) (lb : b < n) : ZipApart (n + 4) (n + 2) (n + 3) n (n + 1) a b := by
  have ne : ∀ {i j : Nat}, i < j ∨ j < i → ¬ @Eq Addr i j := fun {i j} h e => by
    have e' : @Eq Nat i j := e
    omega
  exact ⟨ne (by omega), ne (by omega), ne (by omega), ne (by omega), ne (by omega), ne (by omega), ne (by omega), ne (by omega), ne (by omega), ne (by omega), ne (by omega), ne (by omega), ne (by omega), ne (by omega), ne (by omega), ne (by omega), ne (by omega), ne (by omega)⟩
theorem zle {n c : Nat} (h : c = n + 4 ∨ c = n + 2 ∨ c = n + 3 ∨ c = n ∨ c = n + 1) : n ≤ c := by omega
def iZipT (K : PySem.W.Frag) (t1 t2 : TE) : TI := fun σ H R => t1 σ H fun x H1 => t2 σ H1 fun y H2 => ∃ a b, x = .ref a ∧ y = .ref b ∧ (∃ xs, SqT K H2 a xs) ∧ (∃ ys, SqT K H2 b ys) ∧ R (Itz K a b) H2
theorem boot_zip' : bootBuiltins "zip" = some (.type "zip") := by kernel_rfl
theorem pi_zipT {X : Cx} {elts : List Expr} {k : Nat} {tpos p pos : Pos} {l m : Expr} {tl tm : TE} (hm : X.mg "zip" = none) (hl : PE X l tl) (hl2 : PE X m tm) (hg : Gl X "zip" := by rfl) (hs : notStar l = true := by rfl) (hs2 : notStar m = true := by rfl) :
    PI X (.Tuple elts k tpos) (.Call (.Name "zip" p) [l, m] [] pos) (iZipT X.K tl tm) := by
  intro pins s σ H R I h
  refine wpAny_Call_Name_kw (ld_blt I hg hm boot_zip' ?_)
  have h' : (tCons tl (tCons tm tNil)) σ H (fun vs H1 => match vs with | [x, y] => (∃ a b, x = .ref a ∧ y = .ref b ∧ (∃ xs, SqT X.K H1 a xs) ∧ (∃ ys, SqT X.K H1 b ys) ∧ R (Itz X.K a b) H1) | _ => False) := h
  refine PyProof.Rows.callWith_type1 (thn ((pa_c hl (pa_c hl2 pa_nil hs2) hs) pos pins s σ H _ I h') fun us s1 ⟨vs, H1, I1, r1, q1⟩ => ?_) (star_cons hs) (star_none (by simp [hs2]))
  match vs, q1, r1 with
  | [x, y], q1, r1 =>
  obtain ⟨a, b, rfl, rfl, ⟨xs, g1⟩, ⟨ys, g2⟩, q⟩ := q1
  cases r1 with
  | cons ra rest =>
  obtain ⟨u, rfl, rb⟩ := Vals.one rest
  cases ra
  cases rb
  obtain ⟨its1, rv1, p1, _⟩ := I1.tuple g1
  obtain ⟨its2, rv2, p2, _⟩ := I1.tuple g2
  have la := p1.lt
  have lb := p2.lt
  refine zT_call p1 p2 fun h2 Z kp => ?_
  refine wpAny_pyIter_zip Z.hz ?_
  have I2 : Inv X pins σ H1 { s1 with heap := h2 } := I1.kept (t' := s1.toks) kp
  have D : ZipApart (s1.heap.objs.size + 4) (s1.heap.objs.size + 2) (s1.heap.objs.size + 3) s1.heap.objs.size (s1.heap.objs.size + 1) a b := zapart la lb
  refine ⟨_, _, _, _, H1, rfl, I2, turn_zipT D, Z, fun c hc => ?_, q⟩
  have hc2 : s1.heap.objs.size ≤ c := by
    have hc' : c = s1.heap.objs.size + 4 ∨ c = s1.heap.objs.size + 2 ∨ c = s1.heap.objs.size + 3 ∨ c = s1.heap.objs.size ∨ c = s1.heap.objs.size + 1 := by simpa using hc
    exact zle hc'
  exact I1.fpOk hc2 (I1.hok.fresh hc2)
theorem for_zipT {K : PySem.W.Frag} {t1 t2 : Addr} {xs ys : List V} {n : Nat} {g : TG} {tb : TS} {D : Ends} {σ : St} {H : Hp} (hn : n = min xs.length ys.length) (Pv : Nat → St → Hp → Prop) (h0 : Pv 0 σ H) (hl : ∀ i σ H, i ≤ n → Pv i σ H → SqT K H t1 xs ∧ SqT K H t2 ys)
    (hs : ∀ i x y σ H T, xs[i]? = some x → ys[i]? = some y → Pv i σ H → H T = none → g (.ref T) σ (upd H T (.tup [x, y])) fun σ2 H2 => tb { D with nx := Pv (i + 1), ct := Pv (i + 1), bk := D.nx } σ2 H2) (hd : ∀ σ H, Pv n σ H → D.nx σ H) :
    ∃ W : Nat → Nat → St → Hp → Prop, (∃ m, W 0 m σ H) ∧ ∀ i m σ H, W i m σ H →
      ((Itz K t1 t2).stop i H ∧ D.nx σ H) ∨ ((Itz K t1 t2).go i H ∧ ∃ N : St → Hp → Prop, (∀ σ' H', N σ' H' → ∃ m', m' < m ∧ W (i + 1) m' σ' H') ∧ ∀ x H', (Itz K t1 t2).yld i H x H' → g x σ H' fun σ2 H2 => tb { D with nx := N, ct := N, bk := D.nx } σ2 H2) := by
  refine ⟨fun i m σ H => m = n - i ∧ i ≤ n ∧ Pv i σ H, ⟨n, by simp, Nat.zero_le _, h0⟩, ?_⟩
  rintro i m σ H ⟨rfl, hi, p⟩
  obtain ⟨q1, q2⟩ := hl i σ H hi p
  by_cases hlt : i < n
  · have a1 : i < xs.length := by omega
    have a2 : i < ys.length := by omega
    refine .inr ⟨⟨xs, ys, xs[i], ys[i], q1, q2, by simp [a1], by simp [a2]⟩, Pv (i + 1), fun σ' H' p' => ⟨n - (i + 1), by omega, rfl, hlt, p'⟩, fun v H' y => ?_⟩
    obtain ⟨T, x', y', hT, rfl, rfl, hx, hy⟩ := y
    exact hs i x' y' σ H T (hx xs q1) (hy ys q2) p hT
  · have e : i = n := by omega
    subst e
    exact .inl ⟨⟨xs, ys, q1, q2, by omega⟩, hd σ H p⟩
end L2

set_option Elab.async false
set_option linter.all false
set_option maxRecDepth 100000
set_option maxHeartbeats 3200000
namespace L2
open PySem PySem.Spec PyProof.Rows
/-! ### the unlike ones of a row of keys -/
@[reducible] def keyBEq : BEq Key := instBEqOfDecidableEq
local instance (priority := 10000) keyBEqI : BEq Key := keyBEq
local instance (priority := 10000) keyLaw : @LawfulBEq Key keyBEq := inferInstanceAs (@LawfulBEq Key instBEqOfDecidableEq)
def addK (σ : List Key) (k : Key) : List Key := if k ∈ σ then σ else σ ++ [k]
def metK (val : Nat → Key) : Nat → List Key
  | 0 => []
  | i + 1 => addK (metK val i) (val i)
theorem metK_le (val : Nat → Key) : ∀ i, (metK val i).length ≤ i
  | 0 => Nat.le_refl _
  | i + 1 => by
    have := metK_le val i
    show (addK (metK val i) (val i)).length ≤ i + 1
    unfold addK
    split
    · omega
    · rw [List.length_append]; simp; omega
def uniqK (ks : List Key) : List Key := metK (fun i => ks.getD i (.inl 0)) ks.length
section
variable {P : Program} {w : World} {A : Around} {R : Result → Shared → Prop} {I : Addr} {fp wr : List Addr} {G : Array GenState → Array GenState → Prop} {n : Nat} {Pr : Nat → Value → Prop} {St : Nat → Shared → Prop}
theorem setFill (W : WalksS P w A.in1 I fp wr G n Pr St) (D : Addr) (hD : D ∉ fp) (val : Nat → Key) (hval : ∀ i v, Pr i v → (mixKind P w).is (val i) v = true ∧ v.scannable = true) (hb : n + 1 < scanBound) :
    ∀ (k i : Nat) (s : Shared), n - i = k → i ≤ n → St i s → s.heap.SetOf (mixKind P w) D (fun q => decide (q ∈ metK val i)) (metK val i).length →
      (∀ s', Moved (D :: wr) G s s' → s'.heap.SetOf (mixKind P w) D (fun q => decide (q ∈ metK val n)) (metK val n).length → R (.ok (.ret .none)) s') →
      codeAny (model P w) A (.builtin "set.update.loop" ⟨[.ref D, .ref I], []⟩) R s := by
  have hDw : D ∉ wr := fun h => hD (W.sub _ h)
  have sub : ∀ b ∈ wr, b ∈ D :: wr := fun b h => List.mem_cons_of_mem _ h
  have mv : ∀ {s s' : Shared} {T : Key → Bool} {m : Nat}, Moved wr G s s' → s.heap.SetOf (mixKind P w) D T m → s'.heap.SetOf (mixKind P w) D T m := fun hm h => by
    obtain ⟨o, es, ep, tb, ho, rest⟩ := h
    exact ⟨o, es, ep, tb, hm.heap D _ hDw ho, rest⟩
  intro k
  induction k with
  | zero =>
    intro i s hk hi hst hS hR
    obtain rfl : i = n := by omega
    refine codeAny_builtin F.entry_set_update_loop ?_
    rw [Around.under_plainId F.plain_set_update_loop _]
    exact wpAny_bind (m := pyNext (.ref I)) (W.done s _ _ hst fun s' hm => wpAny_pure (hR s' (hm.mono sub) (mv hm hS)))
  | succ k ih =>
    intro i s hk hi hst hS hR
    have lt : i < n := by omega
    refine codeAny_builtin F.entry_set_update_loop ?_
    rw [Around.under_plainId F.plain_set_update_loop _]
    refine wpAny_bind (m := pyNext (.ref I)) (W.item i s _ _ lt hst fun v s' hP hst' hm => ?_)
    obtain ⟨hi1, hi2⟩ := hval i v hP
    have hS' := mv hm hS
    refine wpAny_bind (m := holding [v] (setAdd D v)) (wpAny_holding ?_)
    unfold setAdd
    refine wpAny_holding (wpAny_bind ((mixKind P w).pyHash (k := val i) hi1 ?_))
    have room : (metK val i).length + 1 < scanBound := by have := metK_le val i; omega
    refine wpAny_setAddHashed_of (knd := mixKind P w) (s := { s' with toks := s'.toks + 1 }) hi1 hi2 hS' room fun h' sb S2 => ?_
    have Sn : h'.SetOf (mixKind P w) D (fun q => decide (q ∈ metK val (i + 1))) (metK val (i + 1)).length := by
      refine SetOf_congr S2 (fun q => ?_) ?_
      · show (decide (q ∈ metK val i) || decide (q = val i)) = decide (q ∈ addK (metK val i) (val i))
        unfold addK
        by_cases h1 : val i ∈ metK val i
        · rw [if_pos h1]
          by_cases e : q = val i
          · subst e; simp [h1]
          · simp [e]
        · rw [if_neg h1]
          simp
      · show (if decide (val i ∈ metK val i) = true then _ else _) = (addK (metK val i) (val i)).length
        unfold addK
        by_cases h1 : val i ∈ metK val i
        · rw [if_pos h1, if_pos (decide_eq_true h1)]
        · rw [if_neg h1, if_neg (by simpa using h1)]
          simp
    refine wpAny_pure ⟨plainId_quiet F.plain_set_update_loop _, ih (i + 1) _ (by omega) lt (W.frame _ s' _ _ hst' (Nat.le_succ _) fun b hb' o e => ?_) Sn fun s'' m2 T2 => ?_⟩
    · rw [sb.2 b (fun h => hD (h ▸ hb'))]; exact e
    · refine hR s'' (Moved.trans W.gtrans ((hm.mono sub).then_heap (Nat.le_succ _) fun b o hb' e => ?_) m2) T2
      rw [sb.2 b (fun h => hb' (h ▸ List.mem_cons_self))]; exact e
end
section
variable {P : Program} {w : World} {A : Around} {E : Value → Shared → Prop} {s : Shared}
theorem call_set_keys {l : Addr} {items : Array Value} {ks : List Key} {Q : Value → Shared → Prop} (hh : A.handled = none) (hl : s.heap.IsList l items) (hlen : items.size = ks.length) (hi : ∀ i v, items[i]? = some v → (mixKind P w).is (ks.getD i (.inl 0)) v = true ∧ v.scannable = true) (hb : items.size + 1 < scanBound)
    (h : ∀ (h' : Heap) (tk : Nat), h'.SetOf (mixKind P w) s.heap.objs.size (fun q => decide (q ∈ uniqK ks)) (uniqK ks).length → (∀ b o, b < s.heap.objs.size → s.heap.get? b = some o → h'.get? b = some o) → Q (.ref s.heap.objs.size) { s with heap := h', toks := tk }) :
    wpAny (model P w) A (call (.type "set") [.ref l]) Q E s := by
  obtain ⟨c, tl, hmro⟩ := F.called_set.mro
  have hmade := F.called_set.made
  have hsub := F.called_set.sub
  refine wpAny_call (codeAny_of_tree (?_ : wpAny _ _ (callAny (.type "set") _) _ _ _))
  refine wpAny_pure ⟨Code.quiet_builtin _ (by decide +kernel), codeAny_builtin F.entry_type_call ?_⟩
  rw [Around.under_plain (weight_type_call_type "set" [.ref l] []) rfl]
  have k1 := F.called_set.notType
  have k2 := F.called_set.canCreate
  have hct := F.typeCall_set_1 (.ref l)
  repeat (any_goals (first | assumption | wp_step))
  refine codeAny_mono (code_set_new_1 (.ref l) (E := E) (Q₁ := fun obj s₁ => ∃ led : Bool, obj = .ref s.heap.objs.size ∧ s₁ = { s with heap := s.heap.push ⟨.type "set", none, .set #[] 0 (.fresh 0 0 led), #[]⟩ }) fun led => ⟨led, rfl, rfl⟩) fun r s₁ hr => ?_
  cases r with
  | error e => exact hr
  | ok fl =>
    cases fl with
    | ret obj =>
      obtain ⟨led, rfl, rfl⟩ := hr
      have hS : (s.heap.push ⟨.type "set", none, .set #[] 0 (.fresh 0 0 led), #[]⟩).get? s.heap.objs.size = some ⟨.type "set", none, .set #[] 0 (.fresh 0 0 led), #[]⟩ := Heap.get?_push_size _ rfl
      have hT : Shared.TypeIs { s with heap := s.heap.push ⟨.type "set", none, .set #[] 0 (.fresh 0 0 led), #[]⟩ } (.ref s.heap.objs.size) "set" := ⟨_, hS, rfl⟩
      have hli := F.called_set.init.lookup
      have hbi := F.called_set.init.bind (.ref s.heap.objs.size)
      repeat (any_goals (first | assumption | wp_step))
      refine codeAny_mono (codeAny_call_builtin (R := wants (fun r s₂ => r = .none ∧ ∃ h' tk, s₂ = { s with heap := h', toks := tk } ∧ h'.SetOf (mixKind P w) s.heap.objs.size (fun q => decide (q ∈ uniqK ks)) (uniqK ks).length ∧ (∀ b o, b < s.heap.objs.size → s.heap.get? b = some o → h'.get? b = some o)) E) F.called_set.init.plain F.entry_set_init (check_set_init_1 hT ?_)) fun r₂ s₂ hr₂ => ?_
      · obtain ⟨ol, hol, hcl, nl, hdl⟩ := hl
        obtain ⟨ocls, odict, odata, oslots⟩ := ol
        simp only at hcl hdl
        subst hcl; subst hdl
        have hol' : (s.heap.push ⟨.type "set", none, .set #[] 0 (.fresh 0 0 led), #[]⟩).get? l = some { cls := .type "list", dict := odict, data := .seq items nl, slots := oslots } := Heap.get?_push_of_some _ hol
        have hsls := F.sub_list_set
        have hslf := F.sub_list_frozenset
        have hne : (Value.type "list" == Value.type "dict") = false := by decide
        have hl1 : (s.heap.push ⟨.type "set", none, .set #[] 0 (.fresh 0 0 led), #[]⟩).IsList l items := ⟨_, hol', rfl, nl, rfl⟩
        unfold Builtin.«set.__init__» noKeywords Builtin.Frozenset.updateFrom
        generalize hPI : pyIter = PI
        wp_walk
        subst hPI
        refine wpAny_pyIter_list hl1 (wpAny_bind (wpAny_runValue ?_))
        have hlS : l < s.heap.objs.size := Heap.lt_size hol
        have hh3 : A.in1.in1.in1.handled = none := by simp [hh]
        have hneI : l ≠ (s.heap.push ⟨.type "set", none, .set #[] 0 (.fresh 0 0 led), #[]⟩).objs.size := by rw [Heap.size_push]; exact Nat.ne_of_lt (Nat.lt_succ_of_lt hlS)
        have hSf : s.heap.objs.size ∉ [(s.heap.push ⟨.type "set", none, .set #[] 0 (.fresh 0 0 led), #[]⟩).objs.size, l] := by
          rw [Heap.size_push]
          intro q
          rcases List.mem_cons.mp q with q | q
          · exact Nat.ne_of_lt (Nat.lt_succ_self _) q
          · exact Nat.ne_of_gt hlS (List.mem_singleton.mp q)
        refine setFill ((Walks.list hh3 _ l hneI items).toS) s.heap.objs.size hSf (fun i => ks.getD i (.inl 0)) hi hb (items.size - 0) 0 _ (by omega) (Nat.zero_le _) ⟨⟨_, Heap.get?_push_size _ rfl, rfl, rfl⟩, (hl1.push _)⟩ ?hS0 ?hR
        case hS0 =>
          have hget : ((s.heap.push ⟨.type "set", none, .set #[] 0 (.fresh 0 0 led), #[]⟩).push { cls := .type "list_iterator", data := .fields #[.ref l, .int 0 0] }).get? s.heap.objs.size = some ⟨.type "set", none, .set #[] 0 (.fresh 0 0 led), #[]⟩ := Heap.get?_push_of_some _ hS
          exact SetOf_congr ((setObjOf_fresh (knd := mixKind P w) led).setOf hget (by unfold scanBound; omega)) (fun q => by show false = decide (q ∈ ([] : List Key)); simp) rfl
        case hR =>
          intro s' hm hS'
          obtain ⟨h', g', d', tk', os'⟩ := s'
          obtain rfl : g' = s.gens := hm.gens
          obtain rfl : d' = s.drawn := hm.drawn
          obtain rfl : os' = s.os := hm.os
          show wpAny _ _ _ _ _ _
          refine wpAny_pure (?_ : wpAny _ _ (ret Value.none) _ _ _)
          rw [hlen] at hS'
          refine wpAny_pure ⟨rfl, h', tk', rfl, hS', fun b o hb' e => ?_⟩
          have n1 : b ≠ s.heap.objs.size := Nat.ne_of_lt hb'
          have n2 : b ≠ (s.heap.push ⟨.type "set", none, .set #[] 0 (.fresh 0 0 led), #[]⟩).objs.size := by rw [Heap.size_push]; exact Nat.ne_of_lt (Nat.lt_succ_of_lt hb')
          refine hm.heap b o (fun q => ?_) (Heap.get?_push_of_some _ (Heap.get?_push_of_some _ e))
          rcases List.mem_cons.mp q with q | q
          · exact n1 q
          · exact n2 (List.mem_singleton.mp q)
      · cases r₂ with
        | error e => exact hr₂
        | ok fl₂ =>
          cases fl₂ with
          | ret r =>
            obtain ⟨rfl, h', tk, rfl, hS', hk'⟩ := hr₂
            repeat (any_goals (first | assumption | wp_step))
            exact h _ _ hS' hk'
          | _ => exact hr₂.elim
    | _ => exact hr.elim
end
end L2

set_option Elab.async false
set_option linter.all false
set_option maxRecDepth 100000
set_option maxHeartbeats 1000000
namespace L2
open PySem PySem.Spec PyProof.Rows
/-! ### len(set(l)), sum(l), list(range(n)), l[a:b:c] -/
section
variable {X : Cx} {e l : Expr} {te tl : TE} {p pos p2 pos2 : Pos}
def tLenSet (K : PySem.W.Frag) (tl : TE) : TE := fun σ H Q => tl σ H fun x H1 => ∃ a ks, x = .ref a ∧ SqL K H1 a (ks.map kV) ∧ ks.length + 1 < scanBound ∧ Q (.int ((uniqK ks).length : Int)) H1
theorem boot_set : bootBuiltins "set" = some (.type "set") := by kernel_rfl
theorem kV_scan {k : Key} {u : Value} (r : RelV (kV k) u) : u.scannable = true := by
  cases k with
  | inl i => obtain ⟨t, rfl⟩ := (show ∃ t, u = Value.int i t from r); rfl
  | inr x => obtain ⟨t, rfl⟩ := (show ∃ t, u = Value.str x t from r); rfl
theorem pe_lenset (hc : X.calm = true) (h1 : X.mg "len" = none) (h2 : X.mg "set" = none) (hl : PE X l tl) (hg1 : Gl X "len" := by rfl) (hg2 : Gl X "set" := by rfl) (hs : notStar l = true := by rfl) :
    PE X (.Call (.Name "len" p) [.Call (.Name "set" p2) [l] [] pos2] [] pos) (tLenSet X.K tl) := by
  intro pins s σ H Q I h
  refine wpAny_Call_Name_kw (ld_blt I hg1 h1 boot_len ?_)
  refine PyProof.Rows.callWith_builtin1 ?_ (star_cons rfl) (star_none rfl)
  rw [star_cons rfl]
  refine (Calls.spliced_cons ?_ : wpAny _ _ (spliced ((false, eval (.Call (.Name "set" p2) [l] [] pos2) X.env) :: backTo pos (starEach [] X.env))) _ _ s)
  refine wpAny_Call_Name_kw (ld_blt I hg2 h2 boot_set ?_)
  have h' : (tCons tl tNil) σ H (fun vs H1 => match vs with | [x] => (∃ a ks, x = .ref a ∧ SqL X.K H1 a (ks.map kV) ∧ ks.length + 1 < scanBound ∧ Q (.int ((uniqK ks).length : Int)) H1) | _ => False) := h
  refine PyProof.Rows.callWith_type1 (thn ((pa_c hl pa_nil hs) pos2 pins s σ H _ I h') fun us s1 ⟨vs, H1, I1, r1, q1⟩ => ?_) (star_cons hs) (star_none rfl)
  match vs, q1, r1 with
  | [x], q1, r1 =>
  obtain ⟨a, ks, rfl, hq, hb, q⟩ := q1
  obtain ⟨u, rfl, ru⟩ := r1.one
  cases ru
  obtain ⟨its, rv, pl, hz⟩ := I1.list hq
  have hlen := rv.length
  rw [List.length_map] at hlen
  refine call_set_keys (ks := ks) (I1.ok.hd hc) pl.isList (by simpa using hlen.symm) (fun i v hv => ?_) (by rw [List.size_toArray, ← hlen]; exact hb) fun h' tk so k => Calls.spliced_nil ?_
  · have hv' : its[i]? = some v := by simpa using hv
    have hi : i < ks.length := by have := (List.getElem?_eq_some_iff.mp hv').1; omega
    obtain ⟨u', e', r'⟩ := rv.get (i := i) (x := kV ks[i]) (by simp [hi])
    rw [e'] at hv'
    cases hv'
    have e2 : ks.getD i (.inl 0) = ks[i] := by simp [List.getD_eq_getElem?_getD, hi]
    rw [e2]
    exact ⟨kV_is r', kV_scan r'⟩
  · obtain ⟨o, es, ep, t, ho, hex, hd, _, _, hsz, hf, hn⟩ := so
    have hbig : scanBound ≤ 2 ^ 62 := by decide
    refine call_len_set ho hex hd hf (by omega) ⟨.int ((uniqK ks).length : Int), H1, ?_, ⟨_, by rw [hn]⟩, q⟩
    exact I1.kept fun b o e => k b o (Heap.lt_size e) e
variable {lo hi : Option Expr} {st : Expr} {t1 t2 t3 : TO}
end
/-! ### isinstance(x, (T, ..)) -/
section
variable {X : Cx} {pins : List (Addr × Obj)} {σ : St} {H : Hp} {s : Shared}
theorem tyKit {x : V} {u t : Value} (I : Inv X pins σ H s) (rx : RelV x u) (ty : TyOf X.K H x t) : ∃ G : Heap → Prop, PySem.W.KitX X.K u t G ∧ G s.heap ∧ u ≠ .builtin "__main__.__loader__#opaque" := by
  cases ty with
  | non => cases (show u = Value.none from rx); exact ⟨_, PySem.W.kitx_none, True.intro, fun z => nomatch z⟩
  | bl y => cases (show u = Value.bool y from rx); exact ⟨_, PySem.W.kitx_bool, True.intro, fun z => nomatch z⟩
  | int i => obtain ⟨t, rfl⟩ := (show ∃ t, u = Value.int i t from rx); exact ⟨_, PySem.W.kitx_int, True.intro, fun z => nomatch z⟩
  | str y => obtain ⟨t, rfl⟩ := (show ∃ t, u = Value.str y t from rx); exact ⟨_, PySem.W.kitx_str, True.intro, fun z => nomatch z⟩
  | flt y => obtain ⟨t, rfl⟩ := (show ∃ t, u = Value.float y t from rx); exact ⟨_, PySem.W.kitx_float, True.intro, fun z => nomatch z⟩
  | @lst a xs ea =>
    cases (show u = Value.ref a from rx)
    obtain ⟨_, _, n, _, g⟩ := (show ObjOk X.prog X.w H s.heap a (.lst xs) from I.hok a _ ea)
    exact ⟨_, PySem.W.kitx_list, ⟨_, g, rfl⟩, fun z => nomatch z⟩
  | @frz a ob xs ea =>
    cases (show u = Value.ref a from rx)
    obtain ⟨_, _, _, n, _, g⟩ := (show ObjOk X.prog X.w H s.heap a (.frz ob (.lst xs)) from I.hok a _ ea)
    exact ⟨_, PySem.W.kitx_list, ⟨_, g, rfl⟩, fun z => nomatch z⟩
  | @tup a xs ea =>
    cases (show u = Value.ref a from rx)
    obtain ⟨_, _, _, o, g1, g2, _⟩ := (show ObjOk X.prog X.w H s.heap a (.tup xs) from I.hok a _ ea)
    exact ⟨_, PySem.W.kitx_tuple, ⟨o, g1, g2⟩, fun z => nomatch z⟩
  | @dK a kvs ea =>
    cases (show u = Value.ref a from rx)
    obtain ⟨_, _, vs, _, o, es, ep, g1, g2, _⟩ := (show ObjOk X.prog X.w H s.heap a (.dK kvs) from I.hok a _ ea)
    exact ⟨_, PySem.W.kitx_dict, ⟨o, g1, g2.1⟩, fun z => nomatch z⟩
  | @dT a kvs ea =>
    cases (show u = Value.ref a from rx)
    obtain ⟨_, _, xs, _, o, es, ep, g1, g2, _⟩ := (show ObjOk X.prog X.w H s.heap a (.dT kvs) from I.hok a _ ea)
    exact ⟨_, PySem.W.kitx_dict, ⟨o, g1, g2.1⟩, fun z => nomatch z⟩
  | @ins a C dx fs ea cl ha hn htk hm =>
    cases (show u = Value.ref a from rx)
    obtain ⟨mA, O, _⟩ := ins_get I.hok ea
    obtain ⟨od, J, _⟩ := O.look
    exact ⟨_, PySem.W.kitx_own (cl.get _) cl.hd ha hn htk hm, J, fun z => nomatch z⟩
def rIsiT (K : PySem.W.Frag) (ns : List String) : List V → Hp → VK → Prop := fun xs H Q => ∃ x T t b, xs = [x, .ref T] ∧ H T = some (.tup (ns.map V.ty)) ∧ TyOf K H x t ∧ PySem.W.kitAny K t (ns.map Value.type) = some b ∧ Q (.bl b) H
theorem vals_ty : ∀ {ns : List String} {us : List Value}, Vals (ns.map V.ty) us → us = ns.map Value.type
  | [], _, .nil => rfl
  | n :: ns, _, .cons r t => by
    rw [vals_ty t]
    cases (show _ = Value.type n from r)
    rfl
theorem call_isiT (ns : List String) : CallR X (.builtin "isinstance") (rIsiT X.K ns) := by
  intro pins s σ H xs us Q I r h
  obtain ⟨x, T, t, b, rfl, hT, ty, e, q⟩ := h
  cases r with
  | cons rx rest =>
  obtain ⟨u, rfl, ru⟩ := Vals.one rest
  cases ru
  obtain ⟨G, Z, g, ne⟩ := tyKit I rx ty
  obtain ⟨_, its, rv, ⟨cl, dd, dt, sl⟩, g1, g2, n, g3⟩ := (show ObjOk X.prog X.w H s.heap T (.tup (ns.map V.ty)) from I.hok T _ hT)
  have g2' : cl = .type "tuple" := g2
  have g3' : dt = .seq its.toArray n := g3
  subst g2' g3'
  exact PySem.W.kia_tup Z I.kIn g g1 (by rw [vals_ty rv]; exact e) ne fun tk => ⟨.bl b, H, I.tok _, rfl, q⟩
end
end L2

set_option Elab.async false
set_option linter.all false
set_option maxRecDepth 100000
set_option maxHeartbeats 1000000
namespace L2
open PySem PySem.Spec PyProof.Rows
/-! ### a class of the text that is called with keywords, defaults left out -/
/-- where a parameter's value comes from: the i-th argument, the j-th keyword, the j-th default -/
inductive Bi where
  | p (i : Nat)
  | k (j : Nat)
  | d (j : Nat) (v : V)
def Bi.val (ds us ws : List Value) : Bi → Value
  | .p i => us.getD i .none
  | .k j => ws.getD j .none
  | .d j _ => ds.getD j .none
def Bi.vv (vs zs : List V) : Bi → V
  | .p i => vs.getD i .non
  | .k j => zs.getD j .non
  | .d _ v => v
def Bi.ok (ds : List Value) : Bi → Prop
  | .d j v => RelV v (ds.getD j .none)
  | _ => True
theorem vals_getD {vs : List V} {us : List Value} (r : Vals vs us) (i : Nat) : RelV (vs.getD i .non) (us.getD i .none) := by
  rw [List.getD_eq_getElem?_getD, List.getD_eq_getElem?_getD]
  cases h : vs[i]? with
  | none =>
    have : us[i]? = none := by
      rw [List.getElem?_eq_none_iff] at h ⊢
      have := r.length
      omega
    rw [this]
    rfl
  | some x =>
    obtain ⟨u, hu, ru⟩ := r.get h
    rw [hu]
    exact ru
theorem bi_vals {ds us ws : List Value} {vs zs : List V} (r : Vals vs us) (rz : Vals zs ws) : ∀ {T : List Bi}, (∀ b ∈ T, b.ok ds) → Vals (T.map (Bi.vv vs zs)) (T.map (Bi.val ds us ws))
  | [], _ => .nil
  | b :: T, h => by
    refine .cons ?_ (bi_vals r rz fun c hc => h c (List.mem_cons_of_mem _ hc))
    have hb := h b List.mem_cons_self
    cases b with
    | p i => exact vals_getD r i
    | k j => exact vals_getD rz j
    | d j v => exact hb
/-- np arguments behind self, the keywords ks: the parameters get T -/
structure BT (K : PySem.W.Frag) (fd : FuncData) (ps : List Str) (np : Nat) (ks : List Str) (T : List Bi) : Prop where
  ex : ∃ ds : List Value, (∀ b ∈ T, b.ok ds) ∧ ∀ (s : Shared) (self : Value) (us ws : List Value), K.In s.heap → us.length = np → ws.length = ks.length → BindsTo s fd ⟨self :: us, ks.zip ws⟩ (ps.zip (self :: T.map (Bi.val ds us ws)))
theorem bt_mk {K : PySem.W.Frag} {fd : FuncData} {ps : List Str} {np : Nat} {ks : List Str} {T : List Bi} {A : Addr} {o : Obj} {items : List Value} {n : Nat} (hd : fd.defaults = .ref A) (ho : K.lookup A = some o) (hs : o.data = .seq items.toArray n) (hok : ∀ b ∈ T, b.ok items)
    (hb : ∀ (self : Value) (us ws : List Value), us.length = np → ws.length = ks.length → ∃ k, bindArgs fd ⟨self :: us, ks.zip ws⟩ = seqItems? fd.defaults >>= k ∧ k (some items.toArray) = pure (ps.zip (self :: T.map (Bi.val items us ws)))) : BT K fd ps np ks T :=
  ⟨items, hok, fun s self us ws X h1 h2 => let ⟨_, a, b⟩ := hb self us ws h1 h2; PySem.W.binds_K X hd ho hs a b⟩
def okAll (ds : List Value) : List Bi → Prop
  | [] => True
  | b :: T => b.ok ds ∧ okAll ds T
theorem okAll_mem {ds : List Value} : ∀ {T : List Bi}, okAll ds T → ∀ b ∈ T, b.ok ds
  | [], _, b, hb => by cases hb
  | c :: T, h, b, hb => by
    rcases List.mem_cons.mp hb with rfl | hb
    · exact h.1
    · exact okAll_mem h.2 b hb
theorem bt_mk' {K : PySem.W.Frag} {fd : FuncData} {ps : List Str} {np : Nat} {ks : List Str} {T : List Bi} {A : Addr} {o : Obj} {items : List Value} {n : Nat} (hd : fd.defaults = .ref A) (ho : K.lookup A = some o) (hs : o.data = .seq items.toArray n) (hok : okAll items T)
    (hb : ∀ (self : Value) (us ws : List Value), us.length = np → ws.length = ks.length → ∃ k, bindArgs fd ⟨self :: us, ks.zip ws⟩ = seqItems? fd.defaults >>= k ∧ k (some items.toArray) = pure (ps.zip (self :: T.map (Bi.val items us ws)))) : BT K fd ps np ks T :=
  bt_mk hd ho hs (okAll_mem hok) hb
structure FunD (K : PySem.W.Frag) (x qual : Str) (st : Stmt) (f : Addr) (fd : FuncData) : Prop where
  ex : ∃ (oc : Value) (od : Option Addr) (dV kV doc pm : Value) (an : Option Addr) (cdv ct : Value) (osl : Array (Option Value)),
    fd = PySem.W.fnOf x qual (defArgs st) (defBody st) (defScope st) dV kV doc pm an cdv ct ∧ K.lookup f = some ⟨oc, od, .func fd, osl⟩ ∧ PySem.W.codeIn K cdv qual = true
section
variable {P : Program} {w : World} {K : PySem.W.Frag} {mg : Str → Option Value} {base : Heap}
end
/-- the __init__ of a class that is called, and how its calls bind -/
structure IDefB (K : PySem.W.Frag) (C : Addr) (qual : Str) (st : Stmt) (Bs : PySem.W.Frag → FuncData → Prop) : Prop where
  ex : ∃ f fd, Mk K C f ∧ FunD K "__init__" qual st f fd ∧ Bs K fd
theorem initB_mk {K : PySem.W.Frag} {C : Addr} {qual : Str} {st : Stmt} {Bs : PySem.W.Frag → FuncData → Prop} {f : Addr} {oc : Value} {od an : Option Addr} {osl : Array (Option Value)} {dV kV doc pm cdv ct : Value}
    (a : PySem.W.findIn K (.ref C) "__init__" = some (some (.ref f))) (n : PySem.W.isFn K (.ref f) = true) (l : K.lookup f = some ⟨oc, od, .func (PySem.W.fnOf "__init__" qual (defArgs st) (defBody st) (defScope st) dV kV doc pm an cdv ct), osl⟩) (c : PySem.W.codeIn K cdv qual = true)
    (mk : PySem.W.makesIn K C = true) (kC : PySem.W.keepIn K (.ref C) = true) (b : Bs K (PySem.W.fnOf "__init__" qual (defArgs st) (defBody st) (defScope st) dV kV doc pm an cdv ct)) : IDefB K C qual st Bs :=
  ⟨⟨f, _, ⟨mk, a, n, kC⟩, ⟨⟨oc, od, dV, kV, doc, pm, an, cdv, ct, osl, rfl, l, c⟩⟩, b⟩⟩
def KnowsIB (CX : CXT) (P : Program) (w : World) (K : PySem.W.Frag) (mg : Str → Option Value) (base : Heap) (k : Nat) (C : Addr) (ps : List Str) (sp : Sp) (Bs : PySem.W.Frag → FuncData → Prop) : Prop :=
  ∃ f fd, Mk K C f ∧ Bs K fd ∧ FnOk P w K mg base CX k f fd ps sp
theorem IDefB.knows {P : Program} {w : World} {K : PySem.W.Frag} {mg : Str → Option Value} {base : Heap} {C : Addr} {CX : CXT} {qual : Str} {st : Stmt} {ps : List Str} {k : Nat} {sp : Sp} {Bs : PySem.W.Frag → FuncData → Prop} (D : IDefB K C qual st Bs)
    (h : ∀ f fd, FunD K "__init__" qual st f fd → FnOk P w K mg base CX k f fd ps sp) : KnowsIB CX P w K mg base k C ps sp Bs := by
  obtain ⟨f, fd, hm, F, hb⟩ := D.ex
  exact ⟨f, fd, hm, hb, h f fd F⟩
def tMakeB (C : Addr) (sp : Sp) (np nk : Nat) (T : List Bi) (E : XK) (t tk : TA) : TE := fun σ H Q => t σ H fun vs H1 => tk σ H1 fun zs H2 => vs.length = np ∧ zs.length = nk ∧
  ∀ x dx, H2 x = none → H2 dx = none → dx ≠ x → sp (.ref x :: T.map (Bi.vv vs zs)) (upd (upd H2 dx (.own x)) x (.ins C dx [])) (fun v H3 => v = .non ∧ Q (.ref x) H3) E
section
variable {X : Cx} {CX : CXT} {x : Str} {ps ks : List Str} {sp : Sp} {j k np : Nat} {T : List Bi} {e : Expr} {es : List Expr} {kws : List Keyword} {t tk : TA} {p pos : Pos} {E : XK} {C f : Addr} {fd : FuncData} {Bs : PySem.W.Frag → FuncData → Prop}
theorem run_makeB {pins : List (Addr × Obj)} {σ : St} {H : Hp} {s : Shared} {Q : VK} {us ws : List Value} {vs zs : List V} (M : Mk X.K C f) (F : FnOk X.prog X.w X.K X.mg X.base CX k f fd ps sp) (hr : Room (k + 1) X.A) (hb : BT X.K fd ps np ks T)
    (hx : Passes CX X E) (I : Inv X pins σ H s) (r : Vals vs us) (rz : Vals zs ws) (l1 : vs.length = np) (l2 : zs.length = ks.length)
    (h : ∀ x dx, H x = none → H dx = none → dx ≠ x → sp (.ref x :: T.map (Bi.vv vs zs)) (upd (upd H dx (.own x)) x (.ins C dx [])) (fun v H2 => v = .non ∧ Q (.ref x) H2) E) :
    wpAny (model X.prog X.w) X.A (call (.ref C) us (ks.zip ws)) (EP X pins σ Q) X.xe s := by
  have hq := h (s.heap.objs.size + 1) s.heap.objs.size (I.hok.fresh (Nat.le_succ _)) (I.hok.fresh (Nat.le_refl _)) (Nat.ne_of_lt (Nat.lt_succ_self _))
  have I2 := Inv.made (C := C) I
  obtain ⟨ds, ok, bt⟩ := hb.ex
  have r2 : Vals (V.ref (s.heap.objs.size + 1) :: T.map (Bi.vv vs zs)) (Value.ref (s.heap.objs.size + 1) :: T.map (Bi.val ds us ws)) := .cons rfl (bi_vals r rz ok)
  refine wpAny_call (make_map (f := f) (vs := us) (kw := ks.zip ws) I.kIn M.makes M.init (beq_iff_eq.mp M.fn) (codeAny_mono (F.run _ X.stack _ _ ⟨Value.ref (s.heap.objs.size + 1) :: us, ks.zip ws⟩ (Value.ref (s.heap.objs.size + 1) :: T.map (Bi.val ds us ws)) _ _ E (hr.make C us _)
    (I2.env0.make C us _) (bt _ _ us ws I2.kIn (by rw [← r.length]; exact l1) (by rw [← rz.length]; exact l2)) r2 hq) fun r s' hq' => ?_))
  cases r with
  | error e => exact hx pins σ _ _ e s' I2 hq'
  | ok fl =>
    cases fl with
    | ret u =>
      obtain ⟨v, H', I3, rv, ev, q3⟩ := I2.after hq'
      subst ev
      exact ⟨rv, ⟨V.ref (s.heap.objs.size + 1), H', I3, rfl, q3⟩⟩
    | next => exact False.elim hq'
    | brk => exact False.elim hq'
    | cont => exact False.elim hq'
theorem pe_makeB (F : KnowsIB CX X.prog X.w X.K X.mg X.base j C ps sp Bs) (sel : ∀ fd, Bs X.K fd → BT X.K fd ps np ks T) (hr : Room k X.A) (hm : X.mg x = some (.ref C)) (hx : Passes CX X E) (ha : PA X (e :: es) t) (hkw : PK X kws tk) (hjk : j + 1 ≤ k := by decide) (hg : Gl X x := by rfl)
    (hall : (backToKw pos (keywordEach kws X.env)).all (·.1.isSome) = true := by rfl) (hks : (backToKw pos (keywordEach kws X.env)).filterMap (·.1) = ks := by rfl) (hdb : (x == ("__debug__" : Str)) = false := by decide) (he : notStar e = true := by rfl)
    (hpl : ((backTo pos (starEach (e :: es) X.env)).any (·.1) || (backToKw pos (keywordEach kws X.env)).any (·.1.isNone)) = false := by rfl) :
    PE X (.Call (.Name x p) (e :: es) kws pos) (tMakeB C sp np ks.length T E t tk) := by
  obtain ⟨f, fd, M, hB, F⟩ := F
  have hb := sel fd hB
  intro pins s σ H Q I h
  refine wpAny_Call_Name_kw (ld_glob I hg hm ?_ hdb)
  refine PySem.W.callWith_KW (h₀ := X.base) I.ok.mod.kin M.kp hall (thn (ha pos pins s σ H _ I h) fun us s1 ⟨vs, H1, I1, r, q⟩ => ?_) hpl (star_cons he)
  refine thn (hkw pos pins s1 σ H1 _ I1 q) fun ws s2 ⟨zs, H2, I2, rz, l1, l2, q2⟩ => ⟨I2.kIn, ?_⟩
  rw [hks]
  exact run_makeB M F (hr.mono hjk) hb hx I2 r rz l1 l2 q2
end
end L2

set_option Elab.async false
set_option linter.all false
set_option maxRecDepth 100000
set_option maxHeartbeats 3200000
namespace L2
open PySem PySem.Spec PyProof.Rows
/-! ### dict(l), l a list of pairs -/
section
variable {P : Program} {w : World} {A : Around} {E : Value → Shared → Prop} {s : Shared}
end
namespace F
end F
section
variable {P : Program} {w : World} {A : Around} {R : Result → Shared → Prop} {I : Addr} {fp wr : List Addr} {G : Array GenState → Array GenState → Prop} {n : Nat} {Pr : Nat → Value → Prop} {St : Nat → Shared → Prop}
end
section
variable {P : Program} {w : World} {A : Around} {E : Value → Shared → Prop} {s : Shared}
end
section
variable {X : Cx}
end
end L2

set_option Elab.async false
set_option linter.all false
set_option maxRecDepth 100000
set_option maxHeartbeats 1000000
namespace L2
open PySem PySem.Spec PyProof.Rows
section
variable {X : Cx}
end
/-! ### isinstance(x, C), C a class of the text -/
section
variable {X : Cx} {pins : List (Addr × Obj)} {σ : St} {H : Hp} {s : Shared}
def rIsiO (K : PySem.W.Frag) (C : Addr) : List V → Hp → VK → Prop := fun xs H Q => ∃ x t b, xs = [x, .ref C] ∧ TyOf K H x t ∧ PySem.W.kitOne K t (.ref C) = some b ∧ Q (.bl b) H
theorem call_isiO (C : Addr) : CallR X (.builtin "isinstance") (rIsiO X.K C) := by
  intro pins s σ H xs us Q I r h
  obtain ⟨x, t, b, rfl, ty, e, q⟩ := h
  cases r with
  | cons rx rest =>
  obtain ⟨u, rfl, ru⟩ := Vals.one rest
  cases ru
  exact isinst_ok I rx ty e fun tk => ⟨.bl b, H, I.tok _, rfl, q⟩
end
end L2

set_option Elab.async false
set_option linter.all false
set_option maxRecDepth 100000
namespace L2
open PySem PySem.Spec PyProof.Rows
end L2

set_option Elab.async false
set_option linter.all false
set_option maxRecDepth 100000
namespace L2
open PySem PySem.Spec PyProof.Rows
/-! ### a method of an object whose class is one of some -/
section
variable {X : Cx} {CX : CXT} {ι : Type} {c : ι → Addr} {m : Str} {ps : List Str} {sp : ι → Sp} {j k : Nat} {o e : Expr} {es : List Expr} {ta : TE} {t : TA} {apos pos : Pos} {E : XK}
end
/-! ### a comprehension over a list of pairs, with a test -/
end L2

set_option Elab.async false
set_option linter.all false
set_option maxRecDepth 100000
namespace L2
open PySem PySem.Spec PyProof.Rows
/-! ### what is being handled, if anything is, has no context of its own -/
def Quiet (A : Around) (h : Heap) : Prop := A.handled = none ∨ ∃ (a : Addr) (o : Obj) (fs : Array Value), A.handled = some (.ref a) ∧ h.get? a = some o ∧ o.data = .fields fs ∧ fs[2]? = some .none
theorem Quiet.ext {A : Around} {h h' : Heap} (q : Quiet A h) (e : ∀ a o, A.handled = some (.ref a) → h.get? a = some o → h'.get? a = some o) : Quiet A h' := by
  rcases q with q | ⟨a, o, fs, a1, a2, a3, a4⟩
  · exact .inl q
  · exact .inr ⟨a, o, fs, a1, e a o a1 a2, a3, a4⟩
theorem Quiet.in1 {A : Around} {h : Heap} (q : Quiet A h) : Quiet A.in1 h := q
theorem entry_unchain : entryFor table "proto.unchain" = some Builtin.«proto.unchain» := by kernel_rfl
section
variable {prog : Program} {w : World} {A : Around} {E : Value → Shared → Prop} {s : Shared}
theorem raiseNewQ {α : Type} {x : Addr} {ox : Obj} {vs : Array Value} {Q : α → Shared → Prop} (hq : Quiet A s.heap) (hx : s.heap.get? x = some ox) (hd : ox.data = .fields vs) (h3 : 2 < vs.size) (hne : A.handled ≠ some (.ref x))
    (hE : ∀ h', Heap.SameBut x s.heap h' → (∃ o', h'.get? x = some o' ∧ o'.cls = ox.cls) → E (.ref x) { s with heap := h' }) : wpAny (model prog w) A (raiseNew (.ref x) : Sem α) Q E s := by
  simp only [raiseNew]
  refine wpAny_bind (wpAny_handled ?_)
  rcases hq with q | ⟨a, o, fs, a1, a2, a3, a4⟩
  · rw [q]
    exact wpAny_bind (wpAny_pure (wpAny_throw (hE s.heap (Heap.SameBut.refl ..) ⟨_, hx, rfl⟩)))
  · rw [a1]
    have hax : a ≠ x := fun z => hne (by rw [a1, z])
    have hb : ((Value.ref a) != (Value.ref x)) = true := by
      rw [bne_iff_ne]
      exact fun z => hax (by injection z)
    dsimp only
    rw [if_pos hb]
    refine wpAny_bind (wpAny_holding (wpAny_runValue ?_))
    refine codeAny_builtin entry_unchain ?_
    show wpAny _ _ (field (.ref a) 2 >>= _) _ _ s
    refine wpAny_bind (wpAny_field a2 a3 a4 ?_)
    show wpAny _ _ (ret Value.none) _ _ s
    refine wpAny_pure ?_
    refine wpAny_bind ?_
    simp only [updateField]
    refine wpAny_bind (wpAny_load hx ?_)
    rw [hd]
    dsimp only
    rw [if_pos h3]
    exact wpAny_update hx (wpAny_throw (hE _ (Heap.SameBut.update ..) ⟨_, Heap.get?_update_self _ hx (Obj.isFreed_of_fields (Obj.data_mapFields hd _)), Obj.cls_mapFields ..⟩))
end
end L2

set_option Elab.async false
set_option linter.all false
set_option maxRecDepth 100000
namespace L2
open PySem PySem.Spec PyProof.Rows
/-! ### an exception that is being handled, tracked -/
/-- an exception without a dict and without a context, of the class at C -/
def ExcO (a C : Addr) : HO := .ext fun h => ∃ o fs, h.get? a = some o ∧ o.cls = .ref C ∧ o.data = .fields fs ∧ fs[2]? = some Value.none ∧ o.dict = none
theorem exc_ok {P : Program} {w : World} {H : Hp} {h : Heap} {a C : Addr} (c : Ctx0 a h) (hc : ∃ o, h.get? a = some o ∧ o.cls = .ref C) : ObjOk P w H h a (ExcO a C) := by
  obtain ⟨o, fs, e, d, g, k⟩ := c
  obtain ⟨o', e', q⟩ := hc
  rw [e] at e'; cases e'
  refine ⟨⟨o, fs, e, q, d, g, k⟩, ⟨o, e⟩, fun h1 h2 p st => ?_⟩
  obtain ⟨o, fs, e, rest⟩ := p
  exact ⟨o, fs, st o e, rest⟩
theorem exc_at {P : Program} {w : World} {H : Hp} {h : Heap} {a C : Addr} (ok : HOk P w H h) (e : H a = some (ExcO a C)) : ∃ o fs, h.get? a = some o ∧ o.cls = .ref C ∧ o.data = .fields fs ∧ fs[2]? = some Value.none ∧ o.dict = none := (ok a _ e).1
/-- what of the text an exception's class must have -/
structure ECls (K : PySem.W.Frag) (C : Addr) : Prop where
  ga : PySem.W.findIn K (.ref C) "__getattribute__" = some (some (.builtin "BaseException.__getattribute__"))
  gh : PySem.W.findIn K (.ref C) "__getattr__" = some none
  be : PySem.W.mroIn K C (.type "BaseException") = some true
  hd : PySem.W.hasDictIn K C = true
  ha : PySem.W.findIn K (.ref C) "__class__" = some (some (.builtin "object.__class__"))
  hm : PySem.W.mroIn K C (.type "object") = some true
structure ECls0 (K : PySem.W.Frag) : Prop where
  hn : PySem.W.specialIn K (.builtin "object.__class__") "__get__" = some (some (.builtin "getset_descriptor.__get__"))
  htk : PySem.W.takesIn K (.builtin "object.__class__") = some true
theorem exc_class {prog : Program} {w : World} {A : Around} {E : Value → Shared → Prop} {s : Shared} {K : PySem.W.Frag} {x C : Addr} {ox : Obj} {Q : Option Value → Shared → Prop} (X : K.In s.heap) (I : PySem.W.InstAt s.heap x ox C none) (c : ECls K C) (c0 : ECls0 K)
    (q : Q (some (.ref C)) { s with toks := s.toks + 1 }) : wpAny (model prog w) A (getAttr? (.ref x) "__class__") Q E s := by
  obtain ⟨cd, hcd, _⟩ := PySem.W.any_some c.hd
  have hf : PySem.W.findObj K C none "__class__" = some (.bind (.builtin "getset_descriptor.__get__") (.builtin "object.__class__")) := by
    unfold PySem.W.findObj
    rw [hcd, Option.bind_some, c.ha, Option.bind_some]
    simp [c0.hn, c0.htk]
  obtain ⟨hh, g, d, t, os⟩ := s
  have L0 := I.type (M := model prog w)
  have L1 := PySem.W.looks_findIn (M := model prog w) X c.ga
  have LH : PySem.W.Looks (model prog w) hh (hookBefore (.ref C)) none := PySem.W.looks_hook X (by exact c.gh)
  have L2 := PySem.W.looks_find (M := model prog w) X I hf
  unfold getAttr? getAttrBy? getAttrBy
  refine wpAny_bind (wpAny_mkText (wpAny_bind (wpAny_attempt (wpAny_holding (wpAny_bind (L0.at (wpAny_bind (L1.at ?_))))))))
  dsimp only
  rw [show (onTheHeap (Value.ref C) && Value.builtin "BaseException.__getattribute__" == Value.builtin "object.__getattribute__") = false from by rw [show (Value.builtin "BaseException.__getattribute__" == Value.builtin "object.__getattribute__") = false from by decide +kernel, Bool.and_false], if_neg (by decide)]
  unfold getAttrByItsOwn
  refine wpAny_bind (LH.at (wpAny_bind (wpAny_attempt (wpAny_holding ?_))))
  unfold callGetattribute
  rw [show (false && onTheHeap (Value.builtin "BaseException.__getattribute__")) = false from rfl, if_neg (by decide)]
  unfold boundAndCalled
  rw [F.excAttr_ValueError.ga.bind]
  refine wpAny_bind (wpAny_pure ?_)
  show wpAny _ _ (call (.builtin "BaseException.__getattribute__") [.ref x, .str "__class__" t]) _ _ _
  refine wpAny_call ?_
  refine codeAny_call_builtin F.excAttr_ValueError.ga.plain F.entry_bexc_ga ?_
  refine @PySem.W.check_slot (model prog w) _ _ { heap := hh, gens := g, drawn := d, toks := t + 1, os := os } "BaseException.__getattribute__" "BaseException" "__getattribute__" (.ref x) [.str "__class__" t] [] _ (by decide +kernel) (by decide +kernel) (L0.andThen (PySem.W.looks_subIn X c.be)) (F.args_bexc_ga _ _) ?_
  unfold Builtin.«object.__getattribute__»
  refine wpAny_bind (wpAny_pure (wpAny_bind (wpAny_pure (wpAny_bind (L0.at (wpAny_bind (L2.at ?_)))))))
  show wpAny _ _ (holding [.builtin "object.__class__"] (call (.builtin "getset_descriptor.__get__") [.builtin "object.__class__", .ref x, .ref C]) >>= ret) _ _ _
  refine wpAny_bind (wpAny_holding (wpAny_call (PySem.W.class_get (s := { heap := hh, gens := g, drawn := d, toks := t + 1, os := os }) (ox := ox) (od := none) X I c.hm ?_)))
  refine wpAny_pure ?_
  exact PySem.W.handed_on rfl (wpAny_pure q)
theorem kitx_exc {K : PySem.W.Frag} {a C : Addr} (c : ECls K C) (c0 : ECls0 K) : PySem.W.KitX K (.ref a) (.ref C) (fun h => ∃ ox, PySem.W.InstAt h a ox C none) := by
  obtain ⟨cd, hcd, _⟩ := PySem.W.any_some c.hd
  have hc : ∃ o, K.lookup C = some o ∧ ∃ d, o.data = .cls d := by
    unfold PySem.W.clsIn at hcd
    split at hcd
    · rename_i ho
      exact ⟨_, ho, _, rfl⟩
    · cases hcd
  obtain ⟨oc, hl, dc, hdc⟩ := hc
  refine ⟨fun M h X p => ?_, fun M h X p => ?_, fun h tp dd its n sl X htp => ?_, fun {prog w A E Q s} X p q => ?_⟩
  · obtain ⟨ox, I⟩ := p
    exact I.type
  · intro A' Q' E' s' k q
    unfold isType loadHead
    refine wpAny_bind (wpAny_loadPart (k _ _ (X _ _ hl)) ?_)
    rw [hdc]
    exact wpAny_pure q
  · refine Bool.eq_false_iff.mpr fun q => ?_
    have e : C = tp := Value.ref.inj (beq_iff_eq.mp q)
    subst e
    have z := (X _ _ hl).symm.trans htp
    injection z with z
    rw [z] at hdc
    cases hdc
  · obtain ⟨ox, I⟩ := p
    exact exc_class X I c c0 q
section
variable {X : Cx}
/-- isinstance(e, D), e an exception, D a class of the text or a built-in one -/
def rIsiE (K : PySem.W.Frag) (D : Value) (vD : V) : List V → Hp → VK → Prop := fun xs H Q => ∃ a C b, xs = [.ref a, vD] ∧ H a = some (ExcO a C) ∧ ECls K C ∧ PySem.W.kitOne K (.ref C) D = some b ∧ Q (.bl b) H
theorem call_isiE {D : Value} {vD : V} (hD : ∀ u, RelV vD u → u = D) (c0 : ECls0 X.K) : CallR X (.builtin "isinstance") (rIsiE X.K D vD) := by
  intro pins s σ H xs us Q I r h
  obtain ⟨a, C, b, rfl, e, c, kit, q⟩ := h
  cases r with
  | cons rx rest =>
  obtain ⟨u, rfl, ru⟩ := Vals.one rest
  cases hD _ ru
  cases rx
  obtain ⟨o, fs, e1, e2, e3, e4, e5⟩ := exc_at I.hok e
  refine PySem.W.kia_one (kitx_exc c c0) I.kIn ⟨o, e1, e2, ?_, ?_⟩ kit (fun z => nomatch z) fun tk => ⟨.bl b, H, I.tok _, rfl, q⟩
  · unfold PySem.W.notCls
    rw [e3]
  · rw [e5]
    trivial
end
end L2

set_option Elab.async false
set_option linter.all false
set_option maxRecDepth 100000
namespace L2
open PySem PySem.Spec PyProof.Rows
section
variable {prog : Program} {w : World} {A : Around} {E : Value → Shared → Prop} {s : Shared}
/-- StopIteration is raised: what it leaves -/
theorem stopQ {α : Type} {Q : α → Shared → Prop} (hq : Quiet A s.heap) (hlt : ∀ a, A.handled = some (.ref a) → a < s.heap.objs.size)
    (hE : ∀ x h', s.heap.objs.size ≤ x → (∀ b o, s.heap.get? b = some o → h'.get? b = some o) → (∃ o', h'.get? x = some o' ∧ o'.cls = .type "StopIteration") → E (.ref x) { s with heap := h' }) :
    wpAny (model prog w) A (newExc (.type "StopIteration") [] >>= fun e => (raiseNew e : Sem α)) Q E s := by
  have ht : (s.heap.push { cls := Value.type "tuple", data := Data.seq #[] }).objs.size = s.heap.objs.size + 1 := by simp [Heap.push]
  have none_ : firstArgMember (.type "StopIteration") [] = pure Value.none := by first | rfl | (simp only [firstArgMember]; rfl)
  refine wpAny_bind ?_
  simp only [newExc, newTuple]
  refine wpAny_bind (wpAny_newObj_type (wpAny_bind (m := firstArgMember _ _) (wpAny_of_eq none_ (wpAny_newObj_type ?_ (by size_fits)))) (by size_fits))
  refine raiseNewQ (hq.ext fun a o h1 h2 => Heap.get?_push_of_some _ (Heap.get?_push_of_some _ h2)) (Heap.get?_push_size _ rfl) rfl (show 2 < 6 by decide) (fun z => ?_) fun h' sb ho => ?_
  · have h3 : (s.heap.push { cls := Value.type "tuple", data := Data.seq #[] }).objs.size < s.heap.objs.size := hlt _ z
    omega
  · obtain ⟨o', h1, h2⟩ := ho
    refine hE _ h' ?_ (fun b o e => ?_) ⟨o', h1, h2⟩
    · show s.heap.objs.size ≤ (s.heap.push { cls := Value.type "tuple", data := Data.seq #[] }).objs.size
      omega
    · exact (sb.2 b (Nat.ne_of_lt (Nat.lt_of_lt_of_le (Heap.lt_size e) (by rw [ht]; exact Nat.le_succ _)))).trans (Heap.get?_push_of_some _ (Heap.get?_push_of_some _ e))
end
/-! ### the exception that is handled is tracked -/
def HQ (A : Around) (H : Hp) : Prop := ∃ a C, A.handled = some (.ref a) ∧ H a = some (ExcO a C)
section
variable {X : Cx} {pins : List (Addr × Obj)} {σ : St} {H : Hp} {s : Shared}
theorem HQ.quiet (q : HQ X.A H) (I : Inv X pins σ H s) : Quiet X.A s.heap := by
  obtain ⟨a, C, h1, h2⟩ := q
  obtain ⟨o, fs, e1, e2, e3, e4, e5⟩ := exc_at I.hok h2
  exact .inr ⟨a, o, fs, h1, e1, e3, e4⟩
theorem HQ.lt (q : HQ X.A H) (I : Inv X pins σ H s) : ∀ a, X.A.handled = some (.ref a) → a < s.heap.objs.size := by
  obtain ⟨a, C, h1, h2⟩ := q
  obtain ⟨o, fs, e1, _⟩ := exc_at I.hok h2
  intro b hb
  rw [h1] at hb; cases hb
  exact Heap.lt_size e1
theorem HQ.same {A : Around} {H' : Hp} (q : HQ A H) (e : Same H H') : HQ A H' := by
  obtain ⟨a, C, h1, h2⟩ := q
  exact ⟨a, C, h1, e _ _ h2⟩
end
end L2

set_option Elab.async false
set_option linter.all false
set_option maxRecDepth 100000
namespace L2
open PySem PySem.Spec PyProof.Rows
/-! ### comprehensions where an exception is handled -/
structure TurnQ (P : Program) (w : World) (K : PySem.W.Frag) (A0 : Around) (tg : Expr) (J : It) (fp : List Addr) (it : Addr) (tn : Nat → Heap → Prop) : Prop where
  mem : it ∈ fp
  obj : ∀ i h, tn i h → ∀ b ∈ fp, ∃ o, h.get? b = some o ∧ ∀ v, o.data ≠ .cell v
  keep : ∀ i h h', tn i h → (∀ b ∈ fp, ∀ o, h.get? b = some o → h'.get? b = some o) → tn i h'
  item : ∀ (X : Cx), X.prog = P → X.w = w → X.K = K → X.A = A0 → ∀ (i : Nat) (pins : List (Addr × Obj)) (s : Shared) (σ : St) (H : Hp) (E : Value → Shared → Prop), Inv X pins σ H s → (∀ b ∈ fp, FpOk X pins H b) → tn i s.heap → J.go i H →
    wpAny (model P w) X.A (pyNext (.ref it)) (fun r s1 => ∃ u, r = some u ∧
      wpAny (model P w) X.A (letOwnedTupleGo tg (.ref it) u) (fun _ s2 => ∃ x H', Inv X pins σ H' s2 ∧ RelV x u ∧ J.yld i H x H' ∧ tn (i + 1) s2.heap ∧ ∀ b ∈ fp, H' b = none) E s1) E s
  done : ∀ (X : Cx), X.prog = P → X.w = w → X.K = K → X.A = A0 → ∀ (i : Nat) (pins : List (Addr × Obj)) (s : Shared) (σ : St) (H : Hp) (E : Value → Shared → Prop), Inv X pins σ H s → (∀ b ∈ fp, FpOk X pins H b) → tn i s.heap → J.stop i H →
    wpAny (model P w) X.A (pyNext (.ref it)) (fun r s1 => r = none ∧ Inv X pins σ H s1) E s
  self : ∀ (A : Around) (i : Nat) (s : Shared) (Q : Value → Shared → Prop) (E : Value → Shared → Prop), tn i s.heap → Q (.ref it) s → wpAny (model P w) A (pyIter (.ref it)) Q E s
def PIEQ (X : Cx) (pins : List (Addr × Obj)) (σ : St) (tg : Expr) (R : It → Hp → Prop) (itv : Value) (s2 : Shared) : Prop :=
  ∃ (it : Addr) (fp : List Addr) (tn : Nat → Heap → Prop) (J : It) (H' : Hp), itv = .ref it ∧ Inv X pins σ H' s2 ∧ TurnQ X.prog X.w X.K X.A tg J fp it tn ∧ tn 0 s2.heap ∧ (∀ b ∈ fp, FpOk X pins H' b) ∧ R J H'
def PIQ (X : Cx) (tg iter : Expr) (wi : TI) : Prop :=
  ∀ (pins : List (Addr × Obj)) (s : Shared) (σ : St) (H : Hp) (R : It → Hp → Prop), Inv X pins σ H s → wi σ H R →
    wpAny (model X.prog X.w) X.A (eval iter X.env) (fun v s1 => wpAny (model X.prog X.w) X.A (pyIter v) (PIEQ X pins σ tg R) X.xe s1) X.xe s
set_option maxHeartbeats 1000000 in
theorem pe_compQ {X : Cx} {elt iter tg : Expr} {pos : Pos} {ifs : List Expr} {scope : Scope} {wi : TI} {g : TG} {tc : TT} {te : TE} (own : List Str) (js : List Nat) (N' : List Str)
    (hi : PIQ X tg iter wi)
    (hg : ∀ C s₀ H₀ ex, PG (cxComp X scope N' C s₀ H₀ ex) tg g)
    (ht : ∀ C s₀ H₀ ex, PTs (cxComp X scope N' C s₀ H₀ ex) ifs tc)
    (he : ∀ C s₀ H₀ ex, PE (cxComp X scope N' C s₀ H₀ ex) elt te)
    (hN' : N' = own ++ js.map fun j => X.N.getD j Str.empty := by rfl)
    (hk : scope.kind = .function := by rfl)
    (hcell : ∀ y ∈ scope.names, y.2 ≠ .cell := by decide +kernel)
    (hnames : ∀ y ∈ scope.names, y.2 = .local → scope.names.lookup y.1 = some .local := by decide +kernel)
    (hfr : (scope.names.all fun y => y.2 != .free || X.env.scope.names.lookup y.1 == some .cell) = true := by rfl)
    (hjs : (js.all fun j => scope.names.lookup (X.N.getD j Str.empty) == some .free && (X.N[j]?).isSome) = true := by rfl)
    (hs : ∀ z, foldedSetIterable iter X.env z = pure z := by intro _; rfl) :
    PE X (.ListComp elt [⟨tg, iter, ifs, 0⟩] scope pos) (tComp own.length js wi g tc te) := by
  intro pins s σ H Q I h
  have free_cell : ∀ y ∈ scope.names, y.2 = .free → X.env.kindOf y.1 = some .cell := fun y hy hf => by
    have := List.all_eq_true.mp hfr y hy
    rw [hf] at this
    simp at this
    exact this
  have hcl : ∀ y ∈ scope.names, y.2 = .free → ∃ c, X.env.cells.lookup y.1 = some c := fun y hy hf => I.ok.has y.1 (.inl (free_cell y hy hf))
  rw [eval_ListComp]
  refine wpAny_comprehension_free (use := none) rfl hs (closureFor_eq hcl) hk hnames ?_
  refine thn (hi pins s σ H _ I h) fun v s1 h1 => thn h1 fun itv s2 h2 => ?_
  obtain ⟨it, fp, tn, J, H2, e, I2, T, st2, f2, W, ⟨m0, w0⟩, turn⟩ := h2
  subst e
  refine wpAny_newObj_type (wpAny_newFunctionEnv hcell (by intro y hy; simp at hy) (fun h₁ hns₁ hsb₁ => ?_) hk)
  dsimp only at hns₁ hsb₁ ⊢
  generalize hG : s2.heap.push { cls := .type "list", dict := none, data := .seq ([] : List Value).toArray } = G at hns₁ hsb₁ ⊢
  have hC : G.objs.size = s2.heap.objs.size + 1 := by rw [← hG, Heap.size_push]
  have hDC : s2.heap.objs.size ≠ G.objs.size := by rw [hC]; exact Nat.ne_of_lt (Nat.lt_succ_self _)
  have below : ∀ b, b < s2.heap.objs.size → b ≠ G.objs.size ∧ b ≠ s2.heap.objs.size := fun b hb => ⟨by rw [hC]; exact Nat.ne_of_lt (Nat.lt_succ_of_lt hb), Nat.ne_of_lt hb⟩
  have old : ∀ b o, s2.heap.get? b = some o → h₁.get? b = some o := fun b o e => hsb₁.extBut b o (below b (Heap.lt_size e)).1 (Heap.get?_push_of_some _ (hG ▸ Heap.get?_push_of_some _ e))
  have hacc : h₁.get? s2.heap.objs.size = some { cls := .type "list", data := .seq ([] : List Value).toArray 0 } := hsb₁.extBut _ _ hDC (Heap.get?_push_of_some _ (hG ▸ Heap.get?_push_size _ rfl))
  have fplt : ∀ b ∈ fp, b < s2.heap.objs.size := fun b hb => let ⟨_, e, _⟩ := T.obj _ _ st2 b hb; Heap.lt_size e
  have ok' : (cxComp X scope N' G.objs.size s2 H2 fp).Ok := by
    refine ⟨I2.ok.mod, hk, I2.ok.glob, I2.ok.blt, by show s2.heap.objs.size ≤ G.objs.size; rw [hC]; exact Nat.le_succ _, fun x y c e1 e2 => I2.ok.inj x y c (lookup_closOf hcl e1) (lookup_closOf hcl e2), fun x hx => ?_,
      fun x c hx _ => (nomatch hx), I2.ok.hd, I2.ok.frames, .inl rfl, fun b hb => ⟨(below b (fplt b hb)).1, fun x c e => (f2 b hb).2.2.2.2.1 x c (lookup_closOf hcl e)⟩, I2.bs, Nat.le_trans I2.ok.bsz I2.sz, fun b o e hb => ?_, fun b hb z => ?_, I2.stack, I2.stkFree⟩
    · have hx' : (relabel scope X.env).names.lookup x = some .cell ∨ (relabel scope X.env).names.lookup x = some .free := hx
      have : (x, NameKind.free) ∈ scope.names ∨ (x, NameKind.cell) ∈ scope.names := by
        rcases hx' with z | z
        · exact relabel_back z (.inl rfl)
        · exact relabel_back z (.inr rfl)
      rcases this with z | z
      · exact has_closOf z
      · exact absurd rfl (hcell _ z)
    · rcases (f2 b hb).2.2.2.1 with z | z
      · exact I2.ok.noex b o e z
      · have h1 : b < X.base.objs.size := Heap.lt_size e
        exact absurd (Nat.lt_of_lt_of_le h1 (Nat.le_trans I2.ok.bsz z)) (Nat.lt_irrefl _)
    · rcases List.mem_cons.mp (I2.stkSub b z) with e | e
      · exact (f2 b hb).2.1 e
      · exact (f2 b hb).2.2.1 e
  have kindCap : ∀ i y, (js.map fun j => X.N.getD j Str.empty)[i]? = some y → ∃ j, js[i]? = some j ∧ X.N[j]? = some y ∧ scope.names.lookup y = some .free := fun i y e => by
    rw [List.getElem?_map] at e
    cases q : js[i]? with
    | none => rw [q] at e; cases e
    | some j =>
      rw [q] at e
      have e' : X.N.getD j Str.empty = y := Option.some.inj e
      have hj := List.all_eq_true.mp hjs j (List.mem_of_getElem? q)
      rw [Bool.and_eq_true] at hj
      obtain ⟨hj1, hj2⟩ := hj
      rw [e'] at hj1
      obtain ⟨z, hz⟩ := Option.isSome_iff_exists.mp hj2
      rw [List.getD_eq_getElem?_getD, hz] at e'
      exact ⟨j, q, by rw [hz]; exact congrArg some e', by simpa using hj1⟩
  have I0 : ∀ tk : Nat, Inv (cxComp X scope N' G.objs.size s2 H2 fp) [(s2.heap.objs.size, { cls := .type "list", data := .seq ([] : List Value).toArray 0 })] (List.replicate own.length none ++ caps σ js) H2 { s2 with heap := h₁, toks := tk } := fun tk => by
    refine ⟨ok', rfl, I2.bare, Un.kept old, ⟨_, hns₁, fun i y v e1 e2 e3 => ?_⟩, fun x c e => ?_, I2.hok.fresh (by show s2.heap.objs.size ≤ G.objs.size; rw [hC]; exact Nat.le_succ _), fun x c e => I2.freeC x c (lookup_closOf hcl e), fun p hp => ?_, I2.hok.kept old, ?_⟩
    · by_cases hlt : i < own.length
      · rw [List.getElem?_append_left (by simpa using hlt), List.getElem?_replicate] at e2
        split at e2 <;> cases e2
      · have e1' : N'[i]? = some y := e1
        rw [hN', List.getElem?_append_right (by omega)] at e1'
        rw [List.getElem?_append_right (by simpa using hlt), List.length_replicate] at e2
        obtain ⟨j, hj, hs2⟩ := caps_get e2
        obtain ⟨j', hj', hN, hfree⟩ := kindCap _ _ e1'
        rw [hj] at hj'; cases hj'
        obtain ⟨m, hm, hl⟩ := I2.loc
        have hcell' : X.env.kindOf y = some .cell := free_cell (y, .free) (PySem.mem_of_lookup hfree) rfl
        obtain ⟨u, r, l⟩ := hl j y v hN hs2 (.inr (.inl hcell'))
        refine ⟨u, r, ?_⟩
        rcases l with ⟨hk', _⟩ | ⟨hk', c, hc', z⟩
        · rw [hcell'] at hk'; cases hk'
        · obtain ⟨c', e'⟩ := has_closOf (env := X.env) (PySem.mem_of_lookup hfree)
          have := lookup_closOf hcl e'
          rw [hc'] at this; cases this
          refine .inr ⟨.inl (lookup_relabel_free I2.ok.kind hfree hcell'), c, e', ?_⟩
          obtain ⟨o, ho, hd⟩ := z
          exact ⟨o, old _ _ ho, hd⟩
    · obtain ⟨v, o, ho, hd⟩ := I2.cell x c (lookup_closOf hcl e)
      exact ⟨v, o, old _ _ ho, hd⟩
    · have hp' : p = (s2.heap.objs.size, { cls := .type "list", data := .seq ([] : List Value).toArray 0 }) := by
        rcases List.mem_append.mp hp with z | z
        · exact absurd (show p ∈ ([] : List (Addr × Obj)) from z) (by simp)
        · simpa using z
      subst hp'
      refine ⟨hacc, I2.hok.fresh (Nat.le_refl _), hDC, fun z => ?_, fun v z => by cases z⟩
      exact absurd (show s2.heap.objs.size ∈ frs X.stack from z) fun z => by
        rcases List.mem_cons.mp (I2.stkSub _ z) with e | e
        · have := I2.lt
          rw [← e] at this
          exact Nat.lt_irrefl _ this
        · exact I2.nofs (Nat.le_refl _) e
    · show _ = N'.length
      rw [hN']
      simp [caps]
  have stat : ∀ {H' : Hp} {ob : Obj}, (∀ b ∈ fp, H' b = none) → ∀ b ∈ fp, FpOk (cxComp X scope N' G.objs.size s2 H2 fp) [(s2.heap.objs.size, ob)] H' b := fun {H' ob} hn b hb =>
    ⟨hn b hb, (below b (fplt b hb)).1, fun z => ok'.exfs b hb z, .inl hb, fun x c e => (f2 b hb).2.2.2.2.1 x c (lookup_closOf hcl e), fun p hp => by
      have hp' : p = (s2.heap.objs.size, ob) := by
        rcases List.mem_append.mp hp with z | z
        · exact absurd (show p ∈ ([] : List (Addr × Obj)) from z) (by simp)
        · simpa using z
      subst hp'
      exact Ne.symm (below b (fplt b hb)).2⟩
  have loop : ∀ s₃ : Shared, s₃ = { s2 with heap := h₁, toks := s2.toks + ([] : List (Str × Value)).length } →
      codeAny (model X.prog X.w) X.A (.compLoop (.ListComp elt [⟨tg, iter, ifs, 0⟩] scope pos) 0 (.ref it) (.ref s2.heap.objs.size) (compEnvC scope (closOf scope X.env) G.objs.size X.env))
        (compPost (model X.prog X.w) X.A X.xe none (EP X pins σ Q) (.ref s2.heap.objs.size) G.objs.size) s₃ := by
    rintro s₃ rfl
    refine comp_loop (fun n s' => ∃ (i : Nat) (os : St) (H' : Hp) (ys : List V) (its : List Value) (k : Nat), os.length = own.length ∧
      Inv (cxComp X scope N' G.objs.size s2 H2 fp) [(s2.heap.objs.size, { cls := .type "list", data := .seq its.toArray k })] (os ++ caps σ js) H' s' ∧ tn i s'.heap ∧ (∀ b ∈ fp, H' b = none) ∧ Vals ys its ∧ W i n ys H') ?_ m0
      ⟨0, _, H2, [], [], 0, by simp, I0 _, T.keep _ _ _ st2 fun b _ o e => old b o e, fun b hb => (f2 b hb).1, .nil, w0⟩
    rintro n s3 ⟨i, os, H3, ys, its, k, hos, I3, st3, fr3, rv3, w3⟩
    have pinD : ∀ {σ' : St} {H' : Hp} {s' : Shared}, Inv (cxComp X scope N' G.objs.size s2 H2 fp) [(s2.heap.objs.size, { cls := .type "list", data := .seq its.toArray k })] σ' H' s' → s'.heap.get? s2.heap.objs.size = some { cls := .type "list", data := .seq its.toArray k } ∧ H' s2.heap.objs.size = none :=
      fun I => let q := I.pin (s2.heap.objs.size, { cls := .type "list", data := .seq its.toArray k }) (List.mem_append_right _ (by simp)); ⟨q.1, q.2.1⟩
    rcases turn i n ys H3 w3 with ⟨stop, hz, qn⟩ | ⟨go, hz, step⟩
    · refine thn (T.done (cxComp X scope N' G.objs.size s2 H2 fp) rfl rfl rfl rfl i _ s3 _ H3 _ I3 (stat fr3) st3 stop) fun r s4 ⟨hr, I4⟩ => ?_
      subst hr
      obtain ⟨hD4, hn4⟩ := pinD I4
      obtain ⟨m, hm, _⟩ := I4.loc
      refine ⟨m, hm, fun h' hsb => ?_⟩
      have b4 := I4.base
      have nC : ∀ b o, s2.heap.get? b = some o → b ≠ G.objs.size := fun b o e => (below b (Heap.lt_size e)).1
      have nD : ∀ b o, s2.heap.get? b = some o → b ≠ s2.heap.objs.size := fun b o e => (below b (Heap.lt_size e)).2
      have hok' : HOk X.prog X.w H3 h' := fun b ob e => by
        refine (I4.hok b ob e).stay (fun c w' hc' q => (hsb.2 c ?_).trans q) (fun _ q => q) fun _ _ q => q
        rintro rfl
        rcases hc' with hc' | hc'
        · rw [← hc', show H3 G.objs.size = none from I4.free] at e; cases e
        · rw [show H3 G.objs.size = none from I4.free] at hc'; cases hc'
      have hD' : h'.get? s2.heap.objs.size = some { cls := .type "list", data := .seq its.toArray k } := (hsb.2 _ hDC).trans hD4
      refine ⟨.ref s2.heap.objs.size, upd H3 s2.heap.objs.size (.lst ys), ?_, rfl, qn _ hn4⟩
      refine I2.call' (ch := fp) I4.os ⟨fun b o e n hb hx => ?_, fun b o e n hb hx => ?_, fun b o e n hx => ?_, fun b o e hx => ?_, fun b xs q => ?_, fun b o u q => ?_, fun b ps q => ?_⟩ (hok'.track hn4 ⟨hz, its, k, rv3, hD'⟩) I4.bare fun b hb => ⟨(f2 b hb).2.2.2.1, (f2 b hb).2.1, (f2 b hb).2.2.2.2.1, (f2 b hb).2.2.2.2.2⟩
      · exact (hsb.2 b (nC b o e)).trans (b4.keep b o e n hb hx)
      · obtain ⟨sl, e1⟩ := b4.slot b o e n hb hx
        exact ⟨sl, (hsb.2 b (nC b o e)).trans e1⟩
      · rw [upd_ne (nD b o e)]; exact b4.free b o e n hx
      · obtain ⟨o', e1⟩ := b4.there b o e hx
        exact ⟨o', (hsb.2 b (nC b o e)).trans e1⟩
      · have z := b4.tups b xs q
        rw [upd_ne (ne_of_none z hn4)]; exact z
      · have z := b4.frzs b o u q
        rw [upd_ne (ne_of_none z hn4)]; exact z
      · obtain ⟨more, z⟩ := b4.tbls b ps q
        exact ⟨more, by rw [upd_ne (ne_of_none z hn4)]; exact z⟩
    · refine thn (T.item (cxComp X scope N' G.objs.size s2 H2 fp) rfl rfl rfl rfl i _ s3 _ H3 _ I3 (stat fr3) st3 go) fun r s4 ⟨u, hr, h4⟩ => ?_
      subst hr
      refine thn h4 fun _ s5 ⟨x, H5, I5, r5, y5, st5, fr5⟩ => ?_
      have fpo := T.obj _ _ st5
      have I5' := I5.pinned (stat fr5) fpo
      refine wpAny_mono (hg _ _ _ _ _ s5 _ H5 x u _ I5' r5 (step x H5 y5 os hos)) (fun _ s6 ⟨σ6, H6, I6, ⟨os', hos', e6⟩, q6⟩ => ?_) fun _ _ z => False.elim z
      subst e6
      refine wpAny_mono (ht _ _ _ _ _ s6 _ H6 _ I6 q6) (fun ok s7 ⟨H7, I7, q7⟩ => ?_) fun _ _ z => False.elim z
      have keepFp : ∀ {σ' : St} {H' : Hp} {s' : Shared}, Inv (cxComp X scope N' G.objs.size s2 H2 fp) ([(s2.heap.objs.size, { cls := .type "list", data := .seq its.toArray k })] ++ pinsAt fp s5.heap) σ' H' s' → tn (i + 1) s'.heap ∧ ∀ b ∈ fp, H' b = none := fun I => by
        refine ⟨T.keep _ _ _ st5 fun b hb o e => (I.pin (b, o) (List.mem_append_right _ (List.mem_append_right _ (mem_pinsAt hb e)))).1, fun b hb => ?_⟩
        obtain ⟨o, e, d⟩ := fpo b hb
        exact (I.pin (b, o) (List.mem_append_right _ (List.mem_append_right _ (mem_pinsAt hb e)))).2.1
      cases ok with
      | false =>
        obtain ⟨m', hm', w'⟩ := q7
        obtain ⟨k1, k2⟩ := keepFp I7
        exact ⟨m', hm', i + 1, os', H7, ys, its, k, hos', I7.unpinned, k1, k2, rv3, w'⟩
      | true =>
        rw [if_pos rfl]
        refine wpAny_mono (he _ _ _ _ _ s7 _ H7 _ I7 q7) (fun yv s8 ⟨y, H8, I8, r8, q8⟩ => ?_) fun _ _ z => False.elim z
        obtain ⟨m', hm', w'⟩ := q8
        obtain ⟨k1, k2⟩ := keepFp I8
        have I8' := I8.unpinned
        obtain ⟨hD8, hn8⟩ := pinD I8'
        have hil : its.length < sizeLine := by rw [← rv3.length]; exact hz
        refine call_meets F.slot_list_append ⟨_, hD8, rfl⟩ F.entry_list_append (F.args_list_append_2 _ _) (PySem.list_append _ its.toArray k yv (by rw [List.size_toArray]; omega)) ⟨hD8, ?_⟩
        have q : (s8.heap.update s2.heap.objs.size (Obj.mapSeq fun a => a.push yv)).get? s2.heap.objs.size = some { cls := .type "list", data := .seq (its ++ [yv]).toArray (if (its.toArray.push yv).size == its.toArray.size then k else k + 1) } := by
          have q0 := PySem.IsL.update hD8 (fun a : Array Value => a.push yv)
          have ea : its.toArray.push yv = (its ++ [yv]).toArray := by simp
          rw [← ea]
          exact q0
        refine ⟨m', hm', i + 1, os', H8, ys ++ [y], its ++ [yv], (if (its.toArray.push yv).size == its.toArray.size then k else k + 1), hos', ?_, T.keep _ _ _ k1 fun b hb o e => (Heap.get?_update_other s8.heap _ (below b (fplt b hb)).2.symm).trans e, k2, rv3.append (.cons r8 .nil), w'⟩
        have In : Inv (cxComp X scope N' G.objs.size s2 H2 fp) [] (os' ++ caps σ js) H8 s8 := I8'.pins_of fun p hp => absurd hp (by simp)
        have It : Inv (cxComp X scope N' G.objs.size s2 H2 fp) [] (os' ++ caps σ js) H8 { s8 with heap := s8.heap.update s2.heap.objs.size (Obj.mapSeq fun a => a.push yv) } :=
          In.turned (it := s2.heap.objs.size) (t' := s8.toks) (fun b o hb e => (Heap.get?_update_other s8.heap _ (Ne.symm hb)).trans e) hn8 hDC (.inr (Nat.le_refl _)) (fun x c e z => by
            obtain ⟨v, o, ho, hd⟩ := I8'.cell x c e
            rw [z, hD8] at ho
            cases ho
            cases hd) fun p hp => absurd hp (by simp [cxComp])
        refine It.pins_of fun p hp => ?_
        have hp' : p = (s2.heap.objs.size, { cls := .type "list", data := .seq (its ++ [yv]).toArray (if (its.toArray.push yv).size == its.toArray.size then k else k + 1) }) := List.mem_singleton.mp hp
        subst hp'
        exact ⟨q, hn8, hDC, (I8'.pin _ (List.mem_append_right _ (List.mem_singleton.mpr rfl))).2.2.2.1, fun v z => by cases z⟩
  exact codeAny_compStart_list (loop _ rfl) (T.self _ 0 _ _ _ (T.keep _ _ _ st2 fun b _ o e => old b o e) (loop _ rfl))
end L2

set_option Elab.async false
set_option linter.all false
set_option maxRecDepth 100000
namespace L2
open PySem PySem.Spec PyProof.Rows
/-! ### a def that is called where an exception is handled -/
structure RoomQ (k : Nat) (A : Around) : Prop where
  dp : A.depth + 3 * k + 5 < recursionLimit
  un : A.units + 16 * k + 200 < cLine
theorem RoomQ.mono {j k : Nat} {A : Around} (r : RoomQ k A) (h : j ≤ k) : RoomQ j A := ⟨by have := r.dp; omega, by have := r.un; omega⟩
theorem RoomQ.deeper {k : Nat} {A : Around} (r : RoomQ (k + 1) A) (env : Env) : RoomQ k (A.deeper env) :=
  ⟨by have := r.dp; show A.depth + 1 + 3 * k + 5 < _; omega, by have := r.un; show A.units + 3 + 16 * k + 200 < _; omega⟩
theorem RoomQ.depth {k : Nat} {A : Around} (r : RoomQ k A) : A.depth < recursionLimit := by have := r.dp; omega
theorem RoomQ.units0 {k : Nat} {A : Around} (r : RoomQ k A) : A.units < cLine := by have := r.un; omega
theorem Room.q {k : Nat} {A : Around} (r : Room k A) : RoomQ k A := ⟨r.dp, r.un⟩
theorem RoomQ.mark {k : Nat} {A : Around} (r : RoomQ k A) (h : Option Value) : RoomQ k (A.mark h) := ⟨r.dp, r.un⟩
structure FnOkQ (P : Program) (w : World) (K : PySem.W.Frag) (mg : Str → Option Value) (base : Heap) (CX : CXT) (k : Nat) (f : Addr) (fd : FuncData) (ps : List Str) (sp : Sp) : Prop where
  len : ∀ vs H Q E, sp vs H Q E → vs.length = ps.length
  run : ∀ (A : Around) (outer : List Env) (s : Shared) (H : Hp) (args : Args) (us : List Value) (vs : List V) (Q : VK) (E : XK), RoomQ k A → HQ A H → Env0 P w K mg base A outer s H → BindsTo s fd args (ps.zip us) → Vals vs us → sp vs H Q E →
    codeAny (model P w) A (.call (.ref f) args) (CR CX outer P w H s Q E) s
def cxOfQ (CX : CXT) (P : Program) (w : World) (K : PySem.W.Frag) (mg : Str → Option Value) (base : Heap) (N : List Str) (qual : Str) (scope : Scope) (f : Addr) (cd : Value) (A : Around) (outer : List Env) (s : Shared) (H : Hp) (E : XK) : Cx :=
  { cxOf CX P w K mg base N qual scope f cd A outer s H E with calm := false }
theorem inv_startQ {CX : CXT} {P : Program} {w : World} {K : PySem.W.Frag} {mg : Str → Option Value} {base : Heap} {N ps : List Str} {qual : Str} {scope : Scope} {f : Addr} {cd : Value} {A : Around} {outer : List Env} {s s1 : Shared} {H : Hp} {E : XK} {us : List Value} {vs : List V}
    (S : FnScope N ps scope) (e0 : Env0 P w K mg base A outer s H) (hl : vs.length = ps.length) (r : Vals vs us)
    (x : InCallC s s.heap.objs.size (bindL (envOfC qual scope s.heap.objs.size f cd).kindOf (ps.zip us) fun _ => none) (cellsFrom (s.heap.objs.size + 1) scope.names []) (bindC (envOfC qual scope s.heap.objs.size f cd).kindOf (ps.zip us) fun _ => none) s1) :
    Inv (cxOfQ CX P w K mg base N qual scope f cd A outer s H E) [] (start N vs) H s1 := by
  have hpl : ps.length ≤ N.length := by have := congrArg List.length S.pre; rw [List.length_take] at this; omega
  obtain ⟨h1, tk, rfl, hk⟩ := x.done
  have noA : ∀ b : Addr, b ∉ (cxOfQ CX P w K mg base N qual scope f cd A outer s H E).ex := fun b z => absurd (show b ∈ ([] : List Addr) from z) (by simp)
  refine ⟨⟨e0.mod, S.kind, rfl, rfl, Nat.le_refl _, fun y z c h1 h2 => ?_, fun y hy => ?_, fun y c _ h => ?_, (fun z => by cases z), Around.frames_deeper e0.frames, .inr ⟨rfl, rfl⟩, fun b z => absurd z (noA b), e0.bs, e0.bsz, fun b _ _ => noA b, fun b z => absurd z (noA b), e0.funs, e0.frf⟩,
    rfl, e0.bare, Un.kept hk, ⟨_, x.toInCall.ns, fun i y v h1 h2 h3 => ?_⟩, fun y c h => ⟨_, x.cell y c h⟩, e0.hok.fresh (Nat.le_refl _), fun y c h => ?_, fun p hp => absurd (show p ∈ ([] : List (Addr × Obj)) from hp) (by simp), e0.hok.kept hk, ?_⟩
  · exact name_of_addr x.apart (PySem.mem_of_lookup h1) (PySem.mem_of_lookup h2)
  · have hy : scope.names.lookup y = some .cell ∨ scope.names.lookup y = some .free := hy
    rcases hy with hy | hy
    · exact cell_has hy
    · exact absurd rfl (S.nofree _ (PySem.mem_of_lookup hy))
  · exact Nat.le_of_lt (x.above y c (PySem.mem_of_lookup h))
  · have hi : i < vs.length := by
      unfold start at h2
      by_cases hi : i < vs.length
      · exact hi
      · rw [List.getElem?_append_right (by simpa using hi)] at h2
        rw [List.getElem?_replicate] at h2
        split at h2 <;> cases h2
    have ha : vs[i]? = some v := by
      unfold start at h2
      rw [List.getElem?_append_left (by simpa using hi), List.getElem?_map] at h2
      cases e : vs[i]? with
      | none => rw [e] at h2; cases h2
      | some a => rw [e] at h2; cases h2; rfl
    obtain ⟨u, hu, rv⟩ := r.get ha
    have hp : ps[i]? = some y := by
      rw [← S.pre, List.getElem?_take_of_lt (by omega)]; exact h1
    have ndP : ps.Nodup := by rw [← S.pre]; exact S.nd.sublist (List.take_sublist _ _)
    refine ⟨u, rv, ?_⟩
    rcases S.par y (List.mem_of_getElem? hp) with k | k
    · exact .inl ⟨k, bindL_get ndP hp hu k⟩
    · obtain ⟨c, e⟩ := cell_has (n := s.heap.objs.size + 1) k
      refine .inr ⟨.inl k, c, e, ?_⟩
      have q := x.cell y c e
      rw [bindC_get ndP hp hu (by show scope.names.lookup y ≠ _; rw [k]; decide)] at q
      exact q
  · exact e0.hok.fresh (Nat.le_of_lt (x.above y c (PySem.mem_of_lookup h)))
  · unfold start
    show _ = N.length
    rw [List.length_append, List.length_map, List.length_replicate]
    omega

theorem fn_ofQ {CX : CXT} {P : Program} {w : World} {K : PySem.W.Frag} {mg : Str → Option Value} {base : Heap} {k : Nat} {f : Addr} {name qual : Str} {params : Arguments} {body : List Stmt} {scope : Scope} {dV kV doc pm cdv ct oc : Value} {an od : Option Addr}
    {osl : Array (Option Value)} {N ps : List Str} {sp : Sp} (lk : K.lookup f = some ⟨oc, od, .func (PySem.W.fnOf name qual params body scope dV kV doc pm an cdv ct), osl⟩) (hcd : PySem.W.codeIn K cdv qual = true) (S : FnScope N ps scope)
    (len : ∀ vs H Q E, sp vs H Q E → vs.length = ps.length)
    (hbody : ∀ (A : Around) (outer : List Env) (s : Shared) (H : Hp) (vs : List V) (Q : VK) (E : XK), RoomQ k (A.deeper (envOfC qual scope s.heap.objs.size f cdv)) → HQ (A.deeper (envOfC qual scope s.heap.objs.size f cdv)) H → sp vs H Q E →
      ∃ t, PSs (cxOfQ CX P w K mg base N qual scope f cdv A outer s H E) body t ∧ t { nx := fun _ H' => Q .non H', rt := Q } (start N vs) H) :
    FnOkQ P w K mg base CX (k + 1) f (PySem.W.fnOf name qual params body scope dV kV doc pm an cdv ct) ps sp := by
  refine ⟨len, fun A outer s H args us vs Q E hr hq0 e0 hb r hsp => ?_⟩
  have hl := len _ _ _ _ hsp
  have KX : K.In s.heap := e0.mod.kin.keeps fun b o e => (e0.bs b o e).1
  have lim : s.heap.NoLimit := e0.mod.nolimit.keeps fun b o e => (e0.bs b o e).1
  have hkind : ∀ y ∈ ps.zip us, scope.names.lookup y.1 = some .local ∨ (scope.names.lookup y.1 = some .cell ∧ ((cellsFrom (s.heap.objs.size + 1) scope.names []).lookup y.1).isSome = true) := fun ⟨n, v⟩ hy => by
    rcases S.par n (List.of_mem_zip hy).1 with q | q
    · exact .inl q
    · exact .inr ⟨q, PySem.W.cellsFrom_some _ _ _ (.inl q)⟩
  refine codeAny_call_function hr.depth (KX _ _ lk) rfl S.co S.gen rfl (PySem.W.codeRec_of KX hcd) (hb _ _ _ _ ?_)
  refine wpAny_newFunctionEnv_cells S.kind hkind fun env he s1 x => ?_
  subst he
  refine ⟨lim.keeps x.toInCall.keep, codeAny_func ?_⟩
  obtain ⟨t, ht, hq⟩ := hbody A outer s H vs Q E (hr.deeper _) hq0 hsp
  have I : Inv (cxOfQ CX P w K mg base N qual scope f cdv A outer s H E) [] (start N vs) H s1 := inv_startQ S e0 hl r x
  refine wpAny_mono (ht [] s1 (start N vs) H _ I hq) (fun fl s' hs => ?_) fun e s' hs => hs
  have fin : ∀ {σ' : St} {H' : Hp} {v : V} {u : Value}, Inv (cxOfQ CX P w K mg base N qual scope f cdv A outer s H E) [] σ' H' s' → RelV v u → Q v H' → CE outer P w H s Q u s' :=
    fun {σ' H' v u} J rv q => ⟨v, H', J.os, J.bare, J.base, J.hok, rv, q⟩
  cases fl with
  | ret u =>
    obtain ⟨v, σ', H', J, rv, q⟩ := hs
    exact fin J rv q
  | next =>
    obtain ⟨σ', H', J, q⟩ := hs
    exact fin (v := V.non) (u := Value.none) J rfl q
  | brk =>
    obtain ⟨_, _, _, q⟩ := hs
    exact False.elim q
  | cont =>
    obtain ⟨_, _, _, q⟩ := hs
    exact False.elim q

def KnowsQ (P : Program) (w : World) (K : PySem.W.Frag) (mg : Str → Option Value) (base : Heap) (k : Nat) (x : Str) (ps : List Str) (sp : Sp) : Prop :=
  ∃ f fd, mg x = some (.ref f) ∧ PySem.W.keepIn K (.ref f) = true ∧ Binds K fd ps [] ∧ FnOkQ P w K mg base CX0 k f fd ps sp
theorem Def.okQ {P : Program} {w : World} {K : PySem.W.Frag} {mg : Str → Option Value} {base : Heap} {x : Str} {st : Stmt} {N ps : List Str} {k : Nat} {sp : Sp} (D : Def K mg x st ps) (S : FnScope N ps (defScope st)) (len : ∀ vs H Q E, sp vs H Q E → vs.length = ps.length)
    (hbody : ∀ (f : Addr) (cdv : Value) (A : Around) (outer : List Env) (s : Shared) (H : Hp) (vs : List V) (Q : VK) (E : XK), RoomQ k (A.deeper (envOfC x (defScope st) s.heap.objs.size f cdv)) → HQ (A.deeper (envOfC x (defScope st) s.heap.objs.size f cdv)) H → sp vs H Q E →
      ∃ t, PSs (cxOfQ CX0 P w K mg base N x (defScope st) f cdv A outer s H E).nox (defBody st) t ∧ t { nx := fun _ H' => Q .non H', rt := Q } (start N vs) H) : KnowsQ P w K mg base (k + 1) x ps sp := by
  obtain ⟨f, fd, F, hm, hb⟩ := D.ex
  refine ⟨f, fd, hm, F.kp, hb, ?_⟩
  obtain ⟨oc, od, kV, doc, pm, an, cdv, ct, osl, rfl, lk, hcd⟩ := F.ex
  refine fn_ofQ lk hcd S len fun A outer s H vs Q E hr hq hsp => ?_
  obtain ⟨t, h, q⟩ := hbody f cdv A outer s H vs Q E hr hq hsp
  exact ⟨t, h.nox, q⟩
def tCallQ (A : Around) (sp : Sp) (t : TA) : TE := fun σ H Q => t σ H fun vs H1 => HQ A H1 ∧ sp vs H1 Q E0
section
variable {X : Cx} {x : Str} {ps : List Str} {sp : Sp} {j k : Nat} {e : Expr} {es : List Expr} {t : TA} {p pos : Pos}
theorem pe_callQ (F : KnowsQ X.prog X.w X.K X.mg X.base j x ps sp) (hr : RoomQ k X.A) (ha : PA X (e :: es) t) (hjk : j ≤ k := by decide) (hg : Gl X x := by rfl) (hdb : (x == ("__debug__" : Str)) = false := by decide)
    (he : notStar e = true := by rfl) (hpl : es.all notStar = true := by rfl) : PE X (.Call (.Name x p) (e :: es) [] pos) (tCallQ X.A sp t) := by
  obtain ⟨f, fd, hm, hk, hb, F⟩ := F
  intro pins s σ H Q I h
  refine wpAny_Call_Name_kw (ld_glob I hg hm ?_ hdb)
  refine PySem.W.callWith_K (h₀ := X.base) I.ok.mod.kin hk (thn (ha pos pins s σ H _ I h) fun us s1 ⟨vs, H1, I1, r, q0, q⟩ => ⟨I1.kIn, ?_⟩) (star_cons he) (star_none hpl)
  have hl : us.length = ps.length := by rw [← r.length]; exact F.len _ _ _ _ q
  have hbind := hb s1 us I1.kIn (by rw [List.append_nil]; exact hl)
  rw [List.append_nil] at hbind
  refine wpAny_call (codeAny_mono (F.run X.A X.stack s1 H1 ⟨us, []⟩ us vs Q E0 (hr.mono hjk) q0 I1.env0 hbind r q) fun res s' hq => ?_)
  cases res with
  | error e => exact pass0 pins σ H1 s1 e s' I1 hq
  | ok fl =>
    cases fl with
    | ret u => exact I1.after hq
    | next => exact False.elim hq
    | brk => exact False.elim hq
    | cont => exact False.elim hq
end
end L2

set_option Elab.async false
set_option linter.all false
set_option maxRecDepth 100000
namespace L2
open PySem PySem.Spec PyProof.Rows
/-! ### try: .. except NAME as n: return .. -/
theorem un_track {fs ex : List Addr} {H H' : Hp} {h h' : Heap} {a : Addr} {o : HO} (u : Un fs ex H H' h h') (n : H' a = none) (new : h.get? a = none) : Un fs ex H (upd H' a o) h h' := by
  refine ⟨u.keep, u.slot, fun b ob e hn hx => ?_, u.there, fun b xs q => ?_, fun b ob v q => ?_, fun b ps q => ?_⟩
  · rw [upd_ne (fun z => by rw [z, new] at e; cases e)]
    exact u.free b ob e hn hx
  · have z := u.tups b xs q
    rw [upd_ne (ne_of_none z n)]; exact z
  · have z := u.frzs b ob v q
    rw [upd_ne (ne_of_none z n)]; exact z
  · obtain ⟨more, z⟩ := u.tbls b ps q
    exact ⟨more, by rw [upd_ne (ne_of_none z n)]; exact z⟩
/-- a name is gone: nothing is said of the names -/
theorem inv_gone {X : Cx} {pins : List (Addr × Obj)} {σ : St} {H : Hp} {s : Shared} {h' : Heap} {m' : Str → Option Value} {t' : Nat} (I : Inv X pins σ H s) (hn' : h'.Ns X.env.locals m') (hs : Heap.SameBut X.env.locals s.heap h') :
    Inv X pins (List.replicate X.N.length none) H { s with heap := h', toks := t' } := by
  have cne := I.cne
  obtain ⟨m, hn, _⟩ := id I.loc
  have lt : ∀ b o, X.s₀.heap.get? b = some o → b ≠ X.env.locals := fun b o e => Nat.ne_of_lt (Nat.lt_of_lt_of_le (Heap.lt_size e) I.ok.above)
  refine ⟨I.ok, I.os, I.bare, ⟨fun b o e n hb hx => ?_, fun b o e n hb hx => ?_, I.base.free, fun b o e hx => ?_, I.base.tups, I.base.frzs, I.base.tbls⟩, ⟨m', hn', fun j y v' e1 e2 e3 => ?_⟩, fun y c e => ?_, I.free, I.freeC, fun p hp => ?_, fun b ob e => ?_, by simp⟩
  · exact (hs.2 b (lt b o e)).trans (I.base.keep b o e n hb hx)
  · obtain ⟨sl, e1⟩ := I.base.slot b o e n hb hx
    exact ⟨sl, (hs.2 b (lt b o e)).trans e1⟩
  · obtain ⟨o', e1⟩ := I.base.there b o e hx
    exact ⟨o', (hs.2 b (lt b o e)).trans e1⟩
  · rw [List.getElem?_replicate] at e2
    split at e2 <;> cases e2
  · obtain ⟨w', z⟩ := I.cell y c e
    exact ⟨w', z.sameBut hs (cne y c e)⟩
  · obtain ⟨e, n, ne, nf, d⟩ := I.pin p hp
    exact ⟨(hs.2 p.1 ne).trans e, n, ne, nf, d⟩
  · refine (I.hok b ob e).stay (fun c w' hc q => (hs.2 c ?_).trans q) (fun _ q => q) fun _ _ q => q
    rintro rfl
    have hfree := I.free
    rcases hc with rfl | hc
    · rw [hfree] at e; cases e
    · rw [hfree] at hc; cases hc
/-- within the except's suite, which raises nothing -/
abbrev Cx.inExcN (X : Cx) (a : Addr) : Cx := { X with A := X.A.mark (some (.ref a)), calm := false, xe := fun _ _ => False }
section
variable {X : Cx} {pins : List (Addr × Obj)} {σ : St} {H : Hp} {s : Shared} {a : Addr}
theorem Inv.inExcN (I : Inv X pins σ H s) (a : Addr) : Inv (X.inExcN a) pins σ H s :=
  ⟨⟨I.ok.mod, I.ok.kind, I.ok.glob, I.ok.blt, I.ok.above, I.ok.inj, I.ok.has, I.ok.cab, (fun z => by cases z), I.ok.frames, I.ok.stk, I.ok.exf, I.ok.bs, I.ok.bsz, I.ok.noex, I.ok.exfs, I.ok.funs, I.ok.frf⟩,
    I.os, I.bare, I.base, I.loc, I.cell, I.free, I.freeC, I.pin, I.hok, I.len⟩
theorem Inv.outExcN (ok : X.Ok) (I : Inv (X.inExcN a) pins σ H s) : Inv X pins σ H s :=
  ⟨ok, I.os, I.bare, I.base, I.loc, I.cell, I.free, I.freeC, I.pin, I.hok, I.len⟩
end
def tTryAs (K : PySem.W.Frag) (Dc : Addr) (i : Nat) (tb : (St → XK) → TS) (ts : Addr → TS) : TS := fun D σ H => ∃ Eb : St → XK, tb Eb D σ H ∧ ∀ σ' C H', Eb σ' (.ref C) none H' → PySem.W.exmOne K (.ref C) (.ref Dc) = some true ∧
  ∀ a, H' a = none → ts a { nx := fun _ _ => False, rt := D.rt } (σ'.set i (some (.ref a))) (upd H' a (ExcO a C))
section
variable {X : Cx} {x n : Str} {i : Nat} {np hpos pos : Pos} {body : List Stmt} {b₀ : Stmt} {suite : List Stmt} {Dc : Addr} {tb : (St → XK) → TS} {ts : Addr → TS}
theorem ps_tryAs (hst : X.stack = X.env :: X.outer) (hfm : X.env.frame = some X.env.locals) (hm : X.mg x = some (.ref Dc)) (hE : ∀ a, PassesOwnAt (model X.prog X.w) (X.A.mark (some (.ref a))) X.A X.env X.xe)
    (hN : X.N.Nodup) (hi : X.N[i]? = some n) (hln : X.env.scope.names.lookup n = some .local)
    (hb : ∀ (Eb : St → XK) (pn : List (Addr × Obj)) (xe : Value → Shared → Prop), Lands (X.inTry pn xe) Eb → PSs (X.inTry pn xe) body (tb Eb)) (hs : ∀ a, PSs (X.inExcN a) (b₀ :: suite) (ts a))
    (hg : Gl X x := by rfl) (hdb : (x == ("__debug__" : Str)) = false := by decide) : PS X (.Try body [.ExceptHandler (some (.Name x np)) (some n) (b₀ :: suite) hpos] [] [] pos) (tTryAs X.K Dc i tb ts) := by
  intro pins s σ H D I h
  obtain ⟨Eb, htb, hts⟩ := h
  refine wpAny_Try_except ?_
  refine wpAny_mono ((hb Eb (X.pn ++ pins) _ ?_) [] s σ H D (I.inTry _) htb) (fun f s1 hsp => ?_) (fun e s1 z => z)
  · intro pins' σ' H1 s1 e s' I1 hx
    obtain ⟨a, C, a0, H', B, rfl, os, bare, un, hok, fl, st, cov, nf, c0, hEb⟩ := hx
    obtain ⟨hmatch, hts'⟩ := hts σ' C H' hEb
    rw [show (X.inTry (X.pn ++ pins) _).stack = X.stack from rfl] at fl un cov nf
    have fl1 := fl
    rw [hst] at fl1
    have hfr : X.A.frames = some (X.env :: X.outer) := by rw [← hst]; exact I.ok.frames
    have afs : a ∉ frs X.stack := fun z => by
      obtain ⟨o, e1, hd⟩ := flying_data fl a z
      obtain ⟨o', fs, e2, d, _⟩ := c0
      rw [e1] at e2; cases e2
      exact hd _ d
    have hBa : B.get? a = none := fl.2.1
    have hHa : H' a = none := by
      cases z : H' a with
      | none => rfl
      | some o =>
        obtain ⟨ob, e⟩ := cov a afs (.inr ⟨o, z⟩)
        rw [hBa] at e; cases e
    have hsa : s1.heap.get? a = none := by
      cases z : s1.heap.get? a with
      | none => rfl
      | some o =>
        obtain ⟨ob, e⟩ := cov a afs (.inl ⟨o, z⟩)
        rw [hBa] at e; cases e
    have go : ∀ (h5 : Heap) (a0' : Value), Heap.FlyingW B (X.env :: X.outer) a (.ref C) a0' h5 → s'.heap.UpToSlots h5 → Inv X pins σ' H' { s' with heap := h5 } := fun h5 a0' fl5 up5 =>
      (I1.call' (s' := { s' with heap := h5 }) os (un_step un cov fl.1 fl5.1 up5 (flying_data fl)) (hok_step hok cov fl.1 fl5.1 nf) bare (fun b z => by cases z)).outTry
    have go2 : ∀ (h5 : Heap) (a0' : Value), Heap.FlyingW B (X.env :: X.outer) a (.ref C) a0' h5 → s'.heap.UpToSlots h5 → Ctx0 a h5 → Inv X pins σ' (upd H' a (ExcO a C)) { s' with heap := h5 } := fun h5 a0' fl5 up5 c5 =>
      (I1.call' (s' := { s' with heap := h5 }) os (un_track (un_step un cov fl.1 fl5.1 up5 (flying_data fl)) hHa hsa) ((hok_step hok cov fl.1 fl5.1 nf).track hHa (exc_ok c5 fl5.there)) bare (fun b z => by cases z)).outTry
    refine wpAny_mono (tame_any (a := a) (s := s') tame_noteFrame c0 (wpAny_looks_onW (E := fun _ _ => False) (Q := fun _ s2 => ∃ h2 : Heap, s2 = { s' with heap := h2 } ∧ Heap.HeldW B (X.env :: X.outer) a (.ref C) a0 X.env.locals h2 ∧ s'.heap.UpToSlots h2) hfr hfm fl1 fun h4 held4 up4 => ⟨h4, rfl, held4, up4⟩)) (fun _ s4 ⟨⟨h4, e4, held4, up4⟩, c4⟩ => ?_) (fun _ _ z => z.1.elim)
    subst e4
    refine wpAny_mono (tame_any (a := a) (s := { s' with heap := h4 }) tame_setFlight c4 (wpAny_landsW (E := fun _ _ => False) (Q := fun _ s2 => ∃ h2 : Heap, s2 = { s' with heap := h2 } ∧ Heap.FlyingW B (X.env :: X.outer) a (.ref C) a0 h2 ∧ h4.UpToSlots h2) held4 fun h5 fl5 up5 => ⟨h5, rfl, fl5, up5⟩)) (fun _ s5 ⟨⟨h5, e5, fl5, up5⟩, c5⟩ => ?_) (fun _ _ z => z.1.elim)
    subst e5
    have I5 := go h5 _ fl5 (up4.trans up5)
    obtain ⟨ob, hob, hobc⟩ := fl5.there
    refine wpAny_handleBy_cons (codeAny_handlers_test (ld_glob (X := X.inExc a) (I5.inExc a) hg hm ?_ hdb)) (by intro q; cases q)
    have LT : PySem.W.Looks (model X.prog X.w) h5 (typeOf (.ref a)) (.ref C) := by
      rw [← hobc]
      exact (PySem.W.Looks.ld hob).andThen .now
    refine PySem.W.exm_one I5.kIn LT hmatch _ _ _ _ (fun b o q => q) ?_
    refine codeAny_handlers_suite_as ?_
    refine wpAny_mono (tame_any (a := a) (s := { s' with heap := h5 }) tame_setFlight c5 (lands_againW (E := fun _ _ => False) (Q := fun _ s2 => ∃ h2 : Heap, s2 = { s' with heap := h2 } ∧ Heap.FlyingW B (X.env :: X.outer) a (.ref C) a0 h2 ∧ h5.UpToSlots h2) fl5 fun h6 fl6 up6 => ⟨h6, rfl, fl6, up6⟩)) (fun _ s6 ⟨⟨h6, e6, fl6, up6⟩, c6⟩ => ?_) (fun _ _ z => z.1.elim)
    subst e6
    have I6 := (go2 h6 _ fl6 ((up4.trans up5).trans up6) c6).inExcN a
    refine store_ok (X := X.inExcN a) (v := .ref a) I6 hN hi (.inl hln) rfl (fun s7 I7 => ?_) (.inr hln)
    refine wpAny_mono (hs a pins s7 _ _ { nx := fun _ _ => False, rt := D.rt } I7 (hts' a hHa)) (fun f s8 q => ?_) (fun _ _ z => z.elim)
    cases f with
    | next => obtain ⟨_, _, _, z⟩ := q; exact z.elim
    | brk => obtain ⟨_, _, _, z⟩ := q; exact z.elim
    | cont => obtain ⟨_, _, _, z⟩ := q; exact z.elim
    | ret u =>
      obtain ⟨v, σ8, H8, I8, rv, q8⟩ := q
      have I8' : Inv X pins σ8 H8 s8 := I8.outExcN I.ok
      obtain ⟨m8, hn8, _⟩ := id I8'.loc
      refine wpAny_nameGoes hln hn8 (by rw [I.ok.kind]; rfl) fun h9 m9 hn9 sb9 => ?_
      exact ⟨v, _, H8, inv_gone I8' hn9 sb9, rv, q8⟩
  · have q := hsp.outTry
    cases f with
    | next => exact wpAny_execs_nil q
    | brk => exact q
    | cont => exact q
    | ret u => exact q
end
end L2

set_option Elab.async false
set_option linter.all false
set_option maxRecDepth 100000
namespace L2
open PySem PySem.Spec PyProof.Rows
end L2

set_option Elab.async false
set_option linter.all false
set_option maxRecDepth 100000
namespace WM
open PySem PySem.StrLaws

end WM

set_option Elab.async false
set_option linter.all false
set_option maxRecDepth 100000
namespace L2
open PySem PySem.Spec PyProof.Rows
/-! ### any(xs) of a list of truths -/
section
variable {X : Cx}
end
/-! ### a def that a name of the frame holds -/
section
variable {X : Cx} {x y : Str} {ps : List Str} {sp : Sp} {j k : Nat} {e : Expr} {es : List Expr} {t : TA} {p pos : Pos} {f : Addr}
end
/-! ### a comprehension over a zip of two tuples -/
end L2

set_option Elab.async false
set_option linter.all false
set_option maxRecDepth 100000
namespace L2
open PySem PySem.Spec PyProof.Rows
open PySem.AutoSeq1 (wpAny_loadPart')
section
variable {s : Shared} {A : Around} {l : Addr} {o : Obj} {es : Array DictEntry} {ep : Nat}
end
theorem pass1N {P : Program} {w : World} {base : Heap} {X : Cx} : Passes (CX1 P w base) X E0 := by
  intro pins σ H s e s' I h
  obtain ⟨a, C, a0, H', B, rfl, os, bare, un, hok, fl, st, cov, nf, c0, hEb⟩ := h
  exact hEb.elim
end L2

set_option Elab.async false
set_option linter.all false
set_option maxRecDepth 100000
namespace L2
open PySem PySem.Spec PyProof.Rows
section
variable {X : Cx}
end
end L2

set_option Elab.async false
set_option linter.all false
set_option maxRecDepth 100000
namespace L2
open PySem PySem.Spec PyProof.Rows
/-! ### d.values() -/
section
variable {X : Cx} {o : Expr} {td : TE} {apos cpos : Pos}
/-! ### a dict frozen while its values are walked -/
end
/-! ### the walk -/
end L2

set_option Elab.async false
set_option linter.all false
set_option maxRecDepth 100000
namespace L2
open PySem PySem.Spec PyProof.Rows
/-! ### f'..' -/
def PJ (X : Cx) (es : List Expr) (t : Str → TE) : Prop := ∀ (pins : List (Addr × Obj)) (s : Shared) (σ : St) (H : Hp) (Q : VK) (acc : Str), Inv X pins σ H s → t acc σ H Q →
  wpAny (model X.prog X.w) X.A (joinParts acc (evalEach es X.env)) (EP X pins σ Q) X.xe s
section
variable {X : Cx} {e a b : Expr} {es : List Expr} {te : TE} {t : Str → TE} {pos : Pos}
theorem pj_nil : PJ X [] (fun acc σ H Q => acc.length ≤ sizeLine ∧ Q (.str acc) H) := by
  intro pins s σ H Q acc I h
  exact joinParts_nil ⟨.str acc, H, I.tok _, ⟨_, rfl⟩, h.2⟩ h.1
theorem pj_cons (he : PE X e te) (hr : PJ X es t) : PJ X (e :: es) (fun acc σ H Q => te σ H fun x H1 => ∃ y, x = .str y ∧ (acc ++ y).length ≤ sizeLine ∧ t (acc ++ y) σ H1 Q) := by
  intro pins s σ H Q acc I h
  show wpAny _ _ (joinParts acc (eval e X.env :: evalEach es X.env)) _ _ _
  refine joinParts_cons (thn (he pins s σ H _ I h) fun u s1 ⟨x, H1, I1, r, y, ex, hz, q⟩ => ?_)
  subst ex
  obtain ⟨tk, rfl⟩ := r
  exact ⟨hz, hr pins s1 σ H1 Q _ I1 q⟩
theorem pe_fstr (h : PJ X (a :: b :: es) t) : PE X (.JoinedStr (a :: b :: es) pos) (t Str.empty) := by
  intro pins s σ H Q I q
  exact JoinedStr_many (h pins s σ H Q Str.empty I q)
/-- {x}, a text or a number -/
theorem pe_fmt (he : PE X e te) : PE X (.FormattedValue e (-1) none pos) (fun σ H Q => te σ H fun x H1 => (∃ z, x = .str z ∧ z.length ≤ sizeLine ∧ Q (.str z) H1) ∨ (∃ i : Int, x = .int i ∧ i.natAbs.log2 < 1920 ∧ Q (.str (toString i)) H1)) := by
  intro pins s σ H Q I h
  refine FormattedValue_plain (thn (he pins s σ H _ I h) fun u s1 ⟨x, H1, I1, r, q⟩ => ?_)
  rcases q with ⟨z, rfl, hz, q⟩ | ⟨i, rfl, hi, q⟩
  · obtain ⟨tk, rfl⟩ := r
    exact formatField_str (fun t' tk => ⟨.str z, H1, I1.tok _, ⟨_, rfl⟩, q⟩) hz
  · obtain ⟨tk, rfl⟩ := r
    exact formatField_int_small hi ⟨.str (toString i), H1, I1.tok _, ⟨_, rfl⟩, q⟩
end
end L2

set_option Elab.async false
set_option linter.all false
set_option maxRecDepth 100000
namespace L2
open PySem PySem.Spec PyProof.Rows
/-! ### a class called within a try's suite -/
section
variable {X : Cx} {k j : Nat} {f C : Addr} {fd : FuncData} {ps : List Str} {sp : Sp} {Eb : St → XK} {x m : Str} {p pos apos : Pos} {e o : Expr} {es : List Expr} {ta : TE} {t : TA}
end
end L2

set_option Elab.async false
set_option linter.all false
set_option maxRecDepth 100000
set_option maxHeartbeats 1000000
namespace L2
open PySem PySem.Spec PyProof.Rows
section
variable {X : Cx}
end
end L2

set_option Elab.async false
set_option linter.all false
set_option maxRecDepth 100000
set_option maxHeartbeats 3200000
namespace L2
open PySem PySem.Spec PyProof.Rows
/-! ### a source that is a list or a tuple -/
theorem pi_or {X : Cx} {tg l : Expr} {w1 w2 : TI} (h1 : PI X tg l w1) (h2 : PI X tg l w2) : PI X tg l (fun σ H R => w1 σ H R ∨ w2 σ H R) := fun pins s σ H R I h => h.elim (h1 pins s σ H R I) (h2 pins s σ H R I)
theorem pe_either {X : Cx} {e : Expr} {t1 t2 : TE} (h1 : PE X e t1) (h2 : PE X e t2) : PE X e (fun σ H Q => t1 σ H Q ∨ t2 σ H Q) := fun pins s σ H Q I h => h.elim (h1 pins s σ H Q I) (h2 pins s σ H Q I)
local instance (priority := 10000) keyBEqJ : BEq Key := keyBEq
local instance (priority := 10000) keyLawJ : @LawfulBEq Key keyBEq := inferInstanceAs (@LawfulBEq Key instBEqOfDecidableEq)
section
variable {P : Program} {w : World} {A : Around} {E : Value → Shared → Prop} {s : Shared}
theorem call_set_keysT {l : Addr} {items : Array Value} {ks : List Key} {Q : Value → Shared → Prop} (hh : A.handled = none) (hl : s.heap.IsTuple l items) (hlen : items.size = ks.length) (hi : ∀ i v, items[i]? = some v → (mixKind P w).is (ks.getD i (.inl 0)) v = true ∧ v.scannable = true) (hb : items.size + 1 < scanBound)
    (h : ∀ (h' : Heap) (tk : Nat), h'.SetOf (mixKind P w) s.heap.objs.size (fun q => decide (q ∈ uniqK ks)) (uniqK ks).length → (∀ b o, b < s.heap.objs.size → s.heap.get? b = some o → h'.get? b = some o) → Q (.ref s.heap.objs.size) { s with heap := h', toks := tk }) :
    wpAny (model P w) A (call (.type "set") [.ref l]) Q E s := by
  obtain ⟨c, tl, hmro⟩ := F.called_set.mro
  have hmade := F.called_set.made
  have hsub := F.called_set.sub
  refine wpAny_call (codeAny_of_tree (?_ : wpAny _ _ (callAny (.type "set") _) _ _ _))
  refine wpAny_pure ⟨Code.quiet_builtin _ (by decide +kernel), codeAny_builtin F.entry_type_call ?_⟩
  rw [Around.under_plain (weight_type_call_type "set" [.ref l] []) rfl]
  have k1 := F.called_set.notType
  have k2 := F.called_set.canCreate
  have hct := F.typeCall_set_1 (.ref l)
  repeat (any_goals (first | assumption | wp_step))
  refine codeAny_mono (code_set_new_1 (.ref l) (E := E) (Q₁ := fun obj s₁ => ∃ led : Bool, obj = .ref s.heap.objs.size ∧ s₁ = { s with heap := s.heap.push ⟨.type "set", none, .set #[] 0 (.fresh 0 0 led), #[]⟩ }) fun led => ⟨led, rfl, rfl⟩) fun r s₁ hr => ?_
  cases r with
  | error e => exact hr
  | ok fl =>
    cases fl with
    | ret obj =>
      obtain ⟨led, rfl, rfl⟩ := hr
      have hS : (s.heap.push ⟨.type "set", none, .set #[] 0 (.fresh 0 0 led), #[]⟩).get? s.heap.objs.size = some ⟨.type "set", none, .set #[] 0 (.fresh 0 0 led), #[]⟩ := Heap.get?_push_size _ rfl
      have hT : Shared.TypeIs { s with heap := s.heap.push ⟨.type "set", none, .set #[] 0 (.fresh 0 0 led), #[]⟩ } (.ref s.heap.objs.size) "set" := ⟨_, hS, rfl⟩
      have hli := F.called_set.init.lookup
      have hbi := F.called_set.init.bind (.ref s.heap.objs.size)
      repeat (any_goals (first | assumption | wp_step))
      refine codeAny_mono (codeAny_call_builtin (R := wants (fun r s₂ => r = .none ∧ ∃ h' tk, s₂ = { s with heap := h', toks := tk } ∧ h'.SetOf (mixKind P w) s.heap.objs.size (fun q => decide (q ∈ uniqK ks)) (uniqK ks).length ∧ (∀ b o, b < s.heap.objs.size → s.heap.get? b = some o → h'.get? b = some o)) E) F.called_set.init.plain F.entry_set_init (check_set_init_1 hT ?_)) fun r₂ s₂ hr₂ => ?_
      · obtain ⟨ol, hol, hcl, nl, hdl⟩ := hl
        obtain ⟨ocls, odict, odata, oslots⟩ := ol
        simp only at hcl hdl
        subst hcl; subst hdl
        have hol' : (s.heap.push ⟨.type "set", none, .set #[] 0 (.fresh 0 0 led), #[]⟩).get? l = some { cls := .type "tuple", dict := odict, data := .seq items nl, slots := oslots } := Heap.get?_push_of_some _ hol
        have hsls := F.sub_tuple_set
        have hslf := F.sub_tuple_frozenset
        have hne : (Value.type "tuple" == Value.type "dict") = false := by decide
        have hl1 : (s.heap.push ⟨.type "set", none, .set #[] 0 (.fresh 0 0 led), #[]⟩).IsTuple l items := ⟨_, hol', rfl, nl, rfl⟩
        unfold Builtin.«set.__init__» noKeywords Builtin.Frozenset.updateFrom
        generalize hPI : pyIter = PI
        wp_walk
        subst hPI
        refine wpAny_pyIter_tuple hl1 (wpAny_bind (wpAny_runValue ?_))
        have hlS : l < s.heap.objs.size := Heap.lt_size hol
        have hh3 : A.in1.in1.in1.handled = none := by simp [hh]
        have hneI : l ≠ (s.heap.push ⟨.type "set", none, .set #[] 0 (.fresh 0 0 led), #[]⟩).objs.size := by rw [Heap.size_push]; exact Nat.ne_of_lt (Nat.lt_succ_of_lt hlS)
        have hSf : s.heap.objs.size ∉ [(s.heap.push ⟨.type "set", none, .set #[] 0 (.fresh 0 0 led), #[]⟩).objs.size, l] := by
          rw [Heap.size_push]
          intro q
          rcases List.mem_cons.mp q with q | q
          · exact Nat.ne_of_lt (Nat.lt_succ_self _) q
          · exact Nat.ne_of_gt hlS (List.mem_singleton.mp q)
        refine setFill ((Walks.tuple hh3 _ l hneI items).toS) s.heap.objs.size hSf (fun i => ks.getD i (.inl 0)) hi hb (items.size - 0) 0 _ (by omega) (Nat.zero_le _) ⟨⟨_, Heap.get?_push_size _ rfl, rfl, rfl⟩, (hl1.push _)⟩ ?hS0 ?hR
        case hS0 =>
          have hget : ((s.heap.push ⟨.type "set", none, .set #[] 0 (.fresh 0 0 led), #[]⟩).push { cls := .type "tuple_iterator", data := .fields #[.ref l, .int 0 0] }).get? s.heap.objs.size = some ⟨.type "set", none, .set #[] 0 (.fresh 0 0 led), #[]⟩ := Heap.get?_push_of_some _ hS
          exact SetOf_congr ((setObjOf_fresh (knd := mixKind P w) led).setOf hget (by unfold scanBound; omega)) (fun q => by show false = decide (q ∈ ([] : List Key)); simp) rfl
        case hR =>
          intro s' hm hS'
          obtain ⟨h', g', d', tk', os'⟩ := s'
          obtain rfl : g' = s.gens := hm.gens
          obtain rfl : d' = s.drawn := hm.drawn
          obtain rfl : os' = s.os := hm.os
          show wpAny _ _ _ _ _ _
          refine wpAny_pure (?_ : wpAny _ _ (ret Value.none) _ _ _)
          rw [hlen] at hS'
          refine wpAny_pure ⟨rfl, h', tk', rfl, hS', fun b o hb' e => ?_⟩
          have n1 : b ≠ s.heap.objs.size := Nat.ne_of_lt hb'
          have n2 : b ≠ (s.heap.push ⟨.type "set", none, .set #[] 0 (.fresh 0 0 led), #[]⟩).objs.size := by rw [Heap.size_push]; exact Nat.ne_of_lt (Nat.lt_succ_of_lt hb')
          refine hm.heap b o (fun q => ?_) (Heap.get?_push_of_some _ (Heap.get?_push_of_some _ e))
          rcases List.mem_cons.mp q with q | q
          · exact n1 q
          · exact n2 (List.mem_singleton.mp q)
      · cases r₂ with
        | error e => exact hr₂
        | ok fl₂ =>
          cases fl₂ with
          | ret r =>
            obtain ⟨rfl, h', tk, rfl, hS', hk'⟩ := hr₂
            repeat (any_goals (first | assumption | wp_step))
            exact h _ _ hS' hk'
          | _ => exact hr₂.elim
    | _ => exact hr.elim
end
section
variable {X : Cx} {e l : Expr} {te tl : TE} {p pos p2 pos2 : Pos}
def tLenSetT (K : PySem.W.Frag) (tl : TE) : TE := fun σ H Q => tl σ H fun x H1 => ∃ a ks, x = .ref a ∧ SqT K H1 a (ks.map kV) ∧ ks.length + 1 < scanBound ∧ Q (.int ((uniqK ks).length : Int)) H1
theorem pe_lensetT (hc : X.calm = true) (h1 : X.mg "len" = none) (h2 : X.mg "set" = none) (hl : PE X l tl) (hg1 : Gl X "len" := by rfl) (hg2 : Gl X "set" := by rfl) (hs : notStar l = true := by rfl) :
    PE X (.Call (.Name "len" p) [.Call (.Name "set" p2) [l] [] pos2] [] pos) (tLenSetT X.K tl) := by
  intro pins s σ H Q I h
  refine wpAny_Call_Name_kw (ld_blt I hg1 h1 boot_len ?_)
  refine PyProof.Rows.callWith_builtin1 ?_ (star_cons rfl) (star_none rfl)
  rw [star_cons rfl]
  refine (Calls.spliced_cons ?_ : wpAny _ _ (spliced ((false, eval (.Call (.Name "set" p2) [l] [] pos2) X.env) :: backTo pos (starEach [] X.env))) _ _ s)
  refine wpAny_Call_Name_kw (ld_blt I hg2 h2 boot_set ?_)
  have h' : (tCons tl tNil) σ H (fun vs H1 => match vs with | [x] => (∃ a ks, x = .ref a ∧ SqT X.K H1 a (ks.map kV) ∧ ks.length + 1 < scanBound ∧ Q (.int ((uniqK ks).length : Int)) H1) | _ => False) := h
  refine PyProof.Rows.callWith_type1 (thn ((pa_c hl pa_nil hs) pos2 pins s σ H _ I h') fun us s1 ⟨vs, H1, I1, r1, q1⟩ => ?_) (star_cons hs) (star_none rfl)
  match vs, q1, r1 with
  | [x], q1, r1 =>
  obtain ⟨a, ks, rfl, hq, hb, q⟩ := q1
  obtain ⟨u, rfl, ru⟩ := r1.one
  cases ru
  obtain ⟨its, rv, pl, hz⟩ := I1.tuple hq
  have hlen := rv.length
  rw [List.length_map] at hlen
  refine call_set_keysT (ks := ks) (I1.ok.hd hc) pl (by simpa using hlen.symm) (fun i v hv => ?_) (by rw [List.size_toArray, ← hlen]; exact hb) fun h' tk so k => Calls.spliced_nil ?_
  · have hv' : its[i]? = some v := by simpa using hv
    have hi : i < ks.length := by have := (List.getElem?_eq_some_iff.mp hv').1; omega
    obtain ⟨u', e', r'⟩ := rv.get (i := i) (x := kV ks[i]) (by simp [hi])
    rw [e'] at hv'
    cases hv'
    have e2 : ks.getD i (.inl 0) = ks[i] := by simp [List.getD_eq_getElem?_getD, hi]
    rw [e2]
    exact ⟨kV_is r', kV_scan r'⟩
  · obtain ⟨o, es, ep, t, ho, hex, hd, _, _, hsz, hf, hn⟩ := so
    have hbig : scanBound ≤ 2 ^ 62 := by decide
    refine call_len_set ho hex hd hf (by omega) ⟨.int ((uniqK ks).length : Int), H1, ?_, ⟨_, by rw [hn]⟩, q⟩
    exact I1.kept fun b o e => k b o (Heap.lt_size e) e
end
end L2

set_option Elab.async false
set_option linter.all false
set_option maxRecDepth 100000
namespace L2
open PySem PySem.Spec PyProof.Rows
section
variable {prog : Program} {w : World} {A : Around} {E : Value → Shared → Prop} {s : Shared}
theorem range_endQ {it : Addr} {x left step : Int} {Q : Option Value → Shared → Prop} (hq : Quiet A s.heap) (hlt : ∀ a, A.handled = some (.ref a) → a < s.heap.objs.size) (hit : IsRangeIter s.heap it x left step) (hleft : left ≤ 0)
    (hQ : ∀ h', Heap.ExtBut it s.heap h' → Q none { s with heap := h' }) : wpAny (model prog w) A (pyNext (.ref it)) Q E s := by
  have hT : s.TypeIs (.ref it) "range_iterator" := ⟨_, hit, rfl⟩
  unfold pyNext
  refine wpAny_bind (wpAny_attempt (wpAny_callSpecial?_slot (name := Str.ofString "__next__") hT F.slot_range_iterator_next
    (wpAny_call_entry F.slot_range_iterator_next hT F.entry_range_iterator_next ?_ (F.args_range_iterator_next_1 _))))
  show wpAny _ _ (field (.ref it) 0 >>= _) _ _ s
  refine wpAny_bind (wpAny_field hit rfl (x := rawInt x) rfl ?_)
  show wpAny _ _ (field (.ref it) 1 >>= _) _ _ s
  refine wpAny_bind (wpAny_field hit rfl (x := rawInt left) rfl ?_)
  show wpAny _ _ (field (.ref it) 2 >>= _) _ _ s
  refine wpAny_bind (wpAny_field hit rfl (x := rawInt step) rfl ?_)
  show wpAny _ _ (if left ≤ 0 then _ else _) _ _ s
  rw [if_pos hleft]
  refine wpAny_bind (wpAny_rule ?_)
  refine wpAny_bind ?_
  show wpAny _ _ (newExc (.type "StopIteration") [] >>= _) _ _ _
  refine stopQ hq.in1 hlt fun y h' hx1 hx2 ⟨o', g1, g2⟩ => ?_
  exact wpAny_bind (wpAny_isInstance (T := "StopIteration") (b := true) ⟨o', g1, g2⟩ isSubtype_stop (wpAny_pure (hQ _ fun b o _ e => hx2 b o e)))
end
/-- a range, where an exception is handled -/
def Itrq (A : Around) (lo : Int) (n : Nat) : It := ⟨(Itr lo n).go, (Itr lo n).yld, fun i H => (Itr lo n).stop i H ∧ HQ A H⟩
theorem wk_rangeQ (A : Around) (lo : Int) (n : Nat) : Wk (Itrq A lo n) (rangeV lo n) (fun H => HQ A H) :=
  ⟨fun i H hi _ => (wk_range lo n).go i H hi trivial, fun i H v H' _ y => (wk_range lo n).yld i H v H' trivial y, fun H h => ⟨(wk_range lo n).stop H trivial, h⟩⟩
theorem turn_rangeQ {P : Program} {w : World} {K : PySem.W.Frag} {A0 : Around} {tg : Expr} (it : Addr) (lo : Int) (n : Nat) : TurnQ P w K A0 tg (Itrq A0 lo n) [it] it (fun i h => IsRangeIter h it (lo + (i : Nat) * 1) ((n : Int) - (i : Nat)) 1) where
  mem := (turn_range (P := P) (w := w) (K := K) (tg := tg) it lo n).mem
  obj := (turn_range (P := P) (w := w) (K := K) (tg := tg) it lo n).obj
  keep := (turn_range (P := P) (w := w) (K := K) (tg := tg) it lo n).keep
  item := by
    intro X hP hw hK hA i pins s σ H E I hf st hg
    subst hP hw hK
    have hg' : i < n := hg
    obtain ⟨f0, f1, f2, f3, f4, f5⟩ := hf it (by simp)
    refine wpAny_pyNext_range_item st (by omega) fun h' st' hs' => ?_
    have e1 : lo + (i : Int) * 1 + 1 = lo + ((i + 1 : Nat) : Int) * 1 := by omega
    have e2 : (n : Int) - (i : Int) - 1 = (n : Int) - ((i + 1 : Nat) : Int) := by omega
    rw [e1, e2] at st'
    have I1 : ∀ tk, Inv X pins σ H { s with heap := h', toks := tk } := fun tk => I.turned (fun b o hb e => (hs'.2 b hb).trans e) f0 f1 f3 f4 f5
    refine ⟨_, rfl, go_of (s := { s with heap := h', toks := _ }) (n := "range_iterator") st' rfl rfl (by decide) ⟨.int (lo + i), H, I1 _, (by rw [Int.mul_one]; exact ⟨_, rfl⟩), ⟨rfl, rfl⟩, st', fun b hb => (hf b hb).1⟩⟩
  done := by
    intro X hP hw hK hA i pins s σ H E I hf st hg
    subst hP hw hK hA
    obtain ⟨hs, hQ⟩ := hg
    obtain ⟨f0, f1, f2, f3, f4, f5⟩ := hf it (by simp)
    exact range_endQ (hQ.quiet I) (hQ.lt I) st (by have : n ≤ i := hs; omega) fun h' eb => ⟨rfl, I.turned (t' := s.toks) (fun b o hb e => eb b o hb e) f0 f1 f3 f4 f5⟩
  self := (turn_range (P := P) (w := w) (K := K) (tg := tg) it lo n).self
section
variable {X : Cx} {tg : Expr}
theorem range_itQ {pins : List (Addr × Obj)} {σ : St} {H : Hp} {s : Shared} {R : It → Hp → Prop} {E : Value → Shared → Prop} {lo hi : Int} {t u v : Tok} {tk : Nat} (I : Inv X pins σ H s) (h1 : -(2 ^ 62) ≤ lo) (h2 : lo < 2 ^ 62) (h3 : -(2 ^ 62) ≤ hi) (h4 : hi < 2 ^ 62)
    (q : R (Itrq X.A lo (hi - lo).toNat) H) : wpAny (model X.prog X.w) X.A (pyIter (.ref s.heap.objs.size)) (PIEQ X pins σ tg R) E { s with heap := s.heap.push { cls := .type "range", data := .fields #[.int lo t, .int hi u, .int 1 v] }, toks := tk } := by
  refine wpAny_pyIter_range (IsRange.new ..) (small_one h1 h2 h3 h4) ?_
  have I1 : Inv X pins σ H { s with heap := s.heap.push { cls := .type "range", data := .fields #[.int lo t, .int hi u, .int 1 v] }, toks := tk } := I.kept fun b o e => Heap.get?_push_of_some _ e
  refine ⟨(s.heap.push { cls := .type "range", data := .fields #[.int lo t, .int hi u, .int 1 v] }).objs.size, [(s.heap.push { cls := .type "range", data := .fields #[.int lo t, .int hi u, .int 1 v] }).objs.size], _, _, H, rfl,
    I1.kept (t' := tk) fun b o e => Heap.get?_push_of_some _ e, turn_rangeQ _ lo (hi - lo).toNat, ?_, fun b hb => ?_, q⟩
  · have e1 : lo + ((0 : Nat) : Int) * 1 = lo := by simp
    have e2 : (((hi - lo).toNat : Nat) : Int) - ((0 : Nat) : Int) = Builtin.Range.rangeSize lo hi 1 := by rw [rangeSize_one]; split <;> omega
    show IsRangeIter _ _ (lo + ((0 : Nat) : Int) * 1) ((((hi - lo).toNat : Nat) : Int) - ((0 : Nat) : Int)) 1
    rw [e1, e2]
    exact Heap.get?_push_size _ rfl
  · have e : b = (s.heap.push { cls := .type "range", data := .fields #[.int lo t, .int hi u, .int 1 v] }).objs.size := by simpa using hb
    subst e
    exact I1.fpOk (Nat.le_refl _) (I1.hok.fresh (Nat.le_refl _))
def iRng1Q (A : Around) (ta : TA) : TI := fun σ H R => ta σ H fun vs H1 => ∃ j : Int, vs = [.int j] ∧ -(2 ^ 62) ≤ j ∧ j < 2 ^ 62 ∧ R (Itrq A 0 j.toNat) H1
theorem pi_rangeQ1 {a : Expr} {ta : TA} {p pos : Pos} (hg : Gl X "range") (hm : X.mg "range" = none) (ha : PA X [a] ta) (hs : starEach [a] X.env = [(false, eval a X.env)] := by rfl) : PIQ X tg (.Call (.Name "range" p) [a] [] pos) (iRng1Q X.A ta) := by
  intro pins s σ H R I h
  refine Call_ (ld_blt I hg hm boot_range (PyProof.Rows.callWith_type1 (thn (ha pos pins s σ H _ I h) fun us s1 ⟨vs, H1, I1, r1, q1⟩ => ?_) hs rfl))
  obtain ⟨j, e, q1, q2, q⟩ := q1
  subst e
  cases r1 with
  | cons r rr =>
    cases rr
    obtain ⟨t, rfl⟩ := r
    exact call_range_1 (range_itQ I1 (by omega) (by omega) q1 q2 (by simpa using q))
end
theorem pe_comp1Q {X : Cx} {elt iter : Expr} {x : Str} {px pos : Pos} {ifs : List Expr} {scope : Scope} {wi : TI} {tc : TT} {te : TE} (js : List Nat) (N' : List Str)
    (hi : PIQ X (.Name x px) iter wi)
    (ht : ∀ C s₀ H₀ ex, PTs (cxComp X scope N' C s₀ H₀ ex) ifs tc)
    (he : ∀ C s₀ H₀ ex, PE (cxComp X scope N' C s₀ H₀ ex) elt te)
    (nd : N'.Nodup := by decide +kernel)
    (hx : scope.names.lookup x = some .local := by rfl)
    (hN' : N' = [x] ++ js.map fun j => X.N.getD j Str.empty := by rfl)
    (hk : scope.kind = .function := by rfl)
    (hcell : ∀ y ∈ scope.names, y.2 ≠ .cell := by decide +kernel)
    (hnames : ∀ y ∈ scope.names, y.2 = .local → scope.names.lookup y.1 = some .local := by decide +kernel)
    (hfr : (scope.names.all fun y => y.2 != .free || X.env.scope.names.lookup y.1 == some .cell) = true := by rfl)
    (hjs : (js.all fun j => scope.names.lookup (X.N.getD j Str.empty) == some .free && (X.N[j]?).isSome) = true := by rfl)
    (hs : ∀ z, foldedSetIterable iter X.env z = pure z := by intro _; rfl) :
    PE X (.ListComp elt [⟨.Name x px, iter, ifs, 0⟩] scope pos) (tComp 1 js wi (gName 0) tc te) :=
  pe_compQ [x] js N' hi (fun C s₀ H₀ ex => pg_name (X := cxComp X scope N' C s₀ H₀ ex) (i := 0) nd (by show N'[0]? = some x; rw [hN']; rfl) (Or.inl (lookup_relabel_local hx)) (.inr (lookup_relabel_local hx))) ht he hN' hk hcell hnames hfr hjs hs
end L2

set_option Elab.async false
set_option linter.all false
set_option maxRecDepth 100000
namespace L2
open PySem PySem.Spec PyProof.Rows
section
variable {prog : Program} {w : World} {A : Around} {E : Value → Shared → Prop} {s : Shared}
theorem draw_listU {it l : Addr} {items : Array Value} (hne : l ≠ it) : ∀ (n i : Nat) (s : Shared) (Q : List Value → Shared → Prop), s.heap.IsListIter it l i → s.heap.IsList l items → i + n ≤ items.size →
    (∀ h' : Heap, h'.IsListIter it l (i + n) → Heap.SameBut it s.heap h' → Q ((items.toList.drop i).take n) { s with heap := h' }) → wpAny (model prog w) A (draw (.ref it) n) Q E s
  | 0, i, s, Q, hit, _, _, hQ => by
    show wpAny _ _ (pure []) Q E s
    exact wpAny_pure (by simpa using hQ s.heap hit (Heap.SameBut.refl ..))
  | n + 1, i, s, Q, hit, ht, hle, hQ => by
    have hlt : i < items.size := by omega
    show wpAny _ _ (pyNext (.ref it) >>= _) Q E s
    refine wpAny_bind (wpAny_pyNext_list_item hit ht (x := items[i]) (by simp [hlt]) fun h₁ hit₁ hs₁ => ?_)
    have ht1 : h₁.IsList l items := by
      obtain ⟨o, ho, rest⟩ := ht
      exact ⟨o, hs₁.extBut l o hne ho, rest⟩
    refine wpAny_bind (wpAny_holding (draw_listU hne n (i + 1) _ _ hit₁ ht1 (by omega) fun h₂ hit₂ hs₂ => wpAny_pure ?_))
    have hd : items.toList.drop i = items[i] :: items.toList.drop (i + 1) := by simp [List.drop_eq_getElem_cons, hlt]
    have := hQ h₂ (by rw [show i + (n + 1) = i + 1 + n by omega]; exact hit₂) (hs₁.trans hs₂)
    rw [hd, List.take_succ_cons] at this
    exact this
theorem unpack_listU {t : Addr} {items : Array Value} {targets : List (Bool × (Value → Sem Unit))} {Q : Unit → Shared → Prop} (hh : A.handled = none) (ht : s.heap.IsList t items)
    (hn : targets.length = items.size) (hstar : targets.findIdx? (·.1) = none)
    (h : ∀ h', Heap.ExtBut s.heap.objs.size s.heap h' → wpAny (model prog w) A (assignInOrder (targets.map (·.2)) items.toList) Q E { s with heap := h' }) : wpAny (model prog w) A (unpack (.ref t) targets) Q E s := by
  have hne : t ≠ s.heap.objs.size := by obtain ⟨o, ho, _⟩ := ht; exact Nat.ne_of_lt (Heap.lt_size ho)
  have all : List.take items.size (List.drop 0 items.toList) = items.toList := by rw [List.drop_zero]; exact List.take_of_length_le (by simp)
  have ext : ∀ h' : Heap, (∀ b o, b ≠ s.heap.objs.size → s.heap.get? b = some o → h'.get? b = some o) → h'.IsList t items := fun h' e => by
    obtain ⟨o, ho, rest⟩ := ht
    exact ⟨o, e t o hne ho, rest⟩
  unfold unpack unpackItems notIterableAtAll
  rw [hn, hstar]
  refine wpAny_bind (wpAny_holding (wpAny_bind (wpAny_bind (wpAny_specialOf ht.typeIs slot_list_iter.lookup (wpAny_pure ?_)))))
  simp only [Bool.false_eq_true, if_false]
  refine wpAny_bind (wpAny_holding (wpAny_pyIter_list ht (wpAny_bind (wpAny_holding (draw_listU hne items.size 0 _ _ ⟨_, Heap.get?_push_size _ rfl, rfl, rfl⟩ (ext _ fun b o _ e => Heap.get?_push_of_some _ e) (by omega) fun h1 hit1 hs1 => ?_)))))
  rw [all, if_neg (by simp)]
  refine wpAny_bind (wpAny_holding (wpAny_pyNext_list_end (s := { s with heap := h1 }) hh hit1 (ext h1 fun b o hb e => hs1.extBut b o hb (Heap.get?_push_of_some _ e)) (by simp) fun h2 he2 => ?_))
  simp only [Option.isSome_none, Bool.false_eq_true, if_false]
  exact wpAny_pure (h h2 fun b o hb e => he2 b o hb (hs1.extBut b o hb (Heap.get?_push_of_some _ e)))
end
section
variable {X : Cx}
/-- (a, b, ..) = a list of that length -/
def gLst (K : PySem.W.Frag) (n : Nat) (t : TGs) : TG := fun v σ H Q => ∃ a xs, v = .ref a ∧ SqL K H a xs ∧ xs.length = n ∧ t xs σ H Q
theorem pg_lst {es : List Expr} {k : Nat} {t : TGs} {n : Nat} {pos : Pos} (hc : X.calm = true) (h : PGs X es t)
    (hn : (assignEach es X.env).length = n := by rfl) (hst : (assignEach es X.env).findIdx? (·.1) = none := by rfl) : PG X (.Tuple es k pos) (gLst X.K n t) := by
  intro pins s σ H v u Q I r hw
  obtain ⟨a, xs, e1, hq, hl, hw⟩ := hw
  subst e1
  cases r
  obtain ⟨its, rv, ht, hz⟩ := I.list hq
  rw [assign_Tuple]
  refine wpAny_bind (wpAny_standAt (unpack_listU (I.ok.hd hc) ht.isList (by simp [hn, ← hl, rv.length]) hst fun h' hx => ?_))
  have I1 : Inv X pins σ H { s with heap := h' } := I.kept (t' := s.toks) fun b o e => hx b o (Nat.ne_of_lt (Heap.lt_size e)) e
  exact h pins _ σ H xs _ Q I1 (by simpa using rv) hw
/-! ### text * int -/
def repS (z : Str) (n : Nat) : Str := ⟨(List.replicate n z.cps.toList).flatten.toArray⟩
theorem repS_one (z : Str) : repS z 1 = z := by
  unfold repS
  simp
theorem fold_arr (c : Array Nat) : ∀ (n : Nat) (a : Array Nat), List.foldl (fun x y => x ++ y) a (List.replicate n c) = a ++ (List.replicate n c.toList).flatten.toArray
  | 0, a => by simp
  | n + 1, a => by
    rw [List.replicate_succ, List.foldl_cons, fold_arr c n, List.replicate_succ, List.flatten_cons]
    apply Array.ext'
    simp
theorem repS_fold (z : Str) (n : Nat) : (⟨List.foldl (fun x y => x ++ y) #[] (List.replicate n z.cps)⟩ : Str) = repS z n := by
  rw [fold_arr]
  unfold repS
  simp
def rRepS : R2 := fun x y H Q => ∃ z k, x = .str z ∧ y = .int k ∧ 1 ≤ z.length ∧ 0 ≤ k ∧ (z.length : Int) * k ≤ 100000 ∧ Q (.str (repS z k.toNat)) H
theorem op_repS : OpR X (binaryOp .Mult) rRepS := by
  intro pins s σ H x y v u Q I rx ry h
  obtain ⟨z, k, rfl, rfl, h1, h2, h3, q⟩ := h
  obtain ⟨t, rfl⟩ := rx
  obtain ⟨t', rfl⟩ := ry
  have hk : k ≤ 100000 := by
    have : (1 : Int) * k ≤ (z.length : Int) * k := Int.mul_le_mul_of_nonneg_right (by omega) h2
    omega
  have hz : z.length * k.toNat ≤ 100000 := by
    have : ((z.length * k.toNat : Nat) : Int) = (z.length : Int) * k := by rw [Int.natCast_mul, Int.toNat_of_nonneg h2]
    omega
  have fin : ∀ (r : Str) (t' : Tok) tk, r = repS z k.toNat → EP X pins σ Q (.str r t') { s with toks := tk } := fun r t' tk e => ⟨.str _, H, I.tok tk, ⟨t', rfl⟩, by rw [e]; exact q⟩
  refine SB.mul ⟨?_, ?_, ?_⟩ fun t' tk => fin _ t' tk ?_
  · rw [decide_eq_false (by omega), decide_eq_false (by omega)]; rfl
  · intro a b c
    have : (z.length : Int) * k ≤ 2 ^ 63 - 1 := by omega
    have := (Int.le_ediv_iff_mul_le (show 0 < k by omega)).mpr this
    omega
  · intro a b
    have : ¬ z.length * k.toNat > sizeLine := Nat.not_lt_of_le (Nat.le_trans hz (by decide))
    exact decide_eq_false this
  · unfold Txt.mul
    by_cases hk0 : k < 1
    · rw [if_pos hk0]
      have : k.toNat = 0 := by omega
      rw [this]
      rfl
    · rw [if_neg hk0]
      by_cases hk1 : (k == 1 || z.length == 0) = true
      · rw [if_pos hk1]
        have : k = 1 := by
          simp at hk1
          omega
        subst this
        exact (repS_one z).symm
      · rw [if_neg hk1, repS_fold]
end
end L2

set_option Elab.async false
set_option linter.all false
set_option maxRecDepth 100000
namespace K02
open PySem L2
def top (i : Nat) : Stmt := PySem.Challenge.pw_buildhall_k02_jobs_made.main.body.getD i (.Pass ⟨0, 0, 0, 0⟩)
abbrev s_is_whole : Stmt := top 26
abbrev n_is_whole : List Str := ["thing"]
theorem sc_is_whole : FnScope n_is_whole ["thing"] (defScope s_is_whole) := ⟨rfl, rfl, rfl, by decide +kernel, rfl, by decide +kernel, by decide +kernel⟩
abbrev s_is_among : Stmt := top 27
abbrev n_is_among : List Str := ["thing", "least", "most"]
theorem sc_is_among : FnScope n_is_among ["thing", "least", "most"] (defScope s_is_among) := ⟨rfl, rfl, rfl, by decide +kernel, rfl, by decide +kernel, by decide +kernel⟩
abbrev s_is_made_of : Stmt := top 28
abbrev n_is_made_of : List Str := ["thing", "signs", "most"]
theorem sc_is_made_of : FnScope n_is_made_of ["thing", "signs", "most"] (defScope s_is_made_of) := ⟨rfl, rfl, rfl, by decide +kernel, rfl, by decide +kernel, by decide +kernel⟩
abbrev s_is_name : Stmt := top 29
abbrev n_is_name : List Str := ["thing"]
theorem sc_is_name : FnScope n_is_name ["thing"] (defScope s_is_name) := ⟨rfl, rfl, rfl, by decide +kernel, rfl, by decide +kernel, by decide +kernel⟩
abbrev s_Job___init__ : Stmt := inClass (top 33) 0
abbrev n_Job___init__ : List Str := ["self", "name", "needs", "rank", "span", "tries", "wait", "grow"]
theorem sc_Job___init__ : FnScope n_Job___init__ ["self", "name", "needs", "rank", "span", "tries", "wait", "grow"] (defScope s_Job___init__) := ⟨rfl, rfl, rfl, by decide +kernel, rfl, by decide +kernel, by decide +kernel⟩
abbrev s_check_name : Stmt := top 34
abbrev n_check_name : List Str := ["name"]
theorem sc_check_name : FnScope n_check_name ["name"] (defScope s_check_name) := ⟨rfl, rfl, rfl, by decide +kernel, rfl, by decide +kernel, by decide +kernel⟩
abbrev s_check_needs : Stmt := top 35
abbrev n_check_needs : List Str := ["needs", "name"]
theorem sc_check_needs : FnScope n_check_needs ["needs", "name"] (defScope s_check_needs) := ⟨rfl, rfl, rfl, by decide +kernel, rfl, by decide +kernel, by decide +kernel⟩
abbrev s_are_needs : Stmt := top 36
abbrev n_are_needs : List Str := ["needs", "name"]
theorem sc_are_needs : FnScope n_are_needs ["needs", "name"] (defScope s_are_needs) := ⟨rfl, rfl, rfl, by decide +kernel, rfl, by decide +kernel, by decide +kernel⟩
abbrev s_check_numbers : Stmt := top 37
abbrev n_check_numbers : List Str := ["numbers", "part", "number", "word", "least", "most"]
theorem sc_check_numbers : FnScope n_check_numbers ["numbers"] (defScope s_check_numbers) := ⟨rfl, rfl, rfl, by decide +kernel, rfl, by decide +kernel, by decide +kernel⟩
abbrev s__law_mixed : Stmt := top 39
abbrev n__law_mixed : List Str := ["_law_script", "_law_k", "_law_cell", "_law_number_here"]
theorem sc__law_mixed : FnScope n__law_mixed ["_law_script", "_law_k"] (defScope s__law_mixed) := ⟨rfl, rfl, rfl, by decide +kernel, rfl, by decide +kernel, by decide +kernel⟩
abbrev s__law_kinds : Stmt := top 40
abbrev n__law_kinds : List Str := ["_law_e", "_law_found"]
theorem sc__law_kinds : FnScope n__law_kinds ["_law_e"] (defScope s__law_kinds) := ⟨rfl, rfl, rfl, by decide +kernel, rfl, by decide +kernel, by decide +kernel⟩
abbrev s__law_alone : Stmt := top 41
abbrev n__law_alone : List Str := ["_law_e", "_law_which"]
theorem sc__law_alone : FnScope n__law_alone ["_law_e", "_law_which"] (defScope s__law_alone) := ⟨rfl, rfl, rfl, by decide +kernel, rfl, by decide +kernel, by decide +kernel⟩
abbrev s__law_names : Stmt := top 42
abbrev n__law_names : List Str := ["_law_script", "_law_many", "_law_letters", "_law_fill", "_law_first", "_law_spot", "_law_size", "_law_found", "_law_k", "_law_sign"]
theorem sc__law_names : FnScope n__law_names ["_law_script", "_law_many"] (defScope s__law_names) := ⟨rfl, rfl, rfl, by decide +kernel, rfl, by decide +kernel, by decide +kernel⟩
abbrev s__law_odd_name : Stmt := top 43
abbrev n__law_odd_name : List Str := ["_law_script"]
theorem sc__law_odd_name : FnScope n__law_odd_name ["_law_script"] (defScope s__law_odd_name) := ⟨rfl, rfl, rfl, by decide +kernel, rfl, by decide +kernel, by decide +kernel⟩
abbrev s__law_needs : Stmt := top 44
abbrev n__law_needs : List Str := ["_law_script", "_law_own", "_law_names_here", "_law_those", "_law_fault", "_law_spot"]
theorem sc__law_needs : FnScope n__law_needs ["_law_script", "_law_own", "_law_names_here"] (defScope s__law_needs) := ⟨rfl, rfl, rfl, by decide +kernel, rfl, by decide +kernel, by decide +kernel⟩
abbrev s__law_number : Stmt := top 45
abbrev n__law_number : List Str := ["_law_script", "_law_k", "_law_least", "_law_most", "_law_way"]
theorem sc__law_number : FnScope n__law_number ["_law_script", "_law_k"] (defScope s__law_number) := ⟨rfl, rfl, rfl, by decide +kernel, rfl, by decide +kernel, by decide +kernel⟩
abbrev s__law_spoilt : Stmt := top 46
abbrev n__law_spoilt : List Str := ["_law_script", "_law_k", "_law_least", "_law_most", "_law_some"]
theorem sc__law_spoilt : FnScope n__law_spoilt ["_law_script", "_law_k"] (defScope s__law_spoilt) := ⟨rfl, rfl, rfl, by decide +kernel, rfl, by decide +kernel, by decide +kernel⟩
abbrev s__law_numbers : Stmt := top 47
abbrev n__law_numbers : List Str := ["_law_script", "_law_numbers_here", "_law_spoilt_here", "_law_k"]
theorem sc__law_numbers : FnScope n__law_numbers ["_law_script"] (defScope s__law_numbers) := ⟨rfl, rfl, rfl, by decide +kernel, rfl, by decide +kernel, by decide +kernel⟩
abbrev s__law_job : Stmt := top 48
abbrev n__law_job : List Str := ["_law_name", "_law_those", "_law_numbers_here", "_law_many", "_law_first", "_law_second", "_law_third"]
theorem sc__law_job : FnScope n__law_job ["_law_name", "_law_those", "_law_numbers_here", "_law_many"] (defScope s__law_job) := ⟨rfl, rfl, rfl, by decide +kernel, rfl, by decide +kernel, by decide +kernel⟩
abbrev s__law_is : Stmt := top 49
abbrev n__law_is : List Str := ["_law_job_here", "_law_name", "_law_those", "_law_numbers_here", "_law_told", "_law_odd"]
theorem sc__law_is : FnScope n__law_is ["_law_job_here", "_law_name", "_law_those", "_law_numbers_here"] (defScope s__law_is) := ⟨rfl, rfl, rfl, by decide +kernel, rfl, by decide +kernel, by decide +kernel⟩
abbrev s__law_refused : Stmt := top 50
abbrev n__law_refused : List Str := ["_law_name", "_law_those", "_law_numbers_here", "_law_many", "_law_which", "_law_e"]
theorem sc__law_refused : FnScope n__law_refused ["_law_name", "_law_those", "_law_numbers_here", "_law_many", "_law_which"] (defScope s__law_refused) := ⟨rfl, rfl, rfl, by decide +kernel, rfl, by decide +kernel, by decide +kernel⟩
abbrev s__law_made : Stmt := top 51
abbrev n__law_made : List Str := ["_law_name", "_law_those", "_law_numbers_here", "_law_many", "_law_due", "_law_count", "_law_told", "_law_handed", "_law_one", "_law_other", "_law_apart"]
theorem sc__law_made : FnScope n__law_made ["_law_name", "_law_those", "_law_numbers_here", "_law_many"] (defScope s__law_made) := ⟨rfl, rfl, rfl, by decide +kernel, rfl, by decide +kernel, by decide +kernel⟩
abbrev s__law_edges : Stmt := top 52
abbrev n__law_edges : List Str := ["_law_script", "_law_name", "_law_good", "_law_right", "_law_k", "_law_odd"]
theorem sc__law_edges : FnScope n__law_edges ["_law_script", "_law_name", "_law_good", "_law_right"] (defScope s__law_edges) := ⟨rfl, rfl, rfl, by decide +kernel, rfl, by decide +kernel, by decide +kernel⟩
abbrev s_law : Stmt := top 53
abbrev n_law : List Str := ["_law_script", "_law_names_here", "_law_name", "_law_good", "_law_those", "_law_are_needs", "_law_numbers_here", "_law_spoilt_here", "_law_many", "_law_right", "_law_odd"]
theorem sc_law : FnScope n_law ["_law_script"] (defScope s_law) := ⟨rfl, rfl, rfl, by decide +kernel, rfl, by decide +kernel, by decide +kernel⟩
end K02

set_option Elab.async false
set_option linter.all false
set_option maxRecDepth 100000
set_option maxHeartbeats 4000000
seal L2.PE L2.PT L2.PW L2.PA L2.PS L2.PSs L2.PI L2.PG L2.PGs L2.PSet L2.PTs L2.PC L2.PO L2.PK L2.OpR L2.UnR L2.CallR L2.IxR L2.SlR L2.PIp L2.PGet L2.InOp
namespace K02
open PySem L2 PyProof.Rows WM PySem.NumText
section
variable {P : Program} {w : World} {K : PySem.W.Frag} {mg : Str → Option Value} {base : Heap}
abbrev LET : Str := "abcdefghijklmnopqrstuvwxyz"
/-- a thing of a built-in kind, a text not too long -/
structure Any (K : PySem.W.Frag) (H : Hp) (x : V) : Prop where
  ty : ∃ m, TyOf K H x (.type m)
  sm : ∀ z, x = .str z → z.length ≤ 100000
theorem Any.str {K : PySem.W.Frag} {H : Hp} {z : Str} (h : z.length ≤ 100000) : Any K H (.str z) := ⟨⟨_, .str z⟩, fun _ e => by cases e; exact h⟩
theorem Any.int {K : PySem.W.Frag} {H : Hp} {i : Int} : Any K H (.int i) := ⟨⟨_, .int i⟩, fun _ e => by cases e⟩
theorem tyOf_same {K : PySem.W.Frag} {H H' : Hp} (s : Same H H') {x : V} {t : Value} (h : TyOf K H x t) : TyOf K H' x t := by
  cases h with
  | non => exact .non
  | bl b => exact .bl b
  | int i => exact .int i
  | str z => exact .str z
  | flt z => exact .flt z
  | lst e => exact .lst (s _ _ e)
  | frz e => exact .frz (s _ _ e)
  | tup e => exact .tup (s _ _ e)
  | dK e => exact .dK (s _ _ e)
  | dT e => exact .dT (s _ _ e)
  | ins e a b c d f => exact .ins (s _ _ e) a b c d f
theorem Any.same {K : PySem.W.Frag} {H H' : Hp} (s : Same H H') {x : V} (h : Any K H x) : Any K H' x := by
  obtain ⟨⟨m, t⟩, z⟩ := h
  exact ⟨⟨m, tyOf_same s t⟩, z⟩
theorem same_upd {H : Hp} {p : Addr} {o : HO} (h : H p = none) : Same H (upd H p o) := fun b u e => by rw [upd_ne (ne_of_none e h)]; exact e

def sp_is_whole (K : PySem.W.Frag) : Sp := fun vs H Q _ => ∃ x, vs = [x] ∧ Any K H x ∧ Q (.bl (isI x)) H
theorem ok_is_whole (D : Def K mg "is_whole" s_is_whole ["thing"]) (B : Bltn mg) : Knows P w K mg base 1 "is_whole" ["thing"] (sp_is_whole K) := by
  refine D.ok sc_is_whole (fun vs H Q E h => ?_) (fun f cdv A outer s H vs Q E hr h => ?_)
  · obtain ⟨x, rfl, _⟩ := h
    rfl
  · obtain ⟨x, rfl, ⟨⟨m, ty⟩, _⟩, q⟩ := h
    refine ⟨_, by exact (pss_one (ps_ret (pe_and (pe_isi B.isi B.int boot_int (pv 0)) (pe_one (pe_not (pe_isi B.isi B.bool boot_bool (pv 0))))))), ?_⟩
    refine ⟨_, rfl, _, _, _, rfl, ty, isiI ty, _, rfl, ?_⟩
    refine ite2 (fun hx => ?_) (fun hx => ?_)
    · refine ⟨_, rfl, _, _, _, rfl, ty, isiB ty, _, rfl, ?_⟩
      have e : isI x = !isBl x := by revert hx; cases x <;> simp [isI, isIB, isBl]
      rw [← e]
      exact q
    · have e : isI x = false := by revert hx; cases x <;> simp [isI, isIB]
      rw [e] at q
      exact q

def amongV : V → Int → Int → Bool
  | .int i, lo, hi => decide (lo ≤ i) && decide (i ≤ hi)
  | _, _, _ => false
def sp_is_among (K : PySem.W.Frag) : Sp := fun vs H Q _ => ∃ x lo hi, vs = [x, .int lo, .int hi] ∧ Any K H x ∧ Q (.bl (amongV x lo hi)) H
theorem ok_is_among (D : Def K mg "is_among" s_is_among ["thing", "least", "most"]) (kw : Knows P w K mg base 1 "is_whole" ["thing"] (sp_is_whole K)) : Knows P w K mg base 2 "is_among" ["thing", "least", "most"] (sp_is_among K) := by
  refine D.ok sc_is_among (fun vs H Q E h => ?_) (fun f cdv A outer s H vs Q E hr h => ?_)
  · obtain ⟨x, lo, hi, rfl, _⟩ := h
    rfl
  · obtain ⟨x, lo, hi, rfl, an, q⟩ := h
    refine ⟨_, by exact (pss_one (ps_ret (pe_and (pe_callN kw hr (pa_cons (pv 0) pa_nil)) (pe_one (pe_chain op_le op_le (pv 1) (pv 0) (pv 2)))))), ?_⟩
    refine ⟨_, rfl, x, rfl, an, _, rfl, ?_⟩
    cases x with
    | int i =>
      refine iteT ?_
      refine ⟨_, rfl, _, rfl, _, _, rfl, rfl, _, rfl, ?_⟩
      refine ite2 (fun h1 => ?_) (fun h1 => ?_)
      · refine ⟨_, rfl, _, _, rfl, rfl, ?_⟩
        have e : amongV (.int i) lo hi = decide (i ≤ hi) := by
          show (decide (lo ≤ i) && _) = _
          rw [h1, Bool.true_and]
        rw [e] at q
        exact q
      · have e : amongV (.int i) lo hi = false := by
          show (decide (lo ≤ i) && _) = _
          have : decide (lo ≤ i) = false := by simpa using h1
          rw [this, Bool.false_and]
        rw [e] at q
        exact q
    | _ => exact iteF q

def madeOf (g : Str) (n : Int) : V → Bool
  | .str z => decide (1 ≤ (z.length : Int)) && decide ((z.length : Int) ≤ n) && z.cps.toList.all fun c => decide (c ∈ g.cps.toList)
  | _ => false
def sp_is_made_of (K : PySem.W.Frag) : Sp := fun vs H Q _ => ∃ x g n, vs = [x, .str g, .int n] ∧ Any K H x ∧ ∀ H', Same H H' → Q (.bl (madeOf g n x)) H'
theorem ok_is_made_of (D : Def K mg "is_made_of" s_is_made_of ["thing", "signs", "most"]) (B : Bltn mg) : Knows P w K mg base 1 "is_made_of" ["thing", "signs", "most"] (sp_is_made_of K) := by
  refine D.ok sc_is_made_of (fun vs H Q E h => ?_) (fun f cdv A outer s H vs Q E hr h => ?_)
  · obtain ⟨x, g, n, rfl, _⟩ := h
    rfl
  · obtain ⟨x, g, n, rfl, ⟨⟨m, ty⟩, sm⟩, q⟩ := h
    refine ⟨_, by exact (pss_cons (ps_if (PW.pt (pw_or (pt_not (pt_val (pe_isi B.isi B.str boot_str (pv 0)))) (pw_or1 (pt_not (pt_chain op_le op_le pe_int (pe_callB call_len_str (by rfl) B.len PySem.boot_len (pa_cons (pv 0) pa_nil)) (pv 2)))))) (pss_one (ps_ret pe_bl)) pss_nil)
      (pss_one (ps_ret (pe_callB (call_all rfl) rfl B.all boot_all (pa_cons (pe_comp1 [1] ["sign", "signs"] rfl (pi_str (pv 0)) (fun _ _ _ _ => pts_nil) (fun _ _ _ _ => pe_cmpR op_in_str (pv 0) (pv 1) (by with_unfolding_all rfl))) pa_nil))))), ?_⟩
    refine ⟨_, rfl, _, _, _, rfl, ty, isiS ty, _, rfl, ?_⟩
    cases x with
    | str z =>
      have hz : z.length ≤ sizeLine := Nat.le_trans (sm z rfl) (by decide)
      refine iteF ?_
      refine ⟨_, rfl, z, rfl, hz, _, _, rfl, rfl, _, rfl, ?_⟩
      refine ite2 (fun h1 => ?_) (fun h1 => ?_)
      · refine ⟨_, rfl, _, _, rfl, rfl, _, rfl, ?_⟩
        refine ite2 (fun h2 => ?_) (fun h2 => ?_)
        · have e : madeOf g n (.str z) = false := by
            show (_ && decide ((z.length : Int) ≤ n) && _) = false
            have : decide ((z.length : Int) ≤ n) = false := by simpa using h2
            rw [this, Bool.and_false, Bool.false_and]
          have := q H (Same.refl H)
          rw [e] at this
          exact this
        · have h2' : decide ((z.length : Int) ≤ n) = true := by simpa using h2
          refine ⟨_, rfl, z, rfl, ?_⟩
          refine comp1_wk (wk_str z) (fun i ys H1 => H1 = H ∧ ys = (z.cps.toList.take i).map fun c => V.bl (decide (c ∈ g.cps.toList))) ⟨rfl, rfl⟩ (fun i ys H1 hi p => ⟨trivial, by rw [p.2, List.length_map, List.length_take]; omega⟩) (by rw [signsV_length]; exact hz)
            (fun i x ys H1 Nx hx p hN => ?_) (fun ys H1 p Dd hD => ?_)
          · obtain ⟨rfl, rfl⟩ := p
            unfold signsV at hx
            rw [List.getElem?_map] at hx
            cases hc : z.cps.toList[i]? with
            | none => rw [hc] at hx; cases hx
            | some c =>
              rw [hc] at hx
              cases hx
              refine tTrue_use ?_
              refine ⟨_, rfl, _, rfl, _, _, rfl, rfl, ?_⟩
              refine hN _ _ ⟨rfl, ?_⟩
              rw [PySem.StrLaws.found_one, List.take_add_one, hc, List.map_append]
              rfl
          · obtain ⟨rfl, rfl⟩ := p
            refine ⟨Dd, (z.cps.toList).map fun c => decide (c ∈ g.cps.toList), rfl, ?_, ?_⟩
            · refine SqL.of ?_
              rw [upd_same, signsV_length, List.take_of_length_le (by simp), List.map_map]
              rfl
            · have e : madeOf g n (.str z) = ((z.cps.toList).map fun c => decide (c ∈ g.cps.toList)).all id := by
                show (decide (1 ≤ (z.length : Int)) && decide ((z.length : Int) ≤ n) && _) = _
                rw [h1, h2', List.all_map]
                rfl
              rw [← e]
              exact q _ (same_upd hD)
      · refine ⟨_, rfl, ?_⟩
        have e : madeOf g n (.str z) = false := by
          show (decide (1 ≤ (z.length : Int)) && _ && _) = false
          have : decide (1 ≤ (z.length : Int)) = false := by simpa using h1
          rw [this, Bool.false_and, Bool.false_and]
        have := q H (Same.refl H)
        rw [e] at this
        exact this
    | _ => exact q H (Same.refl H)

def sp_is_name (K : PySem.W.Frag) : Sp := fun vs H Q _ => ∃ x, vs = [x] ∧ Any K H x ∧ ∀ H', Same H H' → Q (.bl (madeOf LET 12 x)) H'
theorem ok_is_name (D : Def K mg "is_name" s_is_name ["thing"]) {tl tm : Tok} (hL : mg "LETTERS" = some (.str LET tl)) (hM : mg "MOST_LETTERS" = some (.int 12 tm)) (km : Knows P w K mg base 1 "is_made_of" ["thing", "signs", "most"] (sp_is_made_of K)) :
    Knows P w K mg base 2 "is_name" ["thing"] (sp_is_name K) := by
  refine D.ok sc_is_name (fun vs H Q E h => ?_) (fun f cdv A outer s H vs Q E hr h => ?_)
  · obtain ⟨x, rfl, _⟩ := h
    rfl
  · obtain ⟨x, rfl, an, q⟩ := h
    refine ⟨_, by exact (pss_one (ps_ret (pe_callN km hr (pa_cons (pv 0) (pa_cons (pe_glob (v := .str LET) rfl hL ⟨_, rfl⟩) (pa_cons (pe_glob (v := .int 12) rfl hM ⟨_, rfl⟩) pa_nil)))))), ?_⟩
    exact ⟨_, rfl, x, LET, 12, rfl, an, q⟩

end
end K02

set_option Elab.async false
set_option linter.all false
set_option maxRecDepth 100000
set_option maxHeartbeats 4000000
set_option pp.maxSteps 600
set_option pp.deepTerms false
local macro_rules | `(tactic| walk_at "m") => `(tactic| first | decide | (show (0 : Int) < _; decide) | (show L2.CDiv _ _; exact ⟨by decide, by decide⟩) | omega)
namespace L2
open PySem
theorem stm_use {t u : TS} {D : Ends} {σ : St} {H : Hp} (Post : St → Hp → Prop) (hg : ∀ Q', (∀ σ' H', Post σ' H' → Q' σ' H') → t { D with nx := Q' } σ H) (k : ∀ σ' H', Post σ' H' → u D σ' H') : tSeq t u D σ H := hg _ k
theorem next_to {D : Ends} {σ : St} {H : Hp} (h : D.nx σ H) : tNext D σ H := h
end L2
namespace K02
open PySem L2 PyProof.Rows
theorem same_of {H : Hp} {p : Addr} {o : HO} (h : H p = none) : Same H (upd H p o) := fun b u e => by rw [upd_ne (ne_of_none e h)]; exact e
theorem boot_tuple : bootBuiltins "tuple" = some (.type "tuple") := by kernel_rfl
/-- only the objects of S change -/
def Chg (S : List Addr) (H H' : Hp) : Prop := ∀ b o, b ∉ S → H b = some o → H' b = some o
structure Jb where
  name : Str
  needs : List Str
  rank : Int
  span : Int
  tries : Int
  wait : Int
  grow : Int
def isName (z : Str) : Bool := madeOf LET 12 (.str z)
def jobF (j : Jb) (l : Addr) : List (Str × V) := [("name", .str j.name), ("needs", .ref l), ("rank", .int j.rank), ("span", .int j.span), ("tries", .int j.tries), ("wait", .int j.wait), ("grow", .int j.grow)]
/-- the class in the text -/
structure JCls (K : PySem.W.Frag) (mg : Str → Option Value) (C : Addr) : Prop where
  cl : Cls K C
  mgC : mg "Job" = some (.ref C)
  n1 : NoAttr K C "name"
  n2 : NoAttr K C "needs"
  n3 : NoAttr K C "rank"
  n4 : NoAttr K C "span"
  n5 : NoAttr K C "tries"
  n6 : NoAttr K C "wait"
  n7 : NoAttr K C "grow"
structure Bj (mg : Str → Option Value) : Prop where
  b : Bltn mg
  zip : mg "zip" = none
  tuple : mg "tuple" = none
  set : mg "set" = none
/-- the parts of a job's numbers: the word, the least and the most -/
def pw : List (Str × Int × Int) := [("rank", 0, 99), ("span", 1, 1000), ("tries", 1, 20), ("wait", 0, 1000), ("grow", 1, 4)]
structure PartsK (K : PySem.W.Frag) (mg : Str → Option Value) : Prop where
  ex : ∃ (T : Addr) (ps : List Addr), mg "PARTS" = some (.ref T) ∧ ps.length = 5 ∧ (∀ H, SqT K H T (ps.map V.ref)) ∧ ∀ (i : Nat) (p : Addr), ps[i]? = some p → ∃ w lo hi, pw[i]? = some (w, lo, hi) ∧ ∀ H, SqT K H p [.str w, .int lo, .int hi]
abbrev mid1 : Str := " is a whole number from "
abbrev mid2 : Str := " to "
def fok (t : Str × Int × Int) : Bool := decide (t.1.length ≤ sizeLine) && decide ((Str.empty ++ t.1).length ≤ sizeLine) && decide ((Str.empty ++ t.1 ++ mid1).length ≤ sizeLine) && decide (t.2.1.natAbs.log2 < 1920) && decide ((Str.empty ++ t.1 ++ mid1 ++ toString t.2.1).length ≤ sizeLine)
  && decide ((Str.empty ++ t.1 ++ mid1 ++ toString t.2.1 ++ mid2).length ≤ sizeLine) && decide (t.2.2.natAbs.log2 < 1920) && decide ((Str.empty ++ t.1 ++ mid1 ++ toString t.2.1 ++ mid2 ++ toString t.2.2).length ≤ sizeLine)
theorem fok_all : pw.all fok = true := by decide +kernel
theorem name_len {z : Str} (h : isName z = true) : 1 ≤ z.length ∧ z.length ≤ 12 := by
  unfold isName madeOf at h
  rw [Bool.and_eq_true, Bool.and_eq_true, decide_eq_true_eq, decide_eq_true_eq] at h
  omega
theorem FunD.okX {P : Program} {w : World} {K : PySem.W.Frag} {mg : Str → Option Value} {base : Heap} {x qual : Str} {st : Stmt} {f : Addr} {fd : FuncData} {N ps : List Str} {k : Nat} {sp : Sp} (F : FunD K x qual st f fd) (S : FnScope N ps (defScope st)) (len : ∀ vs H Q E, sp vs H Q E → vs.length = ps.length)
    (hbody : ∀ (cdv : Value) (A : Around) (outer : List Env) (s : Shared) (H : Hp) (vs : List V) (Q : VK) (E : XK), Room k (A.deeper (envOfC qual (defScope st) s.heap.objs.size f cdv)) → sp vs H Q E →
      ∃ t, PSs (cxR P w K mg base N qual (defScope st) f cdv A outer s H E) (defBody st) t ∧ t { nx := fun _ H' => Q .non H', rt := Q } (start N vs) H) : FnOk P w K mg base (CX1 P w base) (k + 1) f fd ps sp := by
  obtain ⟨oc, od, dV, kV, doc, pm, an, cdv, ct, osl, rfl, lk, hcd⟩ := F.ex
  exact fn_of lk hcd S len fun A outer s H vs Q E hr hsp => hbody cdv A outer s H vs Q E hr hsp
structure BX (K : PySem.W.Frag) (mg : Str → Option Value) (D : Nat → Addr) : Prop where
  ex0 : PySem.W.excIn K (D 0) bmV "ValueError.__new__" = true
  ex1 : PySem.W.excIn K (D 1) bmV "ValueError.__new__" = true
  ex2 : PySem.W.excIn K (D 2) bmV "ValueError.__new__" = true
  g0 : mg "BadName" = some (.ref (D 0))
  g1 : mg "BadNeeds" = some (.ref (D 1))
  g2 : mg "BadNumber" = some (.ref (D 2))
/-- a list or a tuple -/
def Sq (H : Hp) (a : Addr) (xs : List V) : Prop := H a = some (.lst xs) ∨ H a = some (.tup xs)
theorem Sq.same {H H' : Hp} {a : Addr} {xs : List V} (h : Sq H a xs) (s : Same H H') : Sq H' a xs := h.elim (fun e => .inl (s _ _ e)) (fun e => .inr (s _ _ e))
theorem Sq.or {K : PySem.W.Frag} {H : Hp} {a : Addr} {xs : List V} (h : Sq H a xs) : SqL K H a xs ∨ SqT K H a xs := h.elim (fun e => .inl (SqL.of e)) (fun e => .inr (SqT.of e))
/-- no list, no tuple, not None -/
def Odd (H : Hp) (x : V) : Prop := (∃ z, x = .str z) ∨ (∃ i, x = .int i) ∨ (∃ b, x = .bl b) ∨ ∃ a kvs, x = .ref a ∧ H a = some (.dK kvs)
def keyOf : V → Key
  | .str s => .inr s
  | _ => .inl 0
def okNeeds (z : Str) (xs : List V) : Bool := decide (xs.length ≤ 8) && (xs.all (madeOf LET 12) && (!inV (.str z) xs && decide ((uniqK (xs.map keyOf)).length = xs.length)))
theorem made_str {x : V} (h : madeOf LET 12 x = true) : ∃ s, x = .str s := by
  cases x with
  | str s => exact ⟨s, rfl⟩
  | _ => cases h
theorem all_strs : ∀ {xs : List V}, xs.all (madeOf LET 12) = true → ∃ ks : List Str, xs = ks.map V.str
  | [], _ => ⟨[], rfl⟩
  | x :: xs, h => by
    rw [List.all_cons, Bool.and_eq_true] at h
    obtain ⟨s, rfl⟩ := made_str h.1
    obtain ⟨ks, rfl⟩ := all_strs h.2
    exact ⟨s :: ks, rfl⟩
theorem keys_strs (ks : List Str) : (ks.map V.str).map keyOf = ks.map Sum.inr := by
  rw [List.map_map]
  rfl
section
variable {P : Program} {w : World} {K : PySem.W.Frag} {mg : Str → Option Value} {base : Heap} {C : Addr} {D : Nat → Addr}
theorem inV_str {z : Str} {ks : List Str} (h : z ∉ ks) : inV (.str z) (ks.map V.str) = false := by
  cases e : inV (.str z) (ks.map V.str) with
  | false => rfl
  | true =>
    exfalso
    unfold inV at e
    rw [List.any_eq_true] at e
    obtain ⟨x, hx, ex⟩ := e
    obtain ⟨y, hy, rfl⟩ := List.mem_map.mp hx
    have : y = z := by simpa [eqV] using ex
    exact h (this ▸ hy)
theorem uniq_nodup {ks : List Key} (h : ks.Nodup) : (uniqK ks).length = ks.length := by
  have : ∀ i, i ≤ ks.length → metK (fun i => ks.getD i (.inl 0)) i = ks.take i := by
    intro i
    induction i with
    | zero => intro _; rfl
    | succ i ih =>
      intro hi
      show addK (metK _ i) _ = _
      rw [ih (by omega)]
      show addK (ks.take i) (ks.getD i (.inl 0)) = _
      have e : ks.getD i (.inl 0) = ks[i] := by rw [List.getD_eq_getElem?_getD, List.getElem?_eq_getElem (by omega)]; rfl
      rw [e]
      unfold addK
      rw [if_neg]
      · exact List.take_append_getElem (l := ks) (i := i) (by omega)
      intro hm
      obtain ⟨m, hm1, hm2⟩ := List.mem_iff_getElem.mp hm
      rw [List.getElem_take] at hm2
      rw [List.length_take] at hm1
      exact (List.pairwise_iff_getElem.mp h m i (by omega) (by omega) (by omega)) hm2
  unfold uniqK
  rw [this _ (Nat.le_refl _), List.take_length]
def spCheckName (K : PySem.W.Frag) (D : Nat → Addr) : Sp := fun vs H Q E => ∃ x, vs = [x] ∧ Any K H x ∧ (madeOf LET 12 x = true → ∀ H', Same H H' → Q .non H') ∧ (madeOf LET 12 x = false → ∀ H', Same H H' → E (.ref (D 0)) none H')
theorem ok_check_name (Df : Def K mg "check_name" s_check_name ["name"]) (X : BX K mg D) (k_is_name : Knows P w K mg base 2 "is_name" ["thing"] (sp_is_name K)) : KnowsX P w K mg base 3 "check_name" ["name"] (spCheckName K D) := by
  refine Df.okX sc_check_name (fun vs H Q E h => ?_) (fun f cdv A outer s H vs Q E hr h => ?_)
  · obtain ⟨x, rfl, _⟩ := h
    rfl
  · obtain ⟨x, rfl, an, q1, q2⟩ := h
    refine ⟨_, by exact (pss_one (ps_if (pt_not (pt_val (pe_callM k_is_name hr (pa_c (pv 0) pa_nil)))) (pss_one (ps_raise X.ex0 X.g0 (pa_c pe_str pa_nil))) pss_nil)), ?_⟩
    refine ⟨_, rfl, x, rfl, an, fun H1 s1 => ⟨_, rfl, ?_⟩⟩
    cases e : madeOf LET 12 x with
    | true => exact iteF (q1 e _ s1)
    | false => exact iteT ⟨by show 1 ≤ sizeLine; decide, q2 e _ s1⟩
def spAreNeeds (K : PySem.W.Frag) : Sp := fun vs H Q _ => ∃ (x : V) (z : Str), vs = [x, .str z] ∧ ((Odd H x ∧ ∀ H', Same H H' → Q (.bl false) H') ∨ ∃ (a : Addr) (xs : List V), x = .ref a ∧ Sq H a xs ∧ (∀ y ∈ xs, Any K H y) ∧ xs.length ≤ 20 ∧ ∀ H', Same H H' → Q (.bl (okNeeds z xs)) H')
theorem ok_are_needs (Df : Def K mg "are_needs" s_are_needs ["needs", "name"]) (B : Bj mg) {tm : Tok} (hM : mg "MOST_NEEDS" = some (.int 8 tm)) (k_is_name : Knows P w K mg base 2 "is_name" ["thing"] (sp_is_name K)) : Knows P w K mg base 3 "are_needs" ["needs", "name"] (spAreNeeds K) := by
  refine Df.ok sc_are_needs (fun vs H Q E h => ?_) (fun f cdv A outer s H vs Q E hr h => ?_)
  · obtain ⟨x, z, rfl, _⟩ := h
    rfl
  · obtain ⟨x, z, rfl, h⟩ := h
    refine ⟨_, by exact (pss_cons (ps_if (PW.pt (pw_or (pt_not (pt_val (pe_bcall (call_isiT ["list", "tuple"]) rfl B.b.isi boot_isinstance (pa_c (pv 0) (pa_c (pe_tup (pa_c (pe_bltn (v := .ty "list") rfl B.b.list boot_list rfl (by decide) (by decide)) (pa_c (pe_bltn (v := .ty "tuple") rfl B.tuple boot_tuple rfl (by decide) (by decide)) pa_nil))) pa_nil))))) (pw_or1 (pt_cmpR op_gt (pe_bcall call_len_seq rfl B.b.len PySem.boot_len (pa_c (pv 0) pa_nil)) (pe_glob (v := .int 8) rfl hM ⟨_, rfl⟩) (nomark _))))) (pss_one (ps_ret pe_bl)) pss_nil)
      (pss_cons (ps_if (pt_not (pt_val (pe_bcall (call_all rfl) rfl B.b.all boot_all (pa_c (pe_comp1 [] ["need"] rfl (pi_or (pi_list (pv 0)) (pi_tup (pv 0))) (fun _ _ _ _ => pts_nil) (fun _ _ _ _ => (pe_callM k_is_name hr (pa_c (pv 0) pa_nil)))) pa_nil)))) (pss_one (ps_ret pe_bl)) pss_nil)
      (pss_one (ps_ret (pe_and (pe_cmpR op_notIn_seq (pv 1) (pv 0) (by with_unfolding_all rfl)) (pe_one (pe_cmpR op_eq (pe_either (pe_lenset rfl B.b.len B.set (pv 0)) (pe_lensetT rfl B.b.len B.set (pv 0))) (pe_bcall call_len_seq rfl B.b.len PySem.boot_len (pa_c (pv 0) pa_nil)) (nomark _)))))))), ?_⟩
    refine ⟨_, rfl, by show 2 ≤ sizeLine; decide, fun t ht => ?_⟩
    have s1 : Same H (upd H t (.tup [.ty "list", .ty "tuple"])) := same_of ht
    have e1 : (upd H t (.tup [.ty "list", .ty "tuple"])) t = some (.tup [.ty "list", .ty "tuple"]) := upd_same
    generalize upd H t (.tup [.ty "list", .ty "tuple"]) = H1 at s1 e1
    rcases h with ⟨od, q⟩ | ⟨a, xs, rfl, sq, an, l20, q⟩
    · rcases od with ⟨y, rfl⟩ | ⟨y, rfl⟩ | ⟨y, rfl⟩ | ⟨a, kvs, rfl, hk⟩
      · exact ⟨_, t, _, false, rfl, e1, .str _, by kernel_rfl, _, rfl, iteT (iteT (q _ s1))⟩
      · exact ⟨_, t, _, false, rfl, e1, .int _, by kernel_rfl, _, rfl, iteT (iteT (q _ s1))⟩
      · exact ⟨_, t, _, false, rfl, e1, .bl _, by kernel_rfl, _, rfl, iteT (iteT (q _ s1))⟩
      · exact ⟨_, t, _, false, rfl, e1, .dK (s1 _ _ hk), by kernel_rfl, _, rfl, iteT (iteT (q _ s1))⟩
    · have sq1 := sq.same s1
      have rest : (∃ k, k = decide ((8 : Int) < (xs.length : Int)) ∧ True) → True := fun _ => True.intro
      have ty : ∃ m, TyOf K H1 (.ref a) (.type m) ∧ (m = "list" ∨ m = "tuple") := sq1.elim (fun e => ⟨_, .lst e, .inl rfl⟩) (fun e => ⟨_, .tup e, .inr rfl⟩)
      obtain ⟨m, ty, hm⟩ := ty
      refine ⟨_, t, _, true, rfl, e1, ty, (by rcases hm with rfl | rfl <;> kernel_rfl), _, rfl, iteF ?_⟩
      refine ⟨_, rfl, a, xs, rfl, sq1.or, _, _, rfl, rfl, _, rfl, ite2 (fun h8 => ?_) (fun h8 => next_to ?_)⟩
      · have h8' : ¬ xs.length ≤ 8 := by have := of_decide_eq_true h8; omega
        have e : okNeeds z xs = false := by unfold okNeeds; rw [decide_eq_false h8', Bool.false_and]
        rw [e] at q
        exact q _ s1
      · have h8' : xs.length ≤ 8 := by
          have : ¬ (8 : Int) < (xs.length : Int) := fun z => h8 (decide_eq_true z)
          omega
        dsimp only
        refine if_use (fun b H' => b = !(xs.all (madeOf LET 12)) ∧ Same H1 H') (fun Q' kk => ?_) ?_ ?_
        · have comp : ∀ (J : It) (Pp : Hp → Prop), Wk J xs Pp → (∀ H', Same H1 H' → Pp H') → ∀ (Qc : VK) (σ : L2.St), (∀ Dd H', Same H1 H' → H' Dd = none → Qc (.ref Dd) (upd H' Dd (.lst ((xs.map (madeOf LET 12)).map V.bl)))) → tCompB 1 [] (gName 0) tTrue (tCall (sp_is_name K) [] E0 (tCons (tVar 0) tNil)) σ Qc J H1 := fun J Pp wk hP Qc σ fin => by
            refine comp1_wk wk (fun i ys H3 => Same H1 H3 ∧ ys = ((xs.take i).map (madeOf LET 12)).map V.bl) ⟨Same.refl _, rfl⟩ (fun i ys H3 _ h => ⟨hP _ h.1, by rw [h.2, List.length_map, List.length_map, List.length_take]; omega⟩) (Nat.le_trans l20 (by decide)) (fun i y ys H3 Nx hy hv k => ?_) ?_
            · obtain ⟨s3, rfl⟩ := hv
              refine tTrue_use ⟨_, rfl, y, rfl, ((an y (List.mem_of_getElem? hy)).same s1).same s3, fun H4 s4 => k _ _ ⟨s3.trans s4, ?_⟩⟩
              rw [List.take_add_one, hy, List.map_append, List.map_append]
              rfl
            · rintro ys H3 ⟨s3, rfl⟩ p hp
              have := fin p H3 s3 hp
              rw [List.take_length]
              exact this
          have fin : ∀ Dd H', Same H1 H' → H' Dd = none → ∃ (p : Addr) (bs : List Bool), [V.ref Dd] = [.ref p] ∧ SqL K (upd H' Dd (.lst ((xs.map (madeOf LET 12)).map V.bl))) p (bs.map V.bl) ∧ ∃ c, V.bl (bs.all id) = .bl c ∧ Q' (!c) (upd H' Dd (.lst ((xs.map (madeOf LET 12)).map V.bl))) := fun Dd H' s2 hD => by
            refine ⟨Dd, xs.map (madeOf LET 12), rfl, SqL.of upd_same, _, rfl, kk _ _ ⟨?_, s2.trans (same_of hD)⟩⟩
            rw [List.all_map]
            rfl
          rcases sq1 with e | e
          · refine .inl ⟨_, rfl, a, rfl, ⟨_, SqL.of e⟩, ?_⟩
            refine comp _ _ (wk_list K a xs) (fun H' s' => SqL.of (s' _ _ e)) _ _ (fun Dd H' s' hD => ?_)
            exact fin Dd H' s' hD
          · refine .inr ⟨_, rfl, a, rfl, ⟨_, SqT.of e⟩, ?_⟩
            refine comp _ _ (wk_tup K a xs) (fun H' s' => SqT.of (s' _ _ e)) _ _ (fun Dd H' s' hD => ?_)
            exact fin Dd H' s' hD
        · rintro H2 ⟨hb, s2⟩
          have hb' : xs.all (madeOf LET 12) = false := by
            cases h : xs.all (madeOf LET 12) with
            | false => rfl
            | true => rw [h] at hb; cases hb
          have e : okNeeds z xs = false := by unfold okNeeds; rw [hb', Bool.false_and, Bool.and_false]
          rw [e] at q
          exact q _ (s1.trans s2)
        · rintro H2 ⟨hb, s2⟩
          have hb' : xs.all (madeOf LET 12) = true := by
            cases h : xs.all (madeOf LET 12) with
            | false => rw [h] at hb; cases hb
            | true => rfl
          refine next_to ?_
          dsimp only
          obtain ⟨ks, rfl⟩ := all_strs hb'
          have sq2 := sq1.same s2
          refine ⟨_, rfl, _, rfl, a, _, rfl, sq2.or, rfl, by simp [flatV], ?_⟩
          have fin := q _ (s1.trans s2)
          unfold okNeeds at fin
          rw [decide_eq_true h8', hb', Bool.true_and, Bool.true_and] at fin
          have e0 : (if true = true then !inV (.str z) (ks.map V.str) else inV (.str z) (ks.map V.str)) = !inV (.str z) (ks.map V.str) := rfl
          rw [e0]
          refine ⟨_, rfl, ite2 (fun h => ?_) (fun h => ?_)⟩
          · rw [h, Bool.true_and, keys_strs] at fin
            have ek : ks.map V.str = (ks.map (Sum.inr : Str → Key)).map kV := by rw [List.map_map]; rfl
            have hb1 : (ks.map (Sum.inr : Str → Key)).length + 1 < scanBound := by rw [List.length_map]; rw [List.length_map] at h8'; exact Nat.lt_of_le_of_lt (Nat.succ_le_succ h8') (by decide)
            have hll : (ks.map V.str).length = ks.length := List.length_map ..
            rw [hll] at fin
            have tail : ∃ a_1 ys, [V.ref a] = [.ref a_1] ∧ (SqL K H2 a_1 ys ∨ SqT K H2 a_1 ys) ∧ (flatV (.int ((uniqK (ks.map Sum.inr)).length : Int)) && flatV (.int (ys.length : Int))) = true ∧ Q (.bl (decide (V.int ((uniqK (ks.map Sum.inr)).length : Int) = V.int (ys.length : Int)))) H2 := by
              refine ⟨a, _, rfl, sq2.or, rfl, ?_⟩
              rw [hll]
              have : decide (V.int ((uniqK (ks.map Sum.inr)).length : Int) = V.int (ks.length : Int)) = decide ((uniqK (ks.map (Sum.inr : Str → Key))).length = ks.length) := by
                by_cases e : (uniqK (ks.map (Sum.inr : Str → Key))).length = ks.length
                · rw [decide_eq_true e, e]
                  exact decide_eq_true rfl
                · rw [decide_eq_false e]
                  exact decide_eq_false fun z => e (by injection z with z; omega)
              rw [this]
              exact fin
            obtain ⟨a1, ys, ea, so, fl, qq⟩ := tail
            cases ea
            rcases sq2 with e | e
            · exact .inl ⟨_, rfl, a, ks.map Sum.inr, rfl, by rw [← ek]; exact SqL.of e, hb1, _, rfl, a, ys, rfl, so, rfl, qq⟩
            · exact .inr ⟨_, rfl, a, ks.map Sum.inr, rfl, by rw [← ek]; exact SqT.of e, hb1, _, rfl, a, ys, rfl, so, rfl, qq⟩
          · have h' : (!inV (.str z) (ks.map V.str)) = false := by simpa using h
            rw [h', Bool.false_and] at fin
            exact fin
end
end K02

set_option Elab.async false
set_option linter.all false
set_option maxRecDepth 100000
set_option maxHeartbeats 4000000
set_option pp.maxSteps 600
set_option pp.deepTerms false
namespace L2
open PySem
theorem fld_use {K : PySem.W.Frag} {ta tv : TE} {f : Str} {u : TS} {D : Ends} {σ : St} {H : Hp} (Post : V → Hp → Prop) (g : ∀ Q', (∀ v H', Post v H' → Q' v H') → tv σ H Q')
    (k : ∀ v H', Post v H' → ta σ H' fun x H2 => ∃ a C dx fs, x = .ref a ∧ H2 a = some (.ins C dx fs) ∧ Cls K C ∧ NoAttr K C f ∧ fs.length < 1000 ∧ u D σ (upd H2 a (.ins C dx (putF f v fs)))) : tSeq (sFld K ta tv f) u D σ H := g _ k
end L2
namespace K02
open PySem L2 PyProof.Rows
theorem ite_of {b d : Bool} {A B : Prop} (e : b = d) (h1 : d = true → A) (h2 : d = false → B) : if b = true then A else B := by
  subst e
  exact ite_b h1 h2
abbrev jps : List Str := ["self", "name", "needs", "rank", "span", "tries", "wait", "grow"]
/-- what may stand for the needs: None, no list or tuple at all, or one of any things -/
inductive Nd (K : PySem.W.Frag) (H : Hp) (z : Str) : V → Option (List Str) → Prop
  | non : Nd K H z .non (some [])
  | odd {x : V} : Odd H x → Nd K H z x none
  | good {a : Addr} {ks : List Str} : Sq H a (ks.map V.str) → ks.length ≤ 20 → okNeeds z (ks.map V.str) = true → (∀ k ∈ ks, k.length ≤ 100000) → Nd K H z (.ref a) (some ks)
  | bad {a : Addr} {xs : List V} : Sq H a xs → (∀ y ∈ xs, Any K H y) → xs.length ≤ 20 → okNeeds z xs = false → Nd K H z (.ref a) none
theorem Odd.same {H H' : Hp} {x : V} (h : Odd H x) (s : Same H H') : Odd H' x := by
  rcases h with h | h | h | ⟨a, k, e, h⟩
  · exact .inl h
  · exact .inr (.inl h)
  · exact .inr (.inr (.inl h))
  · exact .inr (.inr (.inr ⟨a, k, e, s _ _ h⟩))
theorem Nd.same {K : PySem.W.Frag} {H H' : Hp} {z : Str} {x : V} {o : Option (List Str)} (h : Nd K H z x o) (s : Same H H') : Nd K H' z x o := by
  cases h with
  | non => exact .non
  | odd h => exact .odd (h.same s)
  | good a b c d => exact .good (a.same s) b c d
  | bad a b c d => exact .bad (a.same s) (fun y hy => (b y hy).same s) c d
/-- each number is among its bounds -/
def okNums (ys : List V) : Prop := ∀ (i : Nat) (w : Str) (lo hi : Int) (y : V), pw[i]? = some (w, lo, hi) → ys[i]? = some y → amongV y lo hi = true
section
variable {P : Program} {w : World} {K : PySem.W.Frag} {mg : Str → Option Value} {base : Heap} {C : Addr} {D : Nat → Addr}
def spCheckNeeds (K : PySem.W.Frag) (D : Nat → Addr) : Sp := fun vs H Q E => ∃ (x : V) (z : Str) (o : Option (List Str)), vs = [x, .str z] ∧ Nd K H z x o ∧ (o.isSome = true → ∀ H', Same H H' → Q .non H') ∧ (o = none → ∀ H', Same H H' → E (.ref (D 1)) none H')
theorem ok_check_needs (Df : Def K mg "check_needs" s_check_needs ["needs", "name"]) (X : BX K mg D) (k_are_needs : Knows P w K mg base 3 "are_needs" ["needs", "name"] (spAreNeeds K)) : KnowsX P w K mg base 4 "check_needs" ["needs", "name"] (spCheckNeeds K D) := by
  refine Df.okX sc_check_needs (fun vs H Q E h => ?_) (fun f cdv A outer s H vs Q E hr h => ?_)
  · obtain ⟨x, z, o, rfl, _⟩ := h
    rfl
  · obtain ⟨x, z, o, rfl, nd, q1, q2⟩ := h
    refine ⟨_, by exact (pss_one (ps_if (PW.pt (pw_and (pt_cmpR op_notN (pv 0) pe_non (nomark _)) (pw_and1 (pt_not (pt_val (pe_callM k_are_needs hr (pa_c (pv 0) (pa_c (pv 1) pa_nil)))))))) (pss_one (ps_raise X.ex1 X.g1 (pa_c pe_str pa_nil))) pss_nil)), ?_⟩
    cases nd with
    | non => exact ⟨_, rfl, rfl, _, rfl, iteF (iteF (q1 rfl _ (Same.refl _)))⟩
    | odd od =>
      have hx : (!decide (x = V.non)) = true := by
        rcases od with ⟨y, rfl⟩ | ⟨y, rfl⟩ | ⟨y, rfl⟩ | ⟨a, kvs, rfl, _⟩ <;> rfl
      refine ⟨_, rfl, rfl, _, rfl, ite_of (d := true) hx (fun _ => ?_) (fun h => by cases h)⟩
      exact ⟨_, rfl, _, rfl, x, z, rfl, .inl ⟨od, fun H1 s1 => ⟨_, rfl, iteT ⟨by show 1 ≤ sizeLine; decide, q2 rfl _ s1⟩⟩⟩⟩
    | @good a ks sq hl ok hk =>
      refine ⟨_, rfl, rfl, _, rfl, iteT ⟨_, rfl, _, rfl, .ref a, z, rfl, .inr ⟨a, ks.map V.str, rfl, sq, ?_, by rw [List.length_map]; exact hl, fun H1 s1 => ⟨_, rfl, ?_⟩⟩⟩⟩
      · intro y hy
        obtain ⟨k, hk', rfl⟩ := List.mem_map.mp hy
        exact Any.str (hk k hk')
      · rw [ok]
        exact iteF (q1 rfl _ s1)
    | @bad a xs sq an hl ok =>
      refine ⟨_, rfl, rfl, _, rfl, iteT ⟨_, rfl, _, rfl, .ref a, z, rfl, .inr ⟨a, xs, rfl, sq, an, hl, fun H1 s1 => ⟨_, rfl, ?_⟩⟩⟩⟩
      rw [ok]
      exact iteT ⟨by show 1 ≤ sizeLine; decide, q2 rfl _ s1⟩
def spCheckNumbers (K : PySem.W.Frag) (D : Nat → Addr) : Sp := fun vs H Q E => ∃ (t : Addr) (ys : List V), vs = [.ref t] ∧ H t = some (.tup ys) ∧ ys.length = 5 ∧ (∀ y ∈ ys, Any K H y) ∧ (okNums ys → ∀ H', Same H H' → Q .non H') ∧ (¬ okNums ys → ∀ H', Same H H' → E (.ref (D 2)) none H')
theorem ok_check_numbers (Df : Def K mg "check_numbers" s_check_numbers ["numbers"]) (B : Bj mg) (PK : PartsK K mg) (X : BX K mg D) (k_is_among : Knows P w K mg base 2 "is_among" ["thing", "least", "most"] (sp_is_among K)) : KnowsX P w K mg base 3 "check_numbers" ["numbers"] (spCheckNumbers K D) := by
  refine Df.okX sc_check_numbers (fun vs H Q E h => ?_) (fun f cdv A outer s H vs Q E hr h => ?_)
  · obtain ⟨t, ys, rfl, _⟩ := h
    rfl
  · obtain ⟨t, ys, rfl, ht, hl, an, q1, q2⟩ := h
    obtain ⟨T, ps, hmg, hpl, hT, hp⟩ := PK.ex
    refine ⟨_, by exact (pss_one (ps_for PassesOwn.leaving rfl (pi_zipT B.zip (pe_glob (v := .ref T) rfl hmg rfl) (pv 0)) (pg_tup rfl (pgs_cons (pg_name (i := 1) sc_check_numbers.nd rfl (Or.inl rfl)) (pgs_cons (pg_name (i := 2) sc_check_numbers.nd rfl (Or.inl rfl)) pgs_nil))) (pss_cons (ps_set (i := 3) sc_check_numbers.nd rfl (Or.inl rfl) (pe_ix ix_tup (pv 1) pe_int (fun _ _ => rfl)))
      (pss_cons (ps_set (i := 4) sc_check_numbers.nd rfl (Or.inl rfl) (pe_ix ix_tup (pv 1) pe_int (fun _ _ => rfl)))
      (pss_cons (ps_set (i := 5) sc_check_numbers.nd rfl (Or.inl rfl) (pe_ix ix_tup (pv 1) pe_int (fun _ _ => rfl)))
      (pss_one (ps_if (pt_not (pt_val (pe_callM k_is_among hr (pa_c (pv 2) (pa_c (pv 4) (pa_c (pv 5) pa_nil)))))) (pss_one (ps_raise X.ex2 X.g2 (pa_c (pe_fstr (pj_cons (pe_fmt (pv 3)) (pj_cons pe_str (pj_cons (pe_fmt (pv 4)) (pj_cons pe_str (pj_cons (pe_fmt (pv 5)) pj_nil)))))) pa_nil))) pss_nil))))))), ?_⟩
    refine ⟨_, rfl, T, t, rfl, rfl, ⟨_, hT H⟩, ⟨_, SqT.of ht⟩, ?_⟩
    refine for_zipT (xs := ps.map V.ref) (ys := ys) (n := 5) (by rw [List.length_map, hpl, hl]; rfl) (fun i σ H1 => Same H H1 ∧ (∀ (j : Nat) (w : Str) (lo hi : Int) (y : V), j < i → pw[j]? = some (w, lo, hi) → ys[j]? = some y → amongV y lo hi = true) ∧ ∃ v1 v2 v3 v4 v5, σ = [some (.ref t), v1, v2, v3, v4, v5]) ⟨Same.refl _, (fun j w lo hi y h => by omega), _, _, _, _, _, rfl⟩ (fun i σ H1 _ h => ⟨hT H1, SqT.of (h.1 _ _ ht)⟩) ?_ ?_
    · rintro i x y σ H1 t2 hx hy ⟨s1, hg, v1, v2, v3, v4, v5, rfl⟩ h2
      rw [List.getElem?_map] at hx
      obtain ⟨p, hp', rfl⟩ := Option.map_eq_some_iff.mp hx
      obtain ⟨wd, lo, hi, hbd, hpt⟩ := hp i p hp'
      refine ⟨t2, _, rfl, SqT.of upd_same, rfl, _, _, rfl, _, _, rfl, rfl, ?_⟩
      have s2 : Same H1 (upd H1 t2 (.tup [.ref p, y])) := same_of h2
      generalize upd H1 t2 (.tup [.ref p, y]) = H2 at s2
      refine ⟨_, rfl, p, _, _, _, rfl, rfl, hpt H2, atI_nat (j := 0) rfl, ?_⟩
      refine ⟨_, rfl, p, _, _, _, rfl, rfl, hpt H2, atI_nat (j := 1) rfl, ?_⟩
      refine ⟨_, rfl, p, _, _, _, rfl, rfl, hpt H2, atI_nat (j := 2) rfl, ?_⟩
      refine ⟨_, rfl, _, rfl, _, rfl, y, lo, hi, rfl, (an y (List.mem_of_getElem? hy)).same (s1.trans s2), _, rfl, ?_⟩
      cases e : amongV y lo hi with
      | true =>
        refine iteF ⟨s1.trans s2, fun j w lo' hi' y' hj h1' h2' => ?_, _, _, _, _, _, rfl⟩
        by_cases hji : j = i
        · rw [hji, hbd] at h1'
          rw [hji, hy] at h2'
          cases h1'
          cases h2'
          exact e
        · exact hg j w lo' hi' y' (by omega) h1' h2'
      | false =>
        have fk : fok (wd, lo, hi) = true := List.all_eq_true.mp fok_all _ (List.mem_of_getElem? hbd)
        unfold fok at fk
        simp only [Bool.and_eq_true, decide_eq_true_eq] at fk
        obtain ⟨⟨⟨⟨⟨⟨⟨f1, f2⟩, f3⟩, f4⟩, f5⟩, f6⟩, f7⟩, f8⟩ := fk
        refine iteT ⟨_, rfl, .inl ⟨wd, rfl, f1, ⟨_, rfl, f2, _, rfl, f3, _, rfl, .inr ⟨lo, rfl, f4, ⟨_, rfl, f5, _, rfl, f6, _, rfl, .inr ⟨hi, rfl, f7, ⟨_, rfl, f8, f8, by show 1 ≤ sizeLine; decide, ?_⟩⟩⟩⟩⟩⟩⟩
        refine q2 (fun ok => ?_) _ (s1.trans s2)
        rw [ok i wd lo hi y hbd hy] at e
        cases e
    · rintro σ H1 ⟨s1, hg, _⟩
      refine q1 (fun i w lo hi y h1 h2 => hg i w lo hi y ?_ h1 h2) _ s1
      have := (List.getElem?_eq_some_iff.mp h1).1
      exact this
end
end K02

set_option Elab.async false
set_option linter.all false
set_option maxRecDepth 100000
set_option maxHeartbeats 4000000
set_option pp.maxSteps 600
set_option pp.deepTerms false
namespace K02
open PySem L2 PyProof.Rows
/-- a job at p, its needs in the list at l -/
structure JobL (C : Addr) (H : Hp) (p l : Addr) (j : Jb) : Prop where
  ob : ∃ dx, H p = some (.ins C dx (jobF j l))
  ls : H l = some (.lst (j.needs.map V.str))
theorem JobL.same {C : Addr} {H H' : Hp} {p l : Addr} {j : Jb} (h : JobL C H p l j) (s : Same H H') : JobL C H' p l j := by
  obtain ⟨⟨dx, a⟩, b⟩ := h
  exact ⟨⟨dx, s _ _ a⟩, s _ _ b⟩
theorem among_int {y : V} {lo hi : Int} (h : amongV y lo hi = true) : ∃ n : Int, y = .int n ∧ lo ≤ n ∧ n ≤ hi := by
  cases y with
  | int n =>
    have h' : (decide (lo ≤ n) && decide (n ≤ hi)) = true := h
    rw [Bool.and_eq_true, decide_eq_true_eq, decide_eq_true_eq] at h'
    exact ⟨n, rfl, h'.1, h'.2⟩
  | _ => cases h
theorem nums_ints {v1 v2 v3 v4 v5 : V} (h : okNums [v1, v2, v3, v4, v5]) : ∃ a b c d e : Int, v1 = .int a ∧ v2 = .int b ∧ v3 = .int c ∧ v4 = .int d ∧ v5 = .int e := by
  obtain ⟨a, rfl, _⟩ := among_int (h 0 "rank" 0 99 v1 rfl rfl)
  obtain ⟨b, rfl, _⟩ := among_int (h 1 "span" 1 1000 v2 rfl rfl)
  obtain ⟨c, rfl, _⟩ := among_int (h 2 "tries" 1 20 v3 rfl rfl)
  obtain ⟨d, rfl, _⟩ := among_int (h 3 "wait" 0 1000 v4 rfl rfl)
  obtain ⟨e, rfl, _⟩ := among_int (h 4 "grow" 1 4 v5 rfl rfl)
  exact ⟨a, b, c, d, e, rfl, rfl, rfl, rfl, rfl⟩
section
variable {P : Program} {w : World} {K : PySem.W.Frag} {mg : Str → Option Value} {base : Heap} {C : Addr} {D : Nat → Addr}
def spJob (K : PySem.W.Frag) (C : Addr) (D : Nat → Addr) : Sp := fun vs H Q E => ∃ (p dx : Addr) (nm nd v1 v2 v3 v4 v5 : V), vs = [.ref p, nm, nd, v1, v2, v3, v4, v5] ∧ H p = some (.ins C dx []) ∧ Any K H nm ∧ (∀ y ∈ [v1, v2, v3, v4, v5], Any K H y) ∧
  (madeOf LET 12 nm = false → ∀ H', Same H H' → E (.ref (D 0)) none H') ∧
  (madeOf LET 12 nm = true → ∃ (z : Str) (o : Option (List Str)), nm = .str z ∧ Nd K H z nd o ∧ (o = none → ∀ H', Same H H' → E (.ref (D 1)) none H') ∧
    (∀ ks, o = some ks → (¬ okNums [v1, v2, v3, v4, v5] → ∀ H', Same H H' → E (.ref (D 2)) none H') ∧
      ∀ a b c d e : Int, v1 = .int a → v2 = .int b → v3 = .int c → v4 = .int d → v5 = .int e → okNums [v1, v2, v3, v4, v5] → ∀ l H', H l = none → JobL C H' p l ⟨z, ks, a, b, c, d, e⟩ → Chg [p] H H' → Q .non H'))
theorem ok_job {f : Addr} {fd : FuncData} (F : FunD K "__init__" "Job.__init__" s_Job___init__ f fd) (J : JCls K mg C) (B : Bj mg) (k_check_name : KnowsX P w K mg base 3 "check_name" ["name"] (spCheckName K D)) (k_check_needs : KnowsX P w K mg base 4 "check_needs" ["needs", "name"] (spCheckNeeds K D))
    (k_check_numbers : KnowsX P w K mg base 3 "check_numbers" ["numbers"] (spCheckNumbers K D)) : FnOk P w K mg base (CX1 P w base) 5 f fd jps (spJob K C D) := by
  refine FunD.okX F sc_Job___init__ (fun vs H Q E h => ?_) (fun cdv A outer s H vs Q E hr h => ?_)
  · obtain ⟨p, dx, nm, nd, v1, v2, v3, v4, v5, rfl, _⟩ := h
    rfl
  · obtain ⟨p, dx, nm, nd, v1, v2, v3, v4, v5, rfl, hp, anm, anv, qn, qy⟩ := h
    refine ⟨_, by exact (pss_cons (ps_expr (pe_callX k_check_name hr passes_on (pa_c (pv 1) pa_nil)))
      (pss_cons (ps_expr (pe_callX k_check_needs hr passes_on (pa_c (pv 2) (pa_c (pv 1) pa_nil))))
      (pss_cons (ps_expr (pe_callX k_check_numbers hr passes_on (pa_c (pe_tup (pa_c (pv 3) (pa_c (pv 4) (pa_c (pv 5) (pa_c (pv 6) (pa_c (pv 7) pa_nil)))))) pa_nil)))
      (pss_cons (ps_fld (pv 0) (pv 1) rfl)
      (pss_cons (ps_fld (pv 0) (pe_ifExp (pt_cmpR op_isN (pv 2) pe_non (nomark _)) (pe_lst pa_nil) (pe_tcall call_list_of rfl B.b.list boot_list (pa_c (pv 2) pa_nil))) rfl)
      (pss_cons (ps_fld (pv 0) (pv 3) rfl)
      (pss_cons (ps_fld (pv 0) (pv 4) rfl)
      (pss_cons (ps_fld (pv 0) (pv 5) rfl)
      (pss_cons (ps_fld (pv 0) (pv 6) rfl)
      (pss_one (ps_fld (pv 0) (pv 7) rfl))))))))))), ?_⟩
    refine ⟨_, rfl, nm, rfl, anm, fun hm H1 s1 => ?_, qn⟩
    obtain ⟨z, o, rfl, nd0, qd, qk⟩ := qy hm
    refine ⟨_, rfl, _, rfl, nd, z, o, rfl, nd0.same s1, fun ho H2 s2 => ?_, fun ho H2 s2 => qd ho _ (s1.trans s2)⟩
    obtain ⟨ks, rfl⟩ := Option.isSome_iff_exists.mp ho
    obtain ⟨qm, qg⟩ := qk ks rfl
    refine ⟨_, rfl, _, rfl, _, rfl, _, rfl, _, rfl, by show 5 ≤ sizeLine; decide, fun t ht => ?_⟩
    have s3 : Same H2 (upd H2 t (.tup [v1, v2, v3, v4, v5])) := same_of ht
    have s13 := (s1.trans s2).trans s3
    refine ⟨t, [v1, v2, v3, v4, v5], rfl, upd_same, rfl, fun y hy => (anv y hy).same s13, fun okn H4 s4 => ?_, fun okn H4 s4 => qm okn _ (s13.trans s4)⟩
    obtain ⟨a, b, c, d, e, rfl, rfl, rfl, rfl, rfl⟩ := nums_ints okn
    have s5 := s13.trans s4
    have p5 := s5 _ _ hp
    refine ⟨_, rfl, _, rfl, p, C, dx, [], rfl, p5, J.cl, J.n1, by decide, ?_⟩
    have c6 : Chg [p] H (upd H4 p (.ins C dx (putF "name" (.str z) []))) := fun b o hb e => by rw [upd_ne (fun z => hb (by simp [z]))]; exact s5 _ _ e
    have p6 : (upd H4 p (.ins C dx (putF "name" (.str z) []))) p = some (.ins C dx [("name", .str z)]) := upd_same
    generalize upd H4 p (.ins C dx (putF "name" (.str z) [])) = H6 at c6 p6
    dsimp only
    refine fld_use (fun v H' => ∃ l, v = .ref l ∧ l ≠ p ∧ H l = none ∧ H' l = some (.lst (ks.map V.str)) ∧ H' p = some (.ins C dx [("name", .str z)]) ∧ Chg [p] H H') (fun Q' kk => ?_) ?_
    · have fin : ∀ l, H6 l = none → Q' (.ref l) (upd H6 l (.lst (ks.map V.str))) := fun l hl => by
        have hlp : l ≠ p := fun z => by rw [z, p6] at hl; cases hl
        have hln : H l = none := by
          cases eh : H l with
          | none => rfl
          | some u =>
            have := c6 l u (fun y => hlp (List.mem_singleton.mp y)) eh
            rw [hl] at this
            cases this
        exact kk _ _ ⟨l, rfl, hlp, hln, upd_same, by rw [upd_ne (Ne.symm hlp)]; exact p6, fun b o hb e => by rw [upd_ne (ne_of_none (c6 b o hb e) hl)]; exact c6 b o hb e⟩
      cases nd0 with
      | non => exact ⟨_, rfl, rfl, _, rfl, iteT ⟨by decide, fin⟩⟩
      | @good na ks' sq hl ok hk =>
        have hne : na ≠ p := fun y => by
          rcases sq with e | e
          · rw [y, hp] at e; cases e
          · rw [y, hp] at e; cases e
        have sq6 : Sq H6 na (ks.map V.str) := sq.elim (fun e => .inl (c6 _ _ (fun y => hne (List.mem_singleton.mp y)) e)) (fun e => .inr (c6 _ _ (fun y => hne (List.mem_singleton.mp y)) e))
        exact ⟨_, rfl, rfl, _, rfl, iteF ⟨_, rfl, na, _, rfl, sq6.or, fin⟩⟩
    rintro v H7 ⟨l, rfl, hlp, hln, hl, p7, c7⟩
    refine ⟨_, rfl, p, C, dx, _, rfl, p7, J.cl, J.n2, (by show 1 < 1000; decide), ?_⟩
    refine ⟨_, rfl, _, rfl, p, C, dx, _, rfl, upd_same, J.cl, J.n3, (by show 2 < 1000; decide), ?_⟩
    refine ⟨_, rfl, _, rfl, p, C, dx, _, rfl, upd_same, J.cl, J.n4, (by show 3 < 1000; decide), ?_⟩
    refine ⟨_, rfl, _, rfl, p, C, dx, _, rfl, upd_same, J.cl, J.n5, (by show 4 < 1000; decide), ?_⟩
    refine ⟨_, rfl, _, rfl, p, C, dx, _, rfl, upd_same, J.cl, J.n6, (by show 5 < 1000; decide), ?_⟩
    refine ⟨_, rfl, _, rfl, p, C, dx, _, rfl, upd_same, J.cl, J.n7, (by show 6 < 1000; decide), ?_⟩
    refine qg a b c d e rfl rfl rfl rfl rfl okn l _ hln ⟨⟨dx, upd_same⟩, ?_⟩ fun b o hb e => ?_
    · rw [upd_ne hlp, upd_ne hlp, upd_ne hlp, upd_ne hlp, upd_ne hlp, upd_ne hlp]
      exact hl
    · have hb' : b ≠ p := fun z => hb (by simp [z])
      rw [upd_ne hb', upd_ne hb', upd_ne hb', upd_ne hb', upd_ne hb', upd_ne hb']
      exact c7 b o hb e
end
end K02

set_option Elab.async false
set_option linter.all false
set_option maxRecDepth 100000
set_option maxHeartbeats 4000000
set_option pp.maxSteps 600
set_option pp.deepTerms false
seal L2.PIQ
namespace K02
open PySem L2 PyProof.Rows
theorem boot_VE : bootBuiltins "ValueError" = some (.type "ValueError") := by kernel_rfl
/-- the classes of refusals, and what isinstance tells of one -/
structure EX (K : PySem.W.Frag) (mg : Str → Option Value) (D : Nat → Addr) (CH : Addr) (R : Nat → Prop) : Prop where
  c0 : ECls0 K
  ec : ∀ r, R r → ECls K (D r)
  kit : ∀ r i, R r → i < 19 → PySem.W.kitOne K (.ref (D r)) (.ref (D i)) = some (decide (i = r))
  ve : ∀ r, R r → PySem.W.kitOne K (.ref (D r)) (.type "ValueError") = some true
  he : ∀ r, R r → PySem.W.kitOne K (.ref (D r)) (.ref CH) = some true
  noVE : mg "ValueError" = none
  gH : mg "HallError" = some (.ref CH)
  g0 : mg "BadName" = some (.ref (D 0))
  g1 : mg "BadNeeds" = some (.ref (D 1))
  g2 : mg "BadNumber" = some (.ref (D 2))
  g3 : mg "BadPlan" = some (.ref (D 3))
  g4 : mg "Twice" = some (.ref (D 4))
  g5 : mg "NoJob" = some (.ref (D 5))
  g6 : mg "Ring" = some (.ref (D 6))
  g7 : mg "BadLine" = some (.ref (D 7))
  g8 : mg "Busy" = some (.ref (D 8))
  g9 : mg "Gone" = some (.ref (D 9))
  g10 : mg "BadTerm" = some (.ref (D 10))
  g11 : mg "NoAlarm" = some (.ref (D 11))
  g12 : mg "BadStep" = some (.ref (D 12))
  g13 : mg "BadState" = some (.ref (D 13))
  g14 : mg "BadTurn" = some (.ref (D 14))
  g15 : mg "BadBuilders" = some (.ref (D 15))
  g16 : mg "BadBook" = some (.ref (D 16))
  g17 : mg "BadShot" = some (.ref (D 17))
  g18 : mg "BadEvent" = some (.ref (D 18))
def kn (r n : Nat) : List V := (List.range n).map fun i => .bl (decide (i = r))
theorem kn_flat (r n : Nat) : (kn r n).all flatV = true := by
  rw [List.all_eq_true]
  intro x hx
  obtain ⟨j, _, rfl⟩ := List.mem_map.mp hx
  rfl
theorem kn_succ (r n : Nat) : kn r (n + 1) = kn r n ++ [.bl (decide (n = r))] := by
  unfold kn
  rw [List.range_succ, List.map_append]
  rfl
theorem kn_len (r n : Nat) : (kn r n).length = n := by
  unfold kn
  simp
section
variable {P : Program} {w : World} {K : PySem.W.Frag} {mg : Str → Option Value} {base : Heap} {D : Nat → Addr} {CH : Addr} {R : Nat → Prop}
def spKinds (D : Nat → Addr) (R : Nat → Prop) : Sp := fun vs H Q _ => ∃ (a : Addr) (r : Nat), vs = [.ref a] ∧ R r ∧ H a = some (ExcO a (D r)) ∧ ∀ l H', Same H H' → H' l = some (.lst (kn r 19)) → Q (.ref l) H'
theorem ok_kinds (Df : Def K mg "_law_kinds" s__law_kinds ["_law_e"]) (B : Bltn mg) (X : EX K mg D CH R) : KnowsQ P w K mg base 1 "_law_kinds" ["_law_e"] (spKinds D R) := by
  refine Df.okQ sc__law_kinds (fun vs H Q E h => ?_) (fun f cdv A outer s H vs Q E hr hq h => ?_)
  · obtain ⟨a, r, rfl, _⟩ := h
    rfl
  · obtain ⟨a, r, rfl, hR, ea, q⟩ := h
    have ec := X.ec r hR
    refine ⟨_, by exact (pss_cons (ps_set (i := 1) sc__law_kinds.nd rfl (Or.inl rfl) (pe_lst (pa_c (pe_bcall (call_isiE (D := .ref (D 0)) (vD := .ref (D 0)) (fun u h => h) X.c0) rfl B.isi boot_isinstance (pa_c (pv 0) (pa_c (pe_glob (v := .ref (D 0)) rfl X.g0 rfl) pa_nil))) (pa_c (pe_bcall (call_isiE (D := .ref (D 1)) (vD := .ref (D 1)) (fun u h => h) X.c0) rfl B.isi boot_isinstance (pa_c (pv 0) (pa_c (pe_glob (v := .ref (D 1)) rfl X.g1 rfl) pa_nil))) (pa_c (pe_bcall (call_isiE (D := .ref (D 2)) (vD := .ref (D 2)) (fun u h => h) X.c0) rfl B.isi boot_isinstance (pa_c (pv 0) (pa_c (pe_glob (v := .ref (D 2)) rfl X.g2 rfl) pa_nil))) (pa_c (pe_bcall (call_isiE (D := .ref (D 3)) (vD := .ref (D 3)) (fun u h => h) X.c0) rfl B.isi boot_isinstance (pa_c (pv 0) (pa_c (pe_glob (v := .ref (D 3)) rfl X.g3 rfl) pa_nil))) pa_nil))))))
      (pss_cons (ps_set (i := 1) sc__law_kinds.nd rfl (Or.inl rfl) (pe_op op_cat (pv 1) (pe_lst (pa_c (pe_bcall (call_isiE (D := .ref (D 4)) (vD := .ref (D 4)) (fun u h => h) X.c0) rfl B.isi boot_isinstance (pa_c (pv 0) (pa_c (pe_glob (v := .ref (D 4)) rfl X.g4 rfl) pa_nil))) (pa_c (pe_bcall (call_isiE (D := .ref (D 5)) (vD := .ref (D 5)) (fun u h => h) X.c0) rfl B.isi boot_isinstance (pa_c (pv 0) (pa_c (pe_glob (v := .ref (D 5)) rfl X.g5 rfl) pa_nil))) (pa_c (pe_bcall (call_isiE (D := .ref (D 6)) (vD := .ref (D 6)) (fun u h => h) X.c0) rfl B.isi boot_isinstance (pa_c (pv 0) (pa_c (pe_glob (v := .ref (D 6)) rfl X.g6 rfl) pa_nil))) (pa_c (pe_bcall (call_isiE (D := .ref (D 7)) (vD := .ref (D 7)) (fun u h => h) X.c0) rfl B.isi boot_isinstance (pa_c (pv 0) (pa_c (pe_glob (v := .ref (D 7)) rfl X.g7 rfl) pa_nil))) pa_nil)))))))
      (pss_cons (ps_set (i := 1) sc__law_kinds.nd rfl (Or.inl rfl) (pe_op op_cat (pv 1) (pe_lst (pa_c (pe_bcall (call_isiE (D := .ref (D 8)) (vD := .ref (D 8)) (fun u h => h) X.c0) rfl B.isi boot_isinstance (pa_c (pv 0) (pa_c (pe_glob (v := .ref (D 8)) rfl X.g8 rfl) pa_nil))) (pa_c (pe_bcall (call_isiE (D := .ref (D 9)) (vD := .ref (D 9)) (fun u h => h) X.c0) rfl B.isi boot_isinstance (pa_c (pv 0) (pa_c (pe_glob (v := .ref (D 9)) rfl X.g9 rfl) pa_nil))) (pa_c (pe_bcall (call_isiE (D := .ref (D 10)) (vD := .ref (D 10)) (fun u h => h) X.c0) rfl B.isi boot_isinstance (pa_c (pv 0) (pa_c (pe_glob (v := .ref (D 10)) rfl X.g10 rfl) pa_nil))) (pa_c (pe_bcall (call_isiE (D := .ref (D 11)) (vD := .ref (D 11)) (fun u h => h) X.c0) rfl B.isi boot_isinstance (pa_c (pv 0) (pa_c (pe_glob (v := .ref (D 11)) rfl X.g11 rfl) pa_nil))) pa_nil)))))))
      (pss_cons (ps_set (i := 1) sc__law_kinds.nd rfl (Or.inl rfl) (pe_op op_cat (pv 1) (pe_lst (pa_c (pe_bcall (call_isiE (D := .ref (D 12)) (vD := .ref (D 12)) (fun u h => h) X.c0) rfl B.isi boot_isinstance (pa_c (pv 0) (pa_c (pe_glob (v := .ref (D 12)) rfl X.g12 rfl) pa_nil))) (pa_c (pe_bcall (call_isiE (D := .ref (D 13)) (vD := .ref (D 13)) (fun u h => h) X.c0) rfl B.isi boot_isinstance (pa_c (pv 0) (pa_c (pe_glob (v := .ref (D 13)) rfl X.g13 rfl) pa_nil))) (pa_c (pe_bcall (call_isiE (D := .ref (D 14)) (vD := .ref (D 14)) (fun u h => h) X.c0) rfl B.isi boot_isinstance (pa_c (pv 0) (pa_c (pe_glob (v := .ref (D 14)) rfl X.g14 rfl) pa_nil))) pa_nil))))))
      (pss_one (ps_ret (pe_op op_cat (pv 1) (pe_lst (pa_c (pe_bcall (call_isiE (D := .ref (D 15)) (vD := .ref (D 15)) (fun u h => h) X.c0) rfl B.isi boot_isinstance (pa_c (pv 0) (pa_c (pe_glob (v := .ref (D 15)) rfl X.g15 rfl) pa_nil))) (pa_c (pe_bcall (call_isiE (D := .ref (D 16)) (vD := .ref (D 16)) (fun u h => h) X.c0) rfl B.isi boot_isinstance (pa_c (pv 0) (pa_c (pe_glob (v := .ref (D 16)) rfl X.g16 rfl) pa_nil))) (pa_c (pe_bcall (call_isiE (D := .ref (D 17)) (vD := .ref (D 17)) (fun u h => h) X.c0) rfl B.isi boot_isinstance (pa_c (pv 0) (pa_c (pe_glob (v := .ref (D 17)) rfl X.g17 rfl) pa_nil))) (pa_c (pe_bcall (call_isiE (D := .ref (D 18)) (vD := .ref (D 18)) (fun u h => h) X.c0) rfl B.isi boot_isinstance (pa_c (pv 0) (pa_c (pe_glob (v := .ref (D 18)) rfl X.g18 rfl) pa_nil))) pa_nil)))))))))))), ?_⟩
    refine seq_use (fun v H' => ∃ l, v = .ref l ∧ H' l = some (.lst (kn r 4)) ∧ Same H H') (fun Q' kk => ?_) ?_
    · refine ⟨_, rfl, a, _, _, rfl, ea, ec, X.kit r 0 hR (by decide), _, rfl, a, _, _, rfl, ea, ec, X.kit r 1 hR (by decide), _, rfl, a, _, _, rfl, ea, ec, X.kit r 2 hR (by decide), _, rfl, a, _, _, rfl, ea, ec, X.kit r 3 hR (by decide), by show 4 ≤ sizeLine; decide, fun l hl => ?_⟩
      exact kk _ _ ⟨l, rfl, upd_same, same_of hl⟩
    rintro _ G1 ⟨l1, rfl, e1, s1⟩
    have ea1 := s1 _ _ ea
    refine seq_use (fun v H' => ∃ l, v = .ref l ∧ H' l = some (.lst (kn r 8)) ∧ Same H H') (fun Q' kk => ?_) ?_
    · refine ⟨_, rfl, _, rfl, a, _, _, rfl, ea1, ec, X.kit r 4 hR (by decide), _, rfl, a, _, _, rfl, ea1, ec, X.kit r 5 hR (by decide), _, rfl, a, _, _, rfl, ea1, ec, X.kit r 6 hR (by decide), _, rfl, a, _, _, rfl, ea1, ec, X.kit r 7 hR (by decide), by show 4 ≤ sizeLine; decide, fun b hb => ?_⟩
      have zb := same_of (o := .lst [.bl (decide (4 = r)), .bl (decide (5 = r)), .bl (decide (6 = r)), .bl (decide (7 = r))]) hb
      refine ⟨l1, b, _, _, rfl, rfl, zb _ _ e1, upd_same, by show 8 ≤ sizeLine; decide, fun c hc => ?_⟩
      exact kk _ _ ⟨c, rfl, upd_same, (s1.trans zb).trans (same_of hc)⟩
    rintro _ G2 ⟨l2, rfl, e2, s2⟩
    have ea2 := s2 _ _ ea
    refine seq_use (fun v H' => ∃ l, v = .ref l ∧ H' l = some (.lst (kn r 12)) ∧ Same H H') (fun Q' kk => ?_) ?_
    · refine ⟨_, rfl, _, rfl, a, _, _, rfl, ea2, ec, X.kit r 8 hR (by decide), _, rfl, a, _, _, rfl, ea2, ec, X.kit r 9 hR (by decide), _, rfl, a, _, _, rfl, ea2, ec, X.kit r 10 hR (by decide), _, rfl, a, _, _, rfl, ea2, ec, X.kit r 11 hR (by decide), by show 4 ≤ sizeLine; decide, fun b hb => ?_⟩
      have zb := same_of (o := .lst [.bl (decide (8 = r)), .bl (decide (9 = r)), .bl (decide (10 = r)), .bl (decide (11 = r))]) hb
      refine ⟨l2, b, _, _, rfl, rfl, zb _ _ e2, upd_same, by show 12 ≤ sizeLine; decide, fun c hc => ?_⟩
      exact kk _ _ ⟨c, rfl, upd_same, (s2.trans zb).trans (same_of hc)⟩
    rintro _ G3 ⟨l3, rfl, e3, s3⟩
    have ea3 := s3 _ _ ea
    refine seq_use (fun v H' => ∃ l, v = .ref l ∧ H' l = some (.lst (kn r 15)) ∧ Same H H') (fun Q' kk => ?_) ?_
    · refine ⟨_, rfl, _, rfl, a, _, _, rfl, ea3, ec, X.kit r 12 hR (by decide), _, rfl, a, _, _, rfl, ea3, ec, X.kit r 13 hR (by decide), _, rfl, a, _, _, rfl, ea3, ec, X.kit r 14 hR (by decide), by show 3 ≤ sizeLine; decide, fun b hb => ?_⟩
      have zb := same_of (o := .lst [.bl (decide (12 = r)), .bl (decide (13 = r)), .bl (decide (14 = r))]) hb
      refine ⟨l3, b, _, _, rfl, rfl, zb _ _ e3, upd_same, by show 15 ≤ sizeLine; decide, fun c hc => ?_⟩
      exact kk _ _ ⟨c, rfl, upd_same, (s3.trans zb).trans (same_of hc)⟩
    rintro _ G4 ⟨l4, rfl, e4, s4⟩
    have ea4 := s4 _ _ ea
    refine ⟨_, rfl, _, rfl, a, _, _, rfl, ea4, ec, X.kit r 15 hR (by decide), _, rfl, a, _, _, rfl, ea4, ec, X.kit r 16 hR (by decide), _, rfl, a, _, _, rfl, ea4, ec, X.kit r 17 hR (by decide), _, rfl, a, _, _, rfl, ea4, ec, X.kit r 18 hR (by decide), by show 4 ≤ sizeLine; decide, fun b hb => ?_⟩
    have zb := same_of (o := .lst [.bl (decide (15 = r)), .bl (decide (16 = r)), .bl (decide (17 = r)), .bl (decide (18 = r))]) hb
    refine ⟨l4, b, _, _, rfl, rfl, zb _ _ e4, upd_same, by show 19 ≤ sizeLine; decide, fun c hc => ?_⟩
    exact q c _ ((s4.trans zb).trans (same_of hc)) upd_same
def spAlone (D : Nat → Addr) (R : Nat → Prop) : Sp := fun vs H Q _ => ∃ (a : Addr) (r : Nat), vs = [.ref a, .int (r : Int)] ∧ R r ∧ H a = some (ExcO a (D r)) ∧ ∀ H', Same H H' → Q (.bl true) H'
theorem ok_alone (Df : Def K mg "_law_alone" s__law_alone ["_law_e", "_law_which"]) (B : Bltn mg) (X : EX K mg D CH R) (k_kinds : KnowsQ P w K mg base 1 "_law_kinds" ["_law_e"] (spKinds D R)) : KnowsQ P w K mg base 2 "_law_alone" ["_law_e", "_law_which"] (spAlone D R) := by
  refine Df.okQ sc__law_alone (fun vs H Q E h => ?_) (fun f cdv A outer s H vs Q E hr hq h => ?_)
  · obtain ⟨a, r, rfl, _⟩ := h
    rfl
  · obtain ⟨a, r, rfl, hR, ea, q⟩ := h
    have ec := X.ec r hR
    have hu := hr.units0
    refine ⟨_, by exact (pss_one (ps_ret (pe_and (pe_bcall (call_isiE (D := .ref CH) (vD := .ref CH) (fun u h => h) X.c0) rfl B.isi boot_isinstance (pa_c (pv 0) (pa_c (pe_glob (v := .ref CH) rfl X.gH rfl) pa_nil)))
      (pe_and (pe_bcall (call_isiE (D := .type "ValueError") (vD := .ty "ValueError") (fun u h => h) X.c0) rfl B.isi boot_isinstance (pa_c (pv 0) (pa_c (pe_bltn (v := .ty "ValueError") rfl X.noVE boot_VE rfl (by decide) (by decide)) pa_nil)))
        (pe_one (pe_cmpR (op_eqL hu) (pe_callQ k_kinds hr (pa_c (pv 0) pa_nil)) (pe_comp1Q [1] ["_law_k", "_law_which"] (pi_rangeQ1 rfl B.range (pa_c pe_int pa_nil)) (fun _ _ _ _ => pts_nil) (fun _ _ _ _ => (pe_cmpR op_eq (pv 0) (pv 1) (nomark _)))) (nomark _))))))), ?_⟩
    refine ⟨_, rfl, a, _, _, rfl, ea, ec, X.he r hR, _, rfl, iteT ?_⟩
    refine ⟨_, rfl, a, _, _, rfl, ea, ec, X.ve r hR, _, rfl, iteT ?_⟩
    refine ⟨_, rfl, hq, a, r, rfl, hR, ea, fun l H1 s1 e1 => ?_⟩
    refine ⟨19, rfl, by decide, by decide, ?_⟩
    have hq1 := hq.same s1
    refine comp1_wk (wk_rangeQ _ 0 19) (fun i ys H' => H' = H1 ∧ ys = kn r i) ⟨rfl, rfl⟩ (fun i ys H' _ h => ⟨by rw [h.1]; exact hq1, by rw [h.2, kn_len]; exact Nat.le_refl _⟩) (by rw [rangeV_length]; decide) (fun i x ys H' Nx hx h kk => ?_) (fun ys H' h Dd hD => ?_)
    · obtain ⟨rfl, rfl⟩ := h
      unfold rangeV at hx
      rw [List.getElem?_map] at hx
      obtain ⟨j, hj, rfl⟩ := Option.map_eq_some_iff.mp hx
      have : j = i := (List.getElem?_range (by have := (List.getElem?_eq_some_iff.mp hj).1; simpa using this)).symm.trans hj |> Option.some.inj |> Eq.symm
      subst this
      refine tTrue_use ⟨_, rfl, _, rfl, rfl, kk _ _ ⟨rfl, ?_⟩⟩
      rw [kn_succ]
      congr 3
      rw [decide_eq_decide]
      constructor
      · intro e
        injection e with e
        omega
      · intro e
        rw [e, Int.zero_add]
    · obtain ⟨rfl, rfl⟩ := h
      have sD := same_of (o := .lst (kn r (rangeV 0 19).length)) hD
      rw [rangeV_length] at sD ⊢
      refine ⟨l, Dd, _, _, rfl, rfl, SqL.of (sD _ _ e1), SqL.of upd_same, kn_flat _ _, kn_flat _ _, ?_⟩
      rw [eqL_refl (kn_flat _ _)]
      exact q _ (s1.trans sD)
end
end K02

set_option Elab.async false
set_option linter.all false
set_option maxRecDepth 100000
set_option maxHeartbeats 4000000
set_option pp.maxSteps 600
set_option pp.deepTerms false
namespace K02
open PySem L2 PyProof.Rows
abbrev dfl : List V := [.int 0, .int 1, .int 1, .int 0, .int 1]
structure JForms (K : PySem.W.Frag) (fd : FuncData) : Prop where
  f1 : BT K fd jps 1 [] [.p 0, .d 0 .non, .d 1 (.int 0), .d 2 (.int 1), .d 3 (.int 1), .d 4 (.int 0), .d 5 (.int 1)]
  f2 : BT K fd jps 2 [] [.p 0, .p 1, .d 1 (.int 0), .d 2 (.int 1), .d 3 (.int 1), .d 4 (.int 0), .d 5 (.int 1)]
  f3 : BT K fd jps 3 [] [.p 0, .p 1, .p 2, .d 2 (.int 1), .d 3 (.int 1), .d 4 (.int 0), .d 5 (.int 1)]
  f4 : BT K fd jps 4 [] [.p 0, .p 1, .p 2, .p 3, .d 3 (.int 1), .d 4 (.int 0), .d 5 (.int 1)]
  f5 : BT K fd jps 5 [] [.p 0, .p 1, .p 2, .p 3, .p 4, .d 4 (.int 0), .d 5 (.int 1)]
  f6 : BT K fd jps 6 [] [.p 0, .p 1, .p 2, .p 3, .p 4, .p 5, .d 5 (.int 1)]
  f7 : BT K fd jps 7 [] [.p 0, .p 1, .p 2, .p 3, .p 4, .p 5, .p 6]
  fa : BT K fd jps 1 ["span", "rank", "needs"] [.p 0, .k 2, .k 1, .k 0, .d 3 (.int 1), .d 4 (.int 0), .d 5 (.int 1)]
  fb : BT K fd jps 1 ["grow", "wait", "tries"] [.p 0, .d 0 .non, .d 1 (.int 0), .d 2 (.int 1), .k 2, .k 1, .k 0]
theorem made_same {H H' : Hp} {x dx : Addr} {u v : HO} (hx : H x = none) (hdx : H dx = none) (ch : Chg [x] (upd (upd H dx u) x v) H') : Same H H' := fun b o e => by
  have n1 : b ≠ x := ne_of_none e hx
  have n2 : b ≠ dx := ne_of_none e hdx
  exact ch b o (by simp [n1]) (by rw [upd_ne n1, upd_ne n2]; exact e)
theorem same_none {H H' : Hp} (s : Same H H') {p : Addr} (h : H' p = none) : H p = none := by
  cases e : H p with
  | none => rfl
  | some u => rw [s _ _ e] at h; cases h
/-- what stands for the needs, and for the numbers, where the first m of the seven things are told -/
def effN (m : Nat) (nd : V) : V := if 2 ≤ m then nd else .non
def tol (m : Nat) (ys : List V) : List V := ys.take (m - 2) ++ dfl.drop (m - 2)
theorem tol_any {K : PySem.W.Frag} {H : Hp} {m : Nat} {ys : List V} (h : ∀ y ∈ ys, Any K H y) : ∀ y ∈ tol m ys, Any K H y := fun y hy => by
  rcases List.mem_append.mp hy with h1 | h1
  · exact h y (List.mem_of_mem_take h1)
  · have h2 := List.mem_of_mem_drop h1
    simp only [dfl, List.mem_cons, List.not_mem_nil, or_false] at h2
    rcases h2 with rfl | rfl | rfl | rfl | rfl <;> exact Any.int
def JobQ (K : PySem.W.Frag) (C : Addr) (D : Nat → Addr) (H : Hp) (nm nd : V) (ys : List V) (Q : VK) (E : XK) : Prop := Any K H nm ∧ (∀ y ∈ ys, Any K H y) ∧
  (madeOf LET 12 nm = false → ∀ H', Same H H' → E (.ref (D 0)) none H') ∧
  (madeOf LET 12 nm = true → ∃ (z : Str) (o : Option (List Str)), nm = .str z ∧ Nd K H z nd o ∧ (o = none → ∀ H', Same H H' → E (.ref (D 1)) none H') ∧
    (∀ ks, o = some ks → (¬ okNums ys → ∀ H', Same H H' → E (.ref (D 2)) none H') ∧
      ∀ a b c d e : Int, ys = [.int a, .int b, .int c, .int d, .int e] → okNums ys → ∀ p l H', H p = none → H l = none → Same H H' → JobL C H' p l ⟨z, ks, a, b, c, d, e⟩ → Q (.ref p) H'))
/-- why a job is refused -/
inductive Refd (K : PySem.W.Frag) (H : Hp) (nm nd : V) (ys : List V) : Nat → Prop
  | name : madeOf LET 12 nm = false → Refd K H nm nd ys 0
  | needs {z : Str} : nm = .str z → isName z = true → Nd K H z nd none → Refd K H nm nd ys 1
  | nums {z : Str} {ks : List Str} : nm = .str z → isName z = true → Nd K H z nd (some ks) → ¬ okNums ys → Refd K H nm nd ys 2
theorem Refd.lt {K : PySem.W.Frag} {H : Hp} {nm nd : V} {ys : List V} {r : Nat} (h : Refd K H nm nd ys r) : r < 3 := by
  cases h <;> decide
section
variable {P : Program} {w : World} {K : PySem.W.Frag} {mg : Str → Option Value} {base : Heap} {C : Addr} {D : Nat → Addr}
theorem not_made {z : Str} (h : isName z = true) {p : Prop} (e : madeOf LET 12 (.str z) = false) : p := by
  rw [show madeOf LET 12 (.str z) = true from h] at e
  cases e
theorem JobQ.bad {H : Hp} {nm nd : V} {ys : List V} {Q : VK} {E : XK} {r : Nat} (h : Refd K H nm nd ys r) (an : Any K H nm) (anv : ∀ y ∈ ys, Any K H y) (e : ∀ H', Same H H' → E (.ref (D r)) none H') : JobQ K C D H nm nd ys Q E := by
  cases h with
  | name h => exact ⟨an, anv, fun _ => e, fun z => by rw [h] at z; cases z⟩
  | needs a b c =>
    subst a
    exact ⟨an, anv, fun z => not_made b z, fun _ => ⟨_, none, rfl, c, fun _ => e, fun ks z => by cases z⟩⟩
  | nums a b c d =>
    subst a
    exact ⟨an, anv, fun z => not_made b z, fun _ => ⟨_, some _, rfl, c, fun z => (by cases z), fun ks _ => ⟨fun _ => e, fun _ _ _ _ _ _ z => absurd z d⟩⟩⟩
theorem JobQ.good {H : Hp} {z : Str} {nd : V} {ks : List Str} {a b c d e : Int} {ys : List V} {Q : VK} {E : XK} (hys : ys = [.int a, .int b, .int c, .int d, .int e]) (hz : isName z = true) (hn : Nd K H z nd (some ks)) (ok : okNums ys)
    (q : ∀ p l H', H p = none → H l = none → Same H H' → JobL C H' p l ⟨z, ks, a, b, c, d, e⟩ → Q (.ref p) H') : JobQ K C D H (.str z) nd ys Q E := by
  refine ⟨Any.str (Nat.le_trans (name_len hz).2 (by decide)), fun y hy => ?_, fun y => not_made hz y, fun _ => ⟨z, some ks, rfl, hn, fun y => (by cases y), fun ks' e => ?_⟩⟩
  · subst hys
    simp only [List.mem_cons, List.not_mem_nil, or_false] at hy
    rcases hy with rfl | rfl | rfl | rfl | rfl <;> exact Any.int
  · cases e
    refine ⟨fun n => absurd ok n, fun a' b' c' d' e' h1 _ => ?_⟩
    rw [hys] at h1
    cases h1
    exact q
theorem JobQ.same {H H1 : Hp} {nm nd : V} {ys : List V} {Q : VK} {E : XK} (h : JobQ K C D H nm nd ys Q E) (s : Same H H1) : JobQ K C D H1 nm nd ys Q E := by
  obtain ⟨a, b, c, d⟩ := h
  refine ⟨a.same s, fun y hy => (b y hy).same s, fun hm H' s' => c hm H' (s.trans s'), fun hm => ?_⟩
  obtain ⟨z, o, h1, h2, h3, h4⟩ := d hm
  refine ⟨z, o, h1, h2.same s, fun ho H' s' => h3 ho H' (s.trans s'), fun ks hk => ?_⟩
  obtain ⟨h5, h6⟩ := h4 ks hk
  exact ⟨fun n H' s' => h5 n H' (s.trans s'), fun a b c d e hy ok p l H' hp hl s' j => h6 a b c d e hy ok p l H' (same_none s hp) (same_none s hl) (s.trans s') j⟩
theorem mk_job {H : Hp} {x dx : Addr} {nm nd v1 v2 v3 v4 v5 : V} {Q : VK} {E : XK} (hx : H x = none) (hdx : H dx = none) (hne : dx ≠ x) (jq : JobQ K C D H nm nd [v1, v2, v3, v4, v5] Q E) :
    spJob K C D [.ref x, nm, nd, v1, v2, v3, v4, v5] (upd (upd H dx (.own x)) x (.ins C dx [])) (fun v H3 => v = .non ∧ Q (.ref x) H3) E := by
  have sy : Same H (upd (upd H dx (.own x)) x (.ins C dx [])) := fun b o e => by
    rw [upd_ne (ne_of_none e hx), upd_ne (ne_of_none e hdx)]
    exact e
  obtain ⟨a, b, c, d⟩ := jq
  refine ⟨x, dx, nm, nd, v1, v2, v3, v4, v5, rfl, upd_same, a.same sy, fun y hy => (b y hy).same sy, fun hm H' s' => c hm H' (sy.trans s'), fun hm => ?_⟩
  obtain ⟨z, o, h1, h2, h3, h4⟩ := d hm
  refine ⟨z, o, h1, h2.same sy, fun ho H' s' => h3 ho H' (sy.trans s'), fun ks hk => ?_⟩
  obtain ⟨h5, h6⟩ := h4 ks hk
  refine ⟨fun n H' s' => h5 n H' (sy.trans s'), fun a b c d e e1 e2 e3 e4 e5 ok l H' hl j ch => ⟨rfl, ?_⟩⟩
  refine h6 a b c d e (by rw [e1, e2, e3, e4, e5]) ok x l H' hx (same_none sy hl) (made_same hx hdx ch) j
def spLJob (K : PySem.W.Frag) (C : Addr) (D : Nat → Addr) : Sp := fun vs H Q E => ∃ (nm nd : V) (nl : Addr) (m : Nat) (y0 y1 y2 y3 y4 : V), vs = [nm, nd, .ref nl, .int (m : Int)] ∧ 1 ≤ m ∧ m ≤ 7 ∧ H nl = some (.lst [y0, y1, y2, y3, y4]) ∧ JobQ K C D H nm (effN m nd) (tol m [y0, y1, y2, y3, y4]) Q E
theorem ok_ljob (Df : Def K mg "_law_job" s__law_job ["_law_name", "_law_those", "_law_numbers_here", "_law_many"]) (J : JCls K mg C) (kj : KnowsIB (CX1 P w base) P w K mg base 5 C jps (spJob K C D) JForms) :
    KnowsX P w K mg base 7 "_law_job" ["_law_name", "_law_those", "_law_numbers_here", "_law_many"] (spLJob K C D) := by
  refine Df.okX sc__law_job (fun vs H Q E h => ?_) (fun f cdv A outer s H vs Q E hr h => ?_)
  · obtain ⟨nm, nd, nl, m, y0, y1, y2, y3, y4, rfl, _⟩ := h
    rfl
  · obtain ⟨nm, nd, nl, m, y0, y1, y2, y3, y4, rfl, h1, h7, hn, jq⟩ := h
    refine ⟨_, by exact (pss_cons (ps_if (pt_cmpR op_eq (pv 3) pe_int (nomark _)) (pss_one (ps_ret (pe_makeB kj (fun _ h => h.f1) hr J.mgC passes_on (pa_c (pv 0) pa_nil) pk_nil))) pss_nil)
      (pss_cons (ps_if (pt_cmpR op_eq (pv 3) pe_int (nomark _)) (pss_one (ps_ret (pe_makeB kj (fun _ h => h.f2) hr J.mgC passes_on (pa_c (pv 0) (pa_c (pv 1) pa_nil)) pk_nil))) pss_nil)
      (pss_cons (ps_if (pt_cmpR op_eq (pv 3) pe_int (nomark _)) (pss_one (ps_ret (pe_makeB kj (fun _ h => h.f3) hr J.mgC passes_on (pa_c (pv 0) (pa_c (pv 1) (pa_c (pe_ix ix_list (pv 2) pe_int (fun _ _ => rfl)) pa_nil))) pk_nil))) pss_nil)
      (pss_cons (ps_if (pt_cmpR op_eq (pv 3) pe_int (nomark _)) (pss_one (ps_ret (pe_makeB kj (fun _ h => h.f4) hr J.mgC passes_on (pa_c (pv 0) (pa_c (pv 1) (pa_c (pe_ix ix_list (pv 2) pe_int (fun _ _ => rfl)) (pa_c (pe_ix ix_list (pv 2) pe_int (fun _ _ => rfl)) pa_nil)))) pk_nil))) pss_nil)
      (pss_cons (ps_if (pt_cmpR op_eq (pv 3) pe_int (nomark _)) (pss_one (ps_ret (pe_makeB kj (fun _ h => h.f5) hr J.mgC passes_on (pa_c (pv 0) (pa_c (pv 1) (pa_c (pe_ix ix_list (pv 2) pe_int (fun _ _ => rfl)) (pa_c (pe_ix ix_list (pv 2) pe_int (fun _ _ => rfl)) (pa_c (pe_ix ix_list (pv 2) pe_int (fun _ _ => rfl)) pa_nil))))) pk_nil))) pss_nil)
      (pss_cons (ps_if (pt_cmpR op_eq (pv 3) pe_int (nomark _)) (pss_one (ps_ret (pe_makeB kj (fun _ h => h.f6) hr J.mgC passes_on (pa_c (pv 0) (pa_c (pv 1) (pa_c (pe_ix ix_list (pv 2) pe_int (fun _ _ => rfl)) (pa_c (pe_ix ix_list (pv 2) pe_int (fun _ _ => rfl)) (pa_c (pe_ix ix_list (pv 2) pe_int (fun _ _ => rfl)) (pa_c (pe_ix ix_list (pv 2) pe_int (fun _ _ => rfl)) pa_nil)))))) pk_nil))) pss_nil)
      (pss_cons (ps_asg (pe_slice sl_list (pv 2) po_none (po_some pe_int)) (pg_lst rfl (pgs_cons (pg_name (i := 4) sc__law_job.nd rfl (Or.inl rfl)) (pgs_cons (pg_name (i := 5) sc__law_job.nd rfl (Or.inl rfl)) (pgs_cons (pg_name (i := 6) sc__law_job.nd rfl (Or.inl rfl)) pgs_nil)))))
      (pss_one (ps_ret (pe_makeB kj (fun _ h => h.f7) hr J.mgC passes_on (pa_c (pv 0) (pa_c (pv 1) (pa_c (pv 4) (pa_c (pv 5) (pa_c (pv 6) (pa_c (pe_ix ix_list (pv 2) pe_int (fun _ _ => rfl)) (pa_c (pe_ix ix_list (pv 2) pe_int (fun _ _ => rfl)) pa_nil))))))) pk_nil)))))))))), ?_⟩
    match m, h1, h7 with
    | 1, _, _ =>
      refine ⟨_, rfl, rfl, _, rfl, iteT ?_⟩
      exact ⟨_, rfl, rfl, rfl, fun x dx hx hdx hne => mk_job hx hdx hne jq⟩
    | 2, _, _ =>
      refine ⟨_, rfl, rfl, _, rfl, iteF ?_⟩
      refine ⟨_, rfl, rfl, _, rfl, iteT ?_⟩
      exact ⟨_, rfl, _, rfl, rfl, rfl, fun x dx hx hdx hne => mk_job hx hdx hne jq⟩
    | 3, _, _ =>
      refine ⟨_, rfl, rfl, _, rfl, iteF ?_⟩
      refine ⟨_, rfl, rfl, _, rfl, iteF ?_⟩
      refine ⟨_, rfl, rfl, _, rfl, iteT ?_⟩
      exact ⟨_, rfl, _, rfl, _, rfl, nl, _, 0, y0, rfl, rfl, SqL.of hn, rfl, rfl, rfl, fun x dx hx hdx hne => mk_job hx hdx hne jq⟩
    | 4, _, _ =>
      refine ⟨_, rfl, rfl, _, rfl, iteF ?_⟩
      refine ⟨_, rfl, rfl, _, rfl, iteF ?_⟩
      refine ⟨_, rfl, rfl, _, rfl, iteF ?_⟩
      refine ⟨_, rfl, rfl, _, rfl, iteT ?_⟩
      exact ⟨_, rfl, _, rfl, _, rfl, nl, _, 0, y0, rfl, rfl, SqL.of hn, rfl, _, rfl, nl, _, 1, y1, rfl, rfl, SqL.of hn, rfl, rfl, rfl, fun x dx hx hdx hne => mk_job hx hdx hne jq⟩
    | 5, _, _ =>
      refine ⟨_, rfl, rfl, _, rfl, iteF ?_⟩
      refine ⟨_, rfl, rfl, _, rfl, iteF ?_⟩
      refine ⟨_, rfl, rfl, _, rfl, iteF ?_⟩
      refine ⟨_, rfl, rfl, _, rfl, iteF ?_⟩
      refine ⟨_, rfl, rfl, _, rfl, iteT ?_⟩
      exact ⟨_, rfl, _, rfl, _, rfl, nl, _, 0, y0, rfl, rfl, SqL.of hn, rfl, _, rfl, nl, _, 1, y1, rfl, rfl, SqL.of hn, rfl, _, rfl, nl, _, 2, y2, rfl, rfl, SqL.of hn, rfl, rfl, rfl, fun x dx hx hdx hne => mk_job hx hdx hne jq⟩
    | 6, _, _ =>
      refine ⟨_, rfl, rfl, _, rfl, iteF ?_⟩
      refine ⟨_, rfl, rfl, _, rfl, iteF ?_⟩
      refine ⟨_, rfl, rfl, _, rfl, iteF ?_⟩
      refine ⟨_, rfl, rfl, _, rfl, iteF ?_⟩
      refine ⟨_, rfl, rfl, _, rfl, iteF ?_⟩
      refine ⟨_, rfl, rfl, _, rfl, iteT ?_⟩
      exact ⟨_, rfl, _, rfl, _, rfl, nl, _, 0, y0, rfl, rfl, SqL.of hn, rfl, _, rfl, nl, _, 1, y1, rfl, rfl, SqL.of hn, rfl, _, rfl, nl, _, 2, y2, rfl, rfl, SqL.of hn, rfl, _, rfl, nl, _, 3, y3, rfl, rfl, SqL.of hn, rfl, rfl, rfl, fun x dx hx hdx hne => mk_job hx hdx hne jq⟩
    | 7, _, _ =>
      refine ⟨_, rfl, rfl, _, rfl, iteF ?_⟩
      refine ⟨_, rfl, rfl, _, rfl, iteF ?_⟩
      refine ⟨_, rfl, rfl, _, rfl, iteF ?_⟩
      refine ⟨_, rfl, rfl, _, rfl, iteF ?_⟩
      refine ⟨_, rfl, rfl, _, rfl, iteF ?_⟩
      refine ⟨_, rfl, rfl, _, rfl, iteF ?_⟩
      refine ⟨_, rfl, _, rfl, nl, _, rfl, SqL.of hn, fun b hb => ?_⟩
      have sb : Same H (upd H b (.lst (cutV [y0, y1, y2, y3, y4] none (some 3)))) := same_of hb
      have eb : (upd H b (.lst (cutV [y0, y1, y2, y3, y4] none (some 3)))) b = some (.lst [y0, y1, y2]) := by rw [upd_same]; rfl
      generalize upd H b (.lst (cutV [y0, y1, y2, y3, y4] none (some 3))) = H1 at sb eb
      refine ⟨b, _, rfl, SqL.of eb, rfl, _, _, rfl, _, _, rfl, _, _, rfl, rfl, ?_⟩
      have hn1 := sb _ _ hn
      exact ⟨_, rfl, _, rfl, _, rfl, _, rfl, _, rfl, _, rfl, nl, _, 3, y3, rfl, rfl, SqL.of hn1, rfl, _, rfl, nl, _, 4, y4, rfl, rfl, SqL.of hn1, rfl, rfl, rfl, fun x dx hx hdx hne => mk_job hx hdx hne (JobQ.same jq sb)⟩
end
end K02

set_option Elab.async false
set_option linter.all false
set_option maxRecDepth 100000
set_option maxHeartbeats 4000000
set_option pp.maxSteps 600
set_option pp.deepTerms false
namespace K02
open PySem L2 PyProof.Rows
/-- what isinstance asks of the class Job -/
structure JIs (K : PySem.W.Frag) (C : Addr) : Prop where
  ha : PySem.W.findIn K (.ref C) "__class__" = some (some (.builtin "object.__class__"))
  hn : PySem.W.specialIn K (.builtin "object.__class__") "__get__" = some (some (.builtin "getset_descriptor.__get__"))
  htk : PySem.W.takesIn K (.builtin "object.__class__") = some true
  hm : PySem.W.mroIn K C (.type "object") = some true
  is : PySem.W.kitOne K (.ref C) (.ref C) = some true
theorem flat_strs (ks : List Str) : (ks.map V.str).all flatV = true := by
  induction ks with
  | nil => rfl
  | cons a t ih => rw [List.map_cons, List.all_cons, ih]; rfl
theorem range_at {n i : Nat} {x : V} (h : (rangeV 0 n)[i]? = some x) : i < n ∧ x = .int (i : Int) := by
  have h1 : i < (rangeV 0 n).length := (List.getElem?_eq_some_iff.mp h).1
  rw [rangeV_length] at h1
  refine ⟨h1, ?_⟩
  simp only [rangeV, List.getElem?_map, List.getElem?_range h1, Option.map_some, Option.some.injEq] at h
  rw [← h, Int.zero_add]
def Jb.nums (j : Jb) : List V := [.int j.rank, .int j.span, .int j.tries, .int j.wait, .int j.grow]
section
variable {P : Program} {w : World} {K : PySem.W.Frag} {mg : Str → Option Value} {base : Heap} {C : Addr} {D : Nat → Addr} {R : Nat → Prop}
def spRefused (K : PySem.W.Frag) : Sp := fun vs H Q _ => ∃ (nm nd : V) (nl : Addr) (m r : Nat) (y0 y1 y2 y3 y4 : V), vs = [nm, nd, .ref nl, .int (m : Int), .int (r : Int)] ∧ 1 ≤ m ∧ m ≤ 7 ∧ H nl = some (.lst [y0, y1, y2, y3, y4]) ∧ Any K H nm ∧ (∀ y ∈ [y0, y1, y2, y3, y4], Any K H y) ∧ Refd K H nm (effN m nd) (tol m [y0, y1, y2, y3, y4]) r ∧ ∀ H', Same H H' → Q (.bl true) H'
theorem ok_refused (Df : Def K mg "_law_refused" s__law_refused ["_law_name", "_law_those", "_law_numbers_here", "_law_many", "_law_which"]) (CH : Addr) (gH : mg "HallError" = some (.ref CH)) (ex : ∀ r, r < 3 → PySem.W.exmOne K (.ref (D r)) (.ref CH) = some true) (hR : ∀ r, r < 3 → R r)
    (k_job : KnowsX P w K mg base 7 "_law_job" ["_law_name", "_law_those", "_law_numbers_here", "_law_many"] (spLJob K C D)) (k_alone : KnowsQ P w K mg base 2 "_law_alone" ["_law_e", "_law_which"] (spAlone D R)) :
    Knows P w K mg base 8 "_law_refused" ["_law_name", "_law_those", "_law_numbers_here", "_law_many", "_law_which"] (spRefused K) := by
  refine Df.ok sc__law_refused (fun vs H Q E h => ?_) (fun f cdv A outer s H vs Q E hr h => ?_)
  · obtain ⟨nm, nd, nl, m, r, y0, y1, y2, y3, y4, rfl, _⟩ := h
    rfl
  · obtain ⟨nm, nd, nl, m, r, y0, y1, y2, y3, y4, rfl, h1, h7, hn, an, anv, rf, q⟩ := h
    refine ⟨_, by exact (pss_cons (ps_tryAs (i := 5) rfl rfl gH (fun _ => PassesOwnAt.never) sc__law_refused.nd rfl rfl (fun Eb pn xe hL => pss_one (ps_expr (pe_callS k_job hr hL (pa_c (pv 0) (pa_c (pv 1) (pa_c (pv 2) (pa_c (pv 3) pa_nil)))))))
      (fun a => pss_one (ps_ret (pe_callQ k_alone (hr.q.mark _) (pa_c (pv 5) (pa_c (pv 4) pa_nil)))))) (pss_one (ps_ret pe_bl))), ?_⟩
    refine ⟨fun σ' C' o H' => C' = .ref (D r) ∧ o = none ∧ Same H H' ∧ σ' = [some nm, some nd, some (.ref nl), some (.int (m : Int)), some (.int (r : Int)), none], ?_, ?_⟩
    · exact ⟨_, rfl, _, rfl, _, rfl, _, rfl, nm, nd, nl, m, y0, y1, y2, y3, y4, rfl, h1, h7, hn, JobQ.bad rf an (tol_any anv) fun H' s' => ⟨rfl, rfl, s', rfl⟩⟩
    · rintro σ' C' H' ⟨e1, _, s1, rfl⟩
      cases e1
      have hr3 := rf.lt
      refine ⟨ex r hr3, fun a ha => ?_⟩
      have ea : (upd H' a (ExcO a (D r))) a = some (ExcO a (D r)) := upd_same
      have sa : Same H' (upd H' a (ExcO a (D r))) := same_of ha
      exact ⟨_, rfl, _, rfl, ⟨a, D r, rfl, ea⟩, a, r, rfl, hR r hr3, ea, fun H2 s2 => q H2 ((s1.trans sa).trans s2)⟩
def spIs (K : PySem.W.Frag) (C : Addr) : Sp := fun vs H Q _ => ∃ (p l tl nl : Addr) (j : Jb), vs = [.ref p, .str j.name, .ref tl, .ref nl] ∧ JobL C H p l j ∧ H tl = some (.lst (j.needs.map V.str)) ∧ H nl = some (.lst j.nums) ∧ ∀ H', Same H H' → Q (.bl true) H'
theorem ok_is (Df : Def K mg "_law_is" s__law_is ["_law_job_here", "_law_name", "_law_those", "_law_numbers_here"]) (B : Bltn mg) (J : JCls K mg C) (I : JIs K C) : Knows P w K mg base 1 "_law_is" ["_law_job_here", "_law_name", "_law_those", "_law_numbers_here"] (spIs K C) := by
  refine Df.ok sc__law_is (fun vs H Q E h => ?_) (fun f cdv A outer s H vs Q E hr h => ?_)
  · obtain ⟨p, l, tl, nl, j, rfl, _⟩ := h
    rfl
  · obtain ⟨p, l, tl, nl, j, rfl, jl, ht, hn, q⟩ := h
    have hu := hu0 hr
    obtain ⟨⟨dx, hp⟩, hl⟩ := jl
    refine ⟨_, by exact (pss_cons (ps_set (i := 4) sc__law_is.nd rfl (Or.inl rfl) (pe_lst (pa_c (pe_fld (pv 0) rfl) (pa_c (pe_fld (pv 0) rfl) (pa_c (pe_fld (pv 0) rfl) (pa_c (pe_fld (pv 0) rfl) (pa_c (pe_fld (pv 0) rfl) pa_nil)))))))
      (pss_cons (ps_if (PW.pt (pw_or (pt_not (pt_val (pe_bcall (call_isiO C) rfl B.isi boot_isinstance (pa_c (pv 0) (pa_c (pe_glob (v := .ref C) rfl J.mgC rfl) pa_nil))))) (pw_or1 (pt_not (pt_val (pe_isiM B.isi B.list boot_list (pe_fld (pv 0) rfl))))))) (pss_one (ps_ret pe_bl)) pss_nil)
      (pss_cons (ps_if (PW.pt (pw_or (pt_cmpR (op_neL hu) (pe_fld (pv 0) rfl) (pv 2) (nomark _)) (pw_or1 (pt_cmpR op_ne (pe_fld (pv 0) rfl) (pv 1) (nomark _))))) (pss_one (ps_ret pe_bl)) pss_nil)
      (pss_cons (ps_setC (i := 5) [] ["_law_one"] sc__law_is.nd rfl (Or.inl rfl) rfl (pi_list (pv 4)) (fun _ _ _ _ => pts_one (PW.pt (pw_or (pt_not (pt_val (pe_isiC (K0 := K) rfl B.isi B.int boot_int (pv 0)))) (pw_or1 (pt_val (pe_isiC (K0 := K) rfl B.isi B.bool boot_bool (pv 0))))))) (fun _ _ _ _ => (pv 0)))
      (pss_one (ps_ret (pe_and (pe_cmpR (op_eqL hu) (pv 4) (pv 3) (nomark _)) (pe_one (pe_cmpR (op_eqL hu) (pv 5) (pe_lst pa_nil) (nomark _)))))))))), ?_⟩
    refine seq_use (fun v H' => ∃ b, v = .ref b ∧ H' b = some (.lst j.nums) ∧ Same H H') (fun Q' kk => ?_) ?_
    · refine ⟨_, rfl, p, C, dx, _, _, rfl, hp, J.cl, J.n3, rfl, _, rfl, p, C, dx, _, _, rfl, hp, J.cl, J.n4, rfl, _, rfl, p, C, dx, _, _, rfl, hp, J.cl, J.n5, rfl, _, rfl, p, C, dx, _, _, rfl, hp, J.cl, J.n6, rfl, _, rfl, p, C, dx, _, _, rfl, hp, J.cl, J.n7, rfl, (by show 5 ≤ sizeLine; decide), fun b hb => ?_⟩
      exact kk _ _ ⟨b, rfl, upd_same, same_of hb⟩
    rintro _ H1 ⟨b, rfl, eb, s1⟩
    have hp1 := s1 _ _ hp
    have hl1 := s1 _ _ hl
    refine ⟨_, rfl, _, _, true, rfl, .ins hp1 J.cl I.ha I.hn I.htk I.hm, I.is, _, rfl, iteF ?_⟩
    refine ⟨_, rfl, p, C, dx, _, _, rfl, hp1, J.cl, J.n2, rfl, _, _, true, rfl, .lst hl1, by kernel_rfl, _, rfl, iteF ?_⟩
    refine ⟨_, rfl, p, C, dx, _, _, rfl, hp1, J.cl, J.n2, rfl, _, rfl, l, tl, _, _, rfl, rfl, SqL.of hl1, SqL.of (s1 _ _ ht), flat_strs _, flat_strs _, _, rfl, ite_of (d := false) (by rw [eqL_refl (flat_strs _)]; rfl) (fun h => by cases h) (fun _ => ?_)⟩
    refine ⟨_, rfl, p, C, dx, _, _, rfl, hp1, J.cl, J.n1, rfl, _, rfl, rfl, _, rfl, ite_of (d := false) (by simp) (fun h => by cases h) (fun _ => ?_)⟩
    refine next_to ?_
    dsimp only
    refine ⟨_, rfl, b, rfl, ⟨_, SqL.of eb⟩, ?_⟩
    refine comp1_wk (wk_list K b j.nums) (fun i ys H' => ys = [] ∧ H' = H1) ⟨rfl, rfl⟩ (fun i ys H' _ h => ⟨by rw [h.2]; exact SqL.of eb, by rw [h.1]; exact Nat.zero_le _⟩) (by show 5 ≤ sizeLine; decide) (fun i x ys H' Nx hx h kk => ?_) (fun ys H' h Dd hD => ?_)
    · obtain ⟨rfl, rfl⟩ := h
      obtain ⟨n, rfl⟩ : ∃ n : Int, x = .int n := by
        have := List.mem_of_getElem? hx
        simp only [Jb.nums, List.mem_cons, List.not_mem_nil, or_false] at this
        rcases this with rfl | rfl | rfl | rfl | rfl <;> exact ⟨_, rfl⟩
      refine ⟨_, rfl, _, _, true, rfl, .int _, by kernel_rfl, _, rfl, iteF ?_⟩
      exact ⟨_, rfl, _, _, false, rfl, .int _, by kernel_rfl, _, rfl, iteF (kk _ _ ⟨rfl, rfl⟩)⟩
    · obtain ⟨rfl, rfl⟩ := h
      have sD : Same H' (upd H' Dd (.lst [])) := same_of hD
      have eD : (upd H' Dd (.lst [])) Dd = some (.lst []) := upd_same
      generalize upd H' Dd (.lst []) = H2 at sD eD
      dsimp only [gName]
      refine ⟨_, rfl, _, rfl, b, nl, _, _, rfl, rfl, SqL.of (sD _ _ eb), SqL.of ((s1.trans sD) _ _ hn), rfl, rfl, _, rfl, ite_of (d := true) (by rw [show (if false = true then !eqL j.nums j.nums else eqL j.nums j.nums) = eqL j.nums j.nums from rfl, eqL_refl rfl]) (fun _ => ?_) (fun h => by cases h)⟩
      refine ⟨_, rfl, by decide, fun u hu => ?_⟩
      have su : Same H2 (upd H2 u (.lst [])) := same_of hu
      exact ⟨Dd, u, [], [], rfl, rfl, SqL.of (su _ _ eD), SqL.of upd_same, rfl, rfl, q _ ((s1.trans sD).trans su)⟩
def spMixed (K : PySem.W.Frag) : Sp := fun vs H Q _ => ∃ (a : Addr) (ns : List Int) (k : Int), vs = [.ref a, .int k] ∧ SqL K H a (ns.map V.int) ∧ 0 ≤ k ∧ k ≤ 1000 ∧ ∀ m H', 0 ≤ m → Same H H' → Q (.int m) H'
theorem ok_mixed (Df : Def K mg "_law_mixed" s__law_mixed ["_law_script", "_law_k"]) (B : Bltn mg) : Knows P w K mg base 1 "_law_mixed" ["_law_script", "_law_k"] (spMixed K) := by
  refine Df.ok sc__law_mixed (fun vs H Q E h => ?_) (fun f cdv A outer s H vs Q E hr h => ?_)
  · obtain ⟨a, ns, k, rfl, _⟩ := h
    rfl
  · obtain ⟨a, ns, k, rfl, hS, hk0, hk1, q⟩ := h
    have hu := hu0 hr
    refine ⟨_, by exact (pss_cons (ps_set (i := 2) sc__law_mixed.nd rfl (Or.inl rfl) (pe_ifExp (pt_cmpR (op_neL hu) (pv 0) (pe_lst pa_nil) (nomark _)) (pe_ix ix_list (pv 0) (pe_op op_mod (pv 1) (pe_bcall call_len_seq rfl B.len PySem.boot_len (pa_c (pv 0) pa_nil))) (fun _ _ => rfl)) pe_int))
      (pss_cons (ps_set (i := 3) sc__law_mixed.nd rfl (Or.inl rfl) (pe_op op_mod (pe_op op_add (pe_op op_add (pe_op op_mul (pv 2) pe_int) (pe_op op_mul (pe_op op_mul pe_int (pv 1)) (pv 1))) (pe_op op_mul pe_int (pv 1))) pe_int))
      (pss_one (ps_ret (pe_op op_fdiv (pe_op op_mod (pe_op op_mul (pv 3) (pe_op op_add pe_int (pe_op op_mul pe_int (pv 1)))) pe_int) pe_int))))), ?_⟩
    refine seq_use (fun v H' => ∃ c : Int, v = .int c ∧ Same H H') (fun Q' kk => ?_) ?_
    · refine ⟨_, rfl, by walk_at "m", fun p hp => ?_⟩
      have s1 : Same H (upd H p (.lst [])) := same_of hp
      refine ⟨a, p, _, [], rfl, rfl, s1.seq hS, SqL.of upd_same, flat_ints _, rfl, _, rfl, ?_⟩
      refine ite2 (fun hne => ?_) (fun _ => kk _ _ ⟨0, rfl, s1⟩)
      have hl : 0 < (ns.map V.int).length := by
        cases ns with
        | nil => exact absurd hne (by decide)
        | cons _ _ => simp
      refine ⟨_, rfl, _, rfl, _, rfl, a, _, rfl, .inl (s1.seq hS), _, _, rfl, rfl, (by omega), ?_⟩
      have hm0 : 0 ≤ k % ((ns.map V.int).length : Int) := Int.emod_nonneg _ (by omega)
      have hm1 : k % ((ns.map V.int).length : Int) < ((ns.map V.int).length : Int) := Int.emod_lt_of_pos _ (by omega)
      obtain ⟨v, hv, hmem, _⟩ := atI_mem hm0 hm1
      obtain ⟨c, _, rfl⟩ := List.mem_map.mp hmem
      exact ⟨a, _, _, _, rfl, rfl, s1.seq hS, hv, kk _ _ ⟨c, rfl, s1⟩⟩
    rintro v H1 ⟨c, rfl, s1⟩
    refine ⟨_, rfl, _, _, rfl, rfl, .inr ⟨by walk_at "m", by walk_at "m"⟩, _, rfl, _, _, rfl, rfl, .inl ⟨by walk_at "m", by walk_at "m"⟩, _, rfl, _, _, rfl, rfl, .inr ⟨by omega, by omega⟩, _, _, rfl, rfl, _, rfl, _, _, rfl, rfl, .inl ⟨by walk_at "m", by walk_at "m"⟩, _, _, rfl, rfl, _, _, rfl, rfl, (by walk_at "m"), ?_⟩
    refine ⟨_, rfl, _, rfl, _, _, rfl, rfl, .inl ⟨by walk_at "m", by walk_at "m"⟩, _, _, rfl, rfl, _, _, rfl, rfl, .inr ⟨by omega, by omega⟩, _, _, rfl, rfl, (by walk_at "m"), _, _, rfl, rfl, ⟨by walk_at "m", by walk_at "m"⟩, ?_⟩
    exact q _ _ (by omega) s1
end
end K02

set_option Elab.async false
set_option linter.all false
set_option maxRecDepth 100000
set_option maxHeartbeats 4000000
set_option pp.maxSteps 600
set_option pp.deepTerms false
namespace K02
open PySem L2 PyProof.Rows
theorem take12 (x : Str) : (Txt.slice x none (some 12)).cps.toList = x.cps.toList.take 12 := by
  have h := slice_to_min_closes (x := x) (n := 12) (m := if (x.length : Int) < 12 then (x.length : Int) else 12) (by decide) rfl
  rw [eq_of_beq h]
  show ((x.cps.toList.drop 0).take _) = _
  rw [List.drop_zero]
  by_cases h12 : (x.length : Int) < 12
  · rw [if_pos h12]
    have e : x.cps.toList.length = x.length := by simp [Str.length]
    rw [List.take_of_length_le (by omega), List.take_of_length_le (by omega)]
  · rw [if_neg h12]
    rfl
theorem app_list (x y : Str) : (x ++ y).cps.toList = x.cps.toList ++ y.cps.toList := by
  show (x.cps ++ y.cps).toList = _
  simp
theorem rep_list (c n : Nat) : (repS ⟨#[c]⟩ n).cps.toList = List.replicate n c := by
  unfold repS
  show (List.replicate n [c]).flatten = _
  induction n with
  | zero => rfl
  | succ n ih => rw [List.replicate_succ, List.flatten_cons, ih, List.replicate_succ]; rfl
theorem rep_len (c n : Nat) : (repS ⟨#[c]⟩ n).length = n := by
  have : (repS ⟨#[c]⟩ n).cps.toList.length = n := by rw [rep_list, List.length_replicate]
  simpa [Str.length] using this
theorem let_get : ∀ n, n < 26 → LET.cps.toList[n]? = some (97 + n) := by decide
theorem let_at {i : Int} (h0 : 0 ≤ i) (h1 : i < 26) : atI LET.cps.toList i = some (97 + i.toNat) := by
  obtain ⟨n, rfl⟩ := Int.eq_ofNat_of_zero_le h0
  exact atI_nat (let_get n (by omega))
theorem let_mem {n : Nat} (h : n < 26) : 97 + n ∈ LET.cps.toList := List.mem_of_getElem? (let_get n h)
theorem name_of {z : Str} (h1 : 1 ≤ z.cps.toList.length) (h2 : z.cps.toList.length ≤ 12) (h3 : ∀ c ∈ z.cps.toList, c ∈ LET.cps.toList) : isName z = true := by
  have e : z.length = z.cps.toList.length := by simp [Str.length]
  unfold isName madeOf
  rw [Bool.and_eq_true, Bool.and_eq_true, decide_eq_true_eq, decide_eq_true_eq, List.all_eq_true]
  exact ⟨⟨by omega, by omega⟩, fun c hc => decide_eq_true (h3 c hc)⟩
theorem nodup_map {g : Nat → Str} {n : Nat} (h : ∀ i j, i < j → j < n → g i ≠ g j) : ((List.range n).map g).Nodup := by
  rw [List.Nodup, List.pairwise_map]
  refine List.Pairwise.imp_of_mem (fun {i j} hi hj hij => h i j hij (by simpa using hj)) (List.pairwise_lt_range (n := n))
/-- names of unlike lengths -/
def nmA (c : Nat) (f : Int) (k : Nat) : Str := repS ⟨#[c]⟩ (1 + (f + (k : Int)) % 12).toNat
theorem nmA_name {c : Nat} (hc : c ∈ LET.cps.toList) (f : Int) (k : Nat) : isName (nmA c f k) = true := by
  have e := rep_list c (1 + (f + (k : Int)) % 12).toNat
  refine name_of ?_ ?_ ?_
  · show 1 ≤ (repS ⟨#[c]⟩ _).cps.toList.length; rw [e, List.length_replicate]; omega
  · show (repS ⟨#[c]⟩ _).cps.toList.length ≤ 12; rw [e, List.length_replicate]; omega
  · intro d hd
    unfold nmA at hd
    rw [e] at hd
    rw [List.eq_of_mem_replicate hd]
    exact hc
theorem nmA_nodup (c : Nat) (f : Int) {n : Nat} (hn : n ≤ 9) : ((List.range n).map (nmA c f)).Nodup := nodup_map fun i j hij hj e => by
  have := congrArg Str.length e
  unfold nmA at this
  rw [rep_len, rep_len] at this
  omega
/-- names unlike in one sign -/
def nmB (c : Nat) (f : Int) (p s : Nat) (k : Nat) : Str := Txt.slice (repS ⟨#[c]⟩ p ++ (⟨#[97 + ((f + (k : Int)) % 26).toNat]⟩ : Str) ++ repS ⟨#[c]⟩ s) none (some 12)
theorem nmB_list (c : Nat) (f : Int) (p s k : Nat) : (nmB c f p s k).cps.toList = (List.replicate p c ++ [97 + ((f + (k : Int)) % 26).toNat] ++ List.replicate s c).take 12 := by
  unfold nmB
  rw [take12, app_list, app_list, rep_list, rep_list]
theorem nmB_name {c : Nat} (hc : c ∈ LET.cps.toList) (f : Int) (p s k : Nat) : isName (nmB c f p s k) = true := by
  have e := nmB_list c f p s k
  refine name_of ?_ ?_ ?_
  · rw [e]
    simp only [List.length_take, List.length_append, List.length_replicate, List.length_cons, List.length_nil]
    omega
  · rw [e]
    simp only [List.length_take]
    omega
  · intro d hd
    rw [e] at hd
    have := List.mem_of_mem_take hd
    simp only [List.mem_append, List.mem_singleton] at this
    rcases this with (h | h) | h
    · rw [List.eq_of_mem_replicate h]; exact hc
    · rw [h]; exact let_mem (by omega)
    · rw [List.eq_of_mem_replicate h]; exact hc
theorem nmB_at (c : Nat) (f : Int) {p : Nat} (hp : p < 12) (s k : Nat) : (nmB c f p s k).cps.toList[p]? = some (97 + ((f + (k : Int)) % 26).toNat) := by
  rw [nmB_list, List.getElem?_take_of_lt hp, List.append_assoc, List.getElem?_append_right (by simp)]
  simp
theorem nmB_nodup (c : Nat) (f : Int) {p : Nat} (hp : p < 12) (s : Nat) {n : Nat} (hn : n ≤ 9) : ((List.range n).map (nmB c f p s)).Nodup := nodup_map fun i j hij hj e => by
  have h1 := nmB_at c f hp s i
  rw [e, nmB_at c f hp s j] at h1
  have := Option.some.inj h1
  omega
section
variable {P : Program} {w : World} {K : PySem.W.Frag} {mg : Str → Option Value} {base : Heap}
def spNames (K : PySem.W.Frag) : Sp := fun vs H Q _ => ∃ (a : Addr) (ns : List Int) (n : Nat), vs = [.ref a, .int (n : Int)] ∧ SqL K H a (ns.map V.int) ∧ n ≤ 9 ∧ ∀ (ks : List Str) l H', Same H H' → H' l = some (.lst (ks.map V.str)) → ks.length = n → ks.Nodup → (∀ k ∈ ks, isName k = true) → Q (.ref l) H'
theorem ok_names (Df : Def K mg "_law_names" s__law_names ["_law_script", "_law_many"]) (B : Bltn mg) (k__law_mixed : Knows P w K mg base 1 "_law_mixed" ["_law_script", "_law_k"] (spMixed K)) : Knows P w K mg base 2 "_law_names" ["_law_script", "_law_many"] (spNames K) := by
  refine Df.ok sc__law_names (fun vs H Q E h => ?_) (fun f cdv A outer s H vs Q E hr h => ?_)
  · obtain ⟨a, ns, n, rfl, _⟩ := h
    rfl
  · obtain ⟨a, ns, n, rfl, hS, hn, q⟩ := h
    refine ⟨_, by exact (pss_cons (ps_set (i := 2) sc__law_names.nd rfl (Or.inl rfl) pe_str)
      (pss_cons (ps_set (i := 3) sc__law_names.nd rfl (Or.inr rfl) (pe_ix ix_str (pv 2) (pe_op op_mod (pe_callM k__law_mixed hr (pa_c (pv 0) (pa_c pe_int pa_nil))) pe_int) (fun _ _ => rfl)))
      (pss_cons (ps_set (i := 4) sc__law_names.nd rfl (Or.inr rfl) (pe_op op_mod (pe_callM k__law_mixed hr (pa_c (pv 0) (pa_c pe_int pa_nil))) pe_int))
      (pss_cons (ps_set (i := 5) sc__law_names.nd rfl (Or.inl rfl) (pe_op op_mod (pe_callM k__law_mixed hr (pa_c (pv 0) (pa_c pe_int pa_nil))) pe_int))
      (pss_cons (ps_set (i := 6) sc__law_names.nd rfl (Or.inl rfl) (pe_op op_add pe_int (pe_op op_mod (pe_callM k__law_mixed hr (pa_c (pv 0) (pa_c pe_int pa_nil))) pe_int)))
      (pss_cons (ps_if (pt_cmpR op_eq (pe_op op_mod (pe_callM k__law_mixed hr (pa_c (pv 0) (pa_c pe_int pa_nil))) pe_int) pe_int (nomark _)) (pss_one (ps_ret (pe_comp1 [3, 4] ["_law_k", "_law_fill", "_law_first"] rfl (pi_range1 rfl B.range (pa_c (pv 1) pa_nil)) (fun _ _ _ _ => pts_nil) (fun _ _ _ _ => (pe_op op_repS (pv 1) (pe_op op_add pe_int (pe_op op_mod (pe_op op_add (pv 2) (pv 0)) pe_int))))))) pss_nil)
      (pss_cons (ps_set (i := 7) sc__law_names.nd rfl (Or.inl rfl) (pe_lst pa_nil))
      (pss_cons (ps_for PassesOwn.never rfl (pi_range1 rfl B.range (pa_c (pv 1) pa_nil)) (pg_name (i := 8) sc__law_names.nd rfl (Or.inl rfl)) (pss_cons (ps_set (i := 9) sc__law_names.nd rfl (Or.inl rfl) (pe_ix ix_str (pv 2) (pe_op op_mod (pe_op op_add (pv 4) (pv 8)) pe_int) (fun _ _ => rfl)))
      (pss_one (ps_expr (pe_mcall PySem.F.plainAttrs_list PySem.F.slot_list_append PySem.F.type_list_append mt_append (pv 7) (pa_c (pe_slice sl_str (pe_op op_add_str (pe_op op_add_str (pe_op op_repS (pv 3) (pv 5)) (pv 9)) (pe_op op_repS (pv 3) (pv 6))) po_none (po_some pe_int)) pa_nil))))))
      (pss_one (ps_ret (pv 7))))))))))), ?_⟩
    refine seq_use (fun v H' => v = .str LET ∧ H = H') (fun Q' kk => kk _ _ ⟨rfl, rfl⟩) ?_
    rintro _ _ ⟨rfl, rfl⟩
    refine seq_use (fun v H' => ∃ c, v = .str ⟨#[c]⟩ ∧ c ∈ LET.cps.toList ∧ Same H H') (fun Q' kk => ?_) ?_
    · refine ⟨_, rfl, _, rfl, a, ns, 1, rfl, hS, by decide, by decide, fun m H1 hm s1 => ⟨_, _, rfl, rfl, by walk_at "m", ?_⟩⟩
      have b0 := Int.emod_nonneg m (show (26 : Int) ≠ 0 by decide)
      have b1 := Int.emod_lt_of_pos m (show (0 : Int) < 26 by decide)
      exact ⟨_, _, _, rfl, rfl, by decide, let_at b0 b1, kk _ _ ⟨_, rfl, let_mem (by omega), s1⟩⟩
    rintro _ H1 ⟨c, rfl, hc, s1⟩
    refine seq_use (fun v H' => ∃ x : Int, v = .int x ∧ 0 ≤ x ∧ x < 26 ∧ Same H H') (fun Q' kk => ?_) ?_
    · exact ⟨_, rfl, a, ns, 2, rfl, s1.seq hS, by decide, by decide, fun m H2 hm s2 => ⟨_, _, rfl, rfl, by walk_at "m", kk _ _ ⟨_, rfl, Int.emod_nonneg _ (by decide), Int.emod_lt_of_pos _ (by decide), s1.trans s2⟩⟩⟩
    rintro _ H2 ⟨fi, rfl, f0, f1, s2⟩
    refine seq_use (fun v H' => ∃ x : Nat, v = .int (x : Int) ∧ x < 12 ∧ Same H H') (fun Q' kk => ?_) ?_
    · refine ⟨_, rfl, a, ns, 3, rfl, s2.seq hS, by decide, by decide, fun m H3 hm s3 => ⟨_, _, rfl, rfl, by walk_at "m", ?_⟩⟩
      refine kk _ _ ⟨(m % 12).toNat, ?_, ?_, s2.trans s3⟩
      · rw [Int.toNat_of_nonneg (Int.emod_nonneg _ (by decide))]
      · omega
    rintro _ H3 ⟨sp, rfl, p1, s3⟩
    refine seq_use (fun v H' => ∃ x : Nat, v = .int (x : Int) ∧ x ≤ 12 ∧ Same H H') (fun Q' kk => ?_) ?_
    · refine ⟨_, rfl, a, ns, 4, rfl, s3.seq hS, by decide, by decide, fun m H4 hm s4 => ⟨_, _, rfl, rfl, by walk_at "m", _, _, rfl, rfl, ?_⟩⟩
      refine kk _ _ ⟨(1 + m % 12).toNat, ?_, ?_, s3.trans s4⟩
      · rw [Int.toNat_of_nonneg (by omega)]
      · omega
    rintro _ H4 ⟨sz, rfl, z1, s4⟩
    dsimp only
    refine ⟨_, rfl, a, ns, 5, rfl, s4.seq hS, by decide, by decide, fun m5 H5 _ s5 => ⟨_, _, rfl, rfl, by walk_at "m", rfl, _, rfl, ?_⟩⟩
    replace s5 := s4.trans s5
    refine ite2 (fun _ => ?_) (fun _ => next_to ?_)
    · refine ⟨_, rfl, _, rfl, by omega, by omega, ?_⟩
      refine comp1_wk (wk_range 0 n) (fun i ys H' => H' = H5 ∧ ys = ((List.range i).map (nmA c fi)).map V.str) ⟨rfl, rfl⟩ (fun i ys H' _ h => ⟨trivial, by rw [h.2]; simp⟩) (by rw [rangeV_length]; exact Nat.le_trans hn (by decide)) (fun i x ys H' Nx hx h kk => ?_) (fun ys H' h Dd hD => ?_)
      · obtain ⟨rfl, rfl⟩ := h
        obtain ⟨hi, rfl⟩ := range_at hx
        refine tTrue_use ⟨_, rfl, _, rfl, _, rfl, _, _, rfl, rfl, _, _, rfl, rfl, by walk_at "m", _, _, rfl, rfl, ?_⟩
        refine ⟨_, _, rfl, rfl, (by show 1 ≤ 1; decide), by omega, ?_, kk _ _ ⟨rfl, ?_⟩⟩
        · show ((1 : Nat) : Int) * _ ≤ 100000
          omega
        · rw [List.range_succ, List.map_append, List.map_append]
          rfl
      · obtain ⟨rfl, rfl⟩ := h
        rw [rangeV_length]
        refine q _ Dd _ (s5.trans (same_of hD)) upd_same (by simp) (nmA_nodup c fi hn) fun k hk => ?_
        obtain ⟨i, _, rfl⟩ := List.mem_map.mp hk
        exact nmA_name hc fi i
    · dsimp only
      refine ⟨by decide, fun l hl => ?_⟩
      have hl0 := same_none s5 hl
      have s6 : Same H (upd H5 l (.lst [])) := s5.trans (same_of hl)
      have e6 : (upd H5 l (.lst [])) l = some (.lst []) := upd_same
      generalize upd H5 l (.lst []) = H6 at s6 e6
      dsimp only
      refine ⟨_, rfl, _, rfl, by omega, by omega, ?_⟩
      refine for_range (n := n) (fun i σ H7 => Same H H7 ∧ H7 l = some (.lst (((List.range i).map (nmB c fi sp sz)).map V.str)) ∧ ∃ v8 v9, σ = [some (.ref a), some (.int (n : Int)), some (.str LET), some (.str ⟨#[c]⟩), some (.int fi), some (.int (sp : Int)), some (.int (sz : Int)), some (.ref l), v8, v9]) ⟨s6, e6, _, _, rfl⟩ ?_ ?_
      · rintro i σ H7 hi ⟨s7, e7, v8, v9, rfl⟩
        rw [Int.zero_add]
        refine ⟨_, rfl, _, rfl, _, rfl, _, _, rfl, rfl, _, _, rfl, rfl, by walk_at "m", ?_⟩
        have b0 := Int.emod_nonneg (fi + (i : Int)) (show (26 : Int) ≠ 0 by decide)
        have b1 := Int.emod_lt_of_pos (fi + (i : Int)) (show (0 : Int) < 26 by decide)
        refine ⟨_, _, _, rfl, rfl, by decide, let_at b0 b1, ?_⟩
        dsimp only [gName]
        have l1 : (repS ⟨#[c]⟩ (sp : Int).toNat).length = sp := rep_len c sp
        have l2 : (repS ⟨#[c]⟩ (sz : Int).toNat).length = sz := rep_len c sz
        have l3 : ∀ x y : Str, (x ++ y).length = x.length + y.length := fun x y => by
          have := congrArg List.length (app_list x y)
          simpa [Str.length] using this
        have z30 : ∀ n, n ≤ 30 → n ≤ sizeLine := fun n h => Nat.le_trans h (by decide)
        have k1 : (⟨#[97 + ((fi + (i : Int)) % 26).toNat]⟩ : Str).length = 1 := rfl
        refine ⟨_, rfl, .inl ⟨rfl, _, SqL.of e7⟩, _, rfl, _, rfl, _, _, rfl, rfl, (by show 1 ≤ 1; decide), by omega, (by show ((1 : Nat) : Int) * _ ≤ 100000; omega), _, rfl, _, _, rfl, rfl, z30 _ ?_, _, rfl, _, rfl, _, _, rfl, rfl, (by show 1 ≤ 1; decide), by omega, (by show ((1 : Nat) : Int) * _ ≤ 100000; omega), _, _, rfl, rfl, z30 _ ?_, _, rfl, _, rfl, z30 _ ?_, l, _, _, rfl, rfl, e7, ?_, ?_⟩
        · rw [l1, k1]; omega
        · rw [l3, l1, k1, l2]; omega
        · rw [l3, l3, l1, k1, l2]; omega
        · rw [List.length_map, List.length_map, List.length_range]; exact Nat.lt_of_lt_of_le (Nat.lt_of_lt_of_le hi hn) (by decide)
        · refine ⟨Same.upd s7 hl0, ?_, _, _, rfl⟩
          rw [upd_same, List.range_succ, List.map_append, List.map_append]
          rfl
      · rintro σ H7 ⟨s7, e7, v8, v9, rfl⟩
        refine ⟨_, rfl, q _ l _ s7 e7 (by simp) (nmB_nodup c fi p1 sz hn) fun k hk => ?_⟩
        obtain ⟨i, _, rfl⟩ := List.mem_map.mp hk
        exact nmB_name hc fi sp sz i
end
end K02

set_option Elab.async false
set_option linter.all false
set_option maxRecDepth 100000
set_option maxHeartbeats 4000000
set_option pp.maxSteps 600
set_option pp.deepTerms false
namespace K02
open PySem L2 PyProof.Rows
theorem cut_to (xs : List V) (n : Nat) : cutV xs none (some (n : Int)) = xs.take n := by
  unfold cutV
  rw [HT.sIx_nat, HT.sIx_none, List.drop_zero, Nat.sub_zero]
  by_cases h : n ≤ xs.length
  · rw [Nat.min_eq_left h]
  · rw [Nat.min_eq_right (by omega), List.take_of_length_le (Nat.le_refl _), List.take_of_length_le (by omega)]
theorem cut_from (xs : List V) (n : Nat) : cutV xs (some (n : Int)) none = xs.drop n := by
  unfold cutV
  rw [HT.sIx_nat, HT.sIx_none]
  by_cases h : n ≤ xs.length
  · rw [Nat.min_eq_left h, List.take_of_length_le (by rw [List.length_drop]; exact Nat.le_refl _)]
  · rw [Nat.min_eq_right (by omega), Nat.sub_self, List.take_zero, List.drop_eq_nil_of_le (by omega)]
theorem ins_use {K : PySem.W.Frag} {te : TE} {σ : L2.St} {H : Hp} {Q : VK} {b : Addr} {xs : List V} {k : Nat} (Pv : V → Hp → Prop) (mono : ∀ v H2 H3, Same H2 H3 → Pv v H2 → Pv v H3) (h3 : σ[3]? = some (some (.ref b))) (h5 : σ[5]? = some (some (.int (k : Int)))) (hb : H b = some (.lst xs)) (hl : xs.length ≤ 12)
    (he : ∀ H1 Qe, Same H H1 → (∀ v H2, Same H1 H2 → Pv v H2 → Qe v H2) → te σ H1 Qe)
    (q : ∀ v c H', Pv v H' → Same H H' → H c = none → H' c = some (.lst (xs.take k ++ [v] ++ xs.drop k)) → Q (.ref c) H') :
    tOp rCat (tOp rCat (tSl (rSlL K) (tVar 3) tNoPart (tPart (tVar 5))) (tLst (tCons te tNil))) (tSl (rSlL K) (tVar 3) (tPart (tVar 5)) tNoPart) σ H Q := by
  have z30 : ∀ n, n ≤ 30 → n ≤ sizeLine := fun n h => Nat.le_trans h (by decide)
  refine ⟨_, h3, _, h5, _, rfl, b, _, rfl, SqL.of hb, fun p1 hp1 => ?_⟩
  rw [cut_to]
  have t1 : Same H (upd H p1 (.lst (xs.take k))) := same_of hp1
  have e1 : (upd H p1 (.lst (xs.take k))) p1 = some (.lst (xs.take k)) := upd_same
  generalize upd H p1 (.lst (xs.take k)) = H1 at t1 e1
  refine he H1 _ t1 fun v H2 s2 pv => ⟨z30 _ (by show 1 ≤ 30; decide), fun p2 hp2 => ?_⟩
  have t2 : Same H2 (upd H2 p2 (.lst [v])) := same_of hp2
  have e2 : (upd H2 p2 (.lst [v])) p2 = some (.lst [v]) := upd_same
  have pv2 := mono _ _ _ t2 pv
  generalize upd H2 p2 (.lst [v]) = H3 at t2 e2 pv2
  have lt1 : (xs.take k).length ≤ 12 := by rw [List.length_take]; omega
  refine ⟨p1, p2, _, _, rfl, rfl, t2 _ _ (s2 _ _ e1), e2, z30 _ (by show (xs.take k).length + 1 ≤ 30; omega), fun p3 hp3 => ?_⟩
  have t3 : Same H3 (upd H3 p3 (.lst (xs.take k ++ [v]))) := same_of hp3
  have e3 : (upd H3 p3 (.lst (xs.take k ++ [v]))) p3 = some (.lst (xs.take k ++ [v])) := upd_same
  have pv3 := mono _ _ _ t3 pv2
  generalize upd H3 p3 (.lst (xs.take k ++ [v])) = H4 at t3 e3 pv3
  have s4 : Same H H4 := ((t1.trans s2).trans t2).trans t3
  refine ⟨_, h3, _, h5, _, rfl, b, _, rfl, SqL.of (s4 _ _ hb), fun p4 hp4 => ?_⟩
  rw [cut_from]
  have t4 : Same H4 (upd H4 p4 (.lst (xs.drop k))) := same_of hp4
  have e4 : (upd H4 p4 (.lst (xs.drop k))) p4 = some (.lst (xs.drop k)) := upd_same
  have pv4 := mono _ _ _ t4 pv3
  generalize upd H4 p4 (.lst (xs.drop k)) = H5 at t4 e4 pv4
  have lt2 : (xs.drop k).length ≤ 12 := by rw [List.length_drop]; omega
  have s5 := s4.trans t4
  refine ⟨p3, p4, _, _, rfl, rfl, t4 _ _ e3, e4, z30 _ (by rw [List.length_append]; show (xs.take k).length + 1 + _ ≤ 30; omega), fun p5 hp5 => ?_⟩
  exact q v p5 _ (mono _ _ _ (same_of hp5) pv4) (s5.trans (same_of hp5)) (same_none s5 hp5) upd_same
theorem uniq_conv {ks : List Key} (h : (uniqK ks).length = ks.length) : ks.Nodup := by
  have : ∀ i, i ≤ ks.length → (metK (fun i => ks.getD i (.inl 0)) i).length = i → metK (fun i => ks.getD i (.inl 0)) i = ks.take i ∧ (ks.take i).Nodup := by
    intro i
    induction i with
    | zero => intro _ _; exact ⟨rfl, List.nodup_nil⟩
    | succ i ih =>
      intro hi hl
      have e : ks.getD i (.inl 0) = ks[i] := by rw [List.getD_eq_getElem?_getD, List.getElem?_eq_getElem (by omega)]; rfl
      have hs : metK (fun i => ks.getD i (.inl 0)) (i + 1) = addK (metK (fun i => ks.getD i (.inl 0)) i) ks[i] := by rw [← e]; rfl
      have hle := metK_le (fun i => ks.getD i (.inl 0)) i
      rw [hs] at hl ⊢
      unfold addK at hl ⊢
      by_cases hm : ks[i] ∈ metK (fun i => ks.getD i (.inl 0)) i
      · rw [if_pos hm] at hl
        omega
      · rw [if_neg hm] at hl ⊢
        rw [List.length_append] at hl
        obtain ⟨h1, h2⟩ := ih (by omega) (by simpa using hl)
        have ht : ks.take (i + 1) = ks.take i ++ [ks[i]] := (List.take_append_getElem (l := ks) (i := i) (by omega)).symm
        rw [ht, h1]
        refine ⟨rfl, ?_⟩
        rw [h1] at hm
        rw [List.nodup_append]
        exact ⟨h2, List.pairwise_singleton _ _, fun a ha b hb => by rw [List.mem_singleton.mp hb]; exact fun e => hm (e ▸ ha)⟩
  have h' := (this ks.length (Nat.le_refl _) h).2
  rwa [List.take_length] at h'
theorem bad_own {z : Str} {A B : List V} : okNeeds z (A ++ [.str z] ++ B) = false := by
  have : inV (.str z) (A ++ [.str z] ++ B) = true := by
    unfold inV
    rw [List.any_eq_true]
    exact ⟨.str z, by simp, by simp [eqV]⟩
  unfold okNeeds
  rw [this, Bool.not_true, Bool.false_and, Bool.and_false, Bool.and_false]
theorem bad_odd {z : Str} {v : V} {A B : List V} (h : madeOf LET 12 v = false) : okNeeds z (A ++ [v] ++ B) = false := by
  have : (A ++ [v] ++ B).all (madeOf LET 12) = false := by
    rw [List.all_append, List.all_append]
    simp [h]
  unfold okNeeds
  rw [this, Bool.false_and, Bool.and_false]
theorem bad_twice {z g : Str} {gs : List Str} {k : Nat} (h : g ∈ gs) : okNeeds z ((gs.map V.str).take k ++ [.str g] ++ (gs.map V.str).drop k) = false := by
  have e : (gs.map V.str).take k ++ [.str g] ++ (gs.map V.str).drop k = (gs.take k ++ [g] ++ gs.drop k).map V.str := by
    simp [List.map_take, List.map_drop]
  have : decide ((uniqK (((gs.take k ++ [g] ++ gs.drop k).map V.str).map keyOf)).length = ((gs.take k ++ [g] ++ gs.drop k).map V.str).length) = false := decide_eq_false fun hl => by
    have hn : (((gs.take k ++ [g] ++ gs.drop k).map V.str).map keyOf).Nodup := uniq_conv (by rw [hl]; simp)
    rw [keys_strs] at hn
    have hn2 : (gs.take k ++ [g] ++ gs.drop k).Nodup := by
      rw [List.Nodup, List.pairwise_map] at hn
      exact hn.imp fun h e => h (by rw [e])
    rw [← List.take_append_drop k gs] at h
    rw [List.nodup_append] at hn2
    obtain ⟨h1, _, h3⟩ := hn2
    rw [List.nodup_append] at h1
    rcases List.mem_append.mp h with h | h
    · exact h1.2.2 g h g (by simp) rfl
    · exact h3 g (by simp) g h rfl
  rw [e]
  unfold okNeeds
  rw [this, Bool.and_false, Bool.and_false, Bool.and_false]
theorem bad_many {z : Str} {xs : List V} (h : 8 < xs.length) : okNeeds z xs = false := by
  unfold okNeeds
  rw [decide_eq_false (by omega), Bool.false_and]
/-- needs that are none: no list, or a list of its own in which something is wrong -/
def Bd (K : PySem.W.Frag) (H H' : Hp) (z : Str) (nv : V) : Prop := Odd H' nv ∨ ∃ b xs, nv = .ref b ∧ H' b = some (.lst xs) ∧ H b = none ∧ (∀ y ∈ xs, Any K H' y) ∧ xs.length ≤ 20 ∧ okNeeds z xs = false
section
variable {P : Program} {w : World} {K : PySem.W.Frag} {mg : Str → Option Value} {base : Heap}
abbrev oddL (l : Addr) : List V := [.str "", .str (repS "a" (13 : Int).toNat), .str "A", .str "ab1", .str "a b", .non, .bl true, .ref l]
def spOddName (K : PySem.W.Frag) : Sp := fun vs H Q _ => ∃ (a : Addr) (ns : List Int), vs = [.ref a] ∧ SqL K H a (ns.map V.int) ∧ ∀ v H', Same H H' → Any K H' v → madeOf LET 12 v = false → Q v H'
theorem ok_odd_name (Df : Def K mg "_law_odd_name" s__law_odd_name ["_law_script"]) (k__law_mixed : Knows P w K mg base 1 "_law_mixed" ["_law_script", "_law_k"] (spMixed K)) : Knows P w K mg base 2 "_law_odd_name" ["_law_script"] (spOddName K) := by
  refine Df.ok sc__law_odd_name (fun vs H Q E h => ?_) (fun f cdv A outer s H vs Q E hr h => ?_)
  · obtain ⟨a, ns, rfl, _⟩ := h
    rfl
  · obtain ⟨a, ns, rfl, hS, q⟩ := h
    refine ⟨_, by exact (pss_one (ps_ret (pe_ix ix_list (pe_lst (pa_c pe_str (pa_c (pe_op op_repS pe_str pe_int) (pa_c pe_str (pa_c pe_str (pa_c pe_str (pa_c pe_non (pa_c pe_bl (pa_c (pe_lst (pa_c pe_str pa_nil)) pa_nil))))))))) (pe_op op_mod (pe_callM k__law_mixed hr (pa_c (pv 0) (pa_c pe_int pa_nil))) pe_int) (fun _ _ => rfl)))), ?_⟩
    refine ⟨_, _, rfl, rfl, by decide, by decide, by decide, by show 1 ≤ sizeLine; decide, fun l hl => ?_⟩
    have t1 : Same H (upd H l (.lst [.str "a"])) := same_of hl
    have e1 : (upd H l (.lst [.str "a"])) l = some (.lst [.str "a"]) := upd_same
    generalize upd H l (.lst [.str "a"]) = H1 at t1 e1
    refine ⟨by show 8 ≤ sizeLine; decide, fun o ho => ?_⟩
    have t2 := same_of (o := .lst (oddL l)) ho
    have e2 : (upd H1 o (.lst (oddL l))) o = some (.lst (oddL l)) := upd_same
    refine ⟨_, rfl, a, ns, 7, rfl, (t1.trans t2).seq hS, by decide, by decide, fun m H3 hm s3 => ⟨_, _, rfl, rfl, by walk_at "m", ?_⟩⟩
    obtain ⟨v, hv, hmem, _⟩ := atI_mem (xs := (oddL l)) (i := m % 8) (Int.emod_nonneg _ (by decide)) (Int.emod_lt_of_pos _ (by decide))
    refine ⟨o, _, _, v, rfl, rfl, SqL.of (s3 _ _ e2), hv, ?_⟩
    have el := s3 _ _ (t2 _ _ e1)
    have fin : ∀ v, Any K H3 v → madeOf LET 12 v = false → Q v H3 := fun v => q v _ ((t1.trans t2).trans s3)
    simp only [List.mem_cons, List.not_mem_nil, or_false] at hmem
    rcases hmem with rfl | rfl | rfl | rfl | rfl | rfl | rfl | rfl
    · exact fin _ (Any.str (by decide)) (by decide +kernel)
    · exact fin _ (Any.str (by decide)) (by decide +kernel)
    · exact fin _ (Any.str (by decide)) (by decide +kernel)
    · exact fin _ (Any.str (by decide)) (by decide +kernel)
    · exact fin _ (Any.str (by decide)) (by decide +kernel)
    · exact fin _ ⟨⟨_, .non⟩, fun _ e => by cases e⟩ rfl
    · exact fin _ ⟨⟨_, .bl _⟩, fun _ e => by cases e⟩ rfl
    · exact fin _ ⟨⟨_, .lst el⟩, fun _ e => by cases e⟩ rfl
end
end K02

set_option Elab.async false
set_option linter.all false
set_option maxRecDepth 100000
set_option maxHeartbeats 4000000
set_option pp.maxSteps 600
set_option pp.deepTerms false
namespace K02
open PySem L2 PyProof.Rows
abbrev ABI : Str := "abcdefghi"
theorem abi_len : ∀ n : Nat, n < 9 → (Txt.slice ABI (some (n : Int)) none).cps.size = 9 - n := by decide +kernel
section
variable {P : Program} {w : World} {K : PySem.W.Frag} {mg : Str → Option Value} {base : Heap}
def spNeeds (K : PySem.W.Frag) : Sp := fun vs H Q _ => ∃ (a gl : Addr) (ns : List Int) (z : Str) (gs : List Str), vs = [.ref a, .str z, .ref gl] ∧ SqL K H a (ns.map V.int) ∧ H gl = some (.lst (gs.map V.str)) ∧ gs.length ≤ 8 ∧ (∀ g ∈ gs, isName g = true) ∧ isName z = true ∧
  ∀ t nv o H', Same H H' → H' t = some (.tup [nv, .bl o]) → (o = false → Bd K H H' z nv) → Q (.ref t) H'
theorem ok_needs (Df : Def K mg "_law_needs" s__law_needs ["_law_script", "_law_own", "_law_names_here"]) (B : Bltn mg) (k__law_mixed : Knows P w K mg base 1 "_law_mixed" ["_law_script", "_law_k"] (spMixed K)) (k__law_odd_name : Knows P w K mg base 2 "_law_odd_name" ["_law_script"] (spOddName K)) :
    Knows P w K mg base 3 "_law_needs" ["_law_script", "_law_own", "_law_names_here"] (spNeeds K) := by
  refine Df.ok sc__law_needs (fun vs H Q E h => ?_) (fun f cdv A outer s H vs Q E hr h => ?_)
  · obtain ⟨a, gl, ns, z, gs, rfl, _⟩ := h
    rfl
  · obtain ⟨a, gl, ns, z, gs, rfl, hS, hg, g8, gn, zn, q⟩ := h
    have hu := hu0 hr
    refine ⟨_, by exact (pss_cons (ps_set (i := 3) sc__law_needs.nd rfl (Or.inl rfl) (pe_tcall call_list_of rfl B.list boot_list (pa_c (pv 2) pa_nil)))
      (pss_cons (ps_set (i := 4) sc__law_needs.nd rfl (Or.inl rfl) (pe_op op_mod (pe_callM k__law_mixed hr (pa_c (pv 0) (pa_c pe_int pa_nil))) pe_int))
      (pss_cons (ps_set (i := 5) sc__law_needs.nd rfl (Or.inl rfl) (pe_op op_mod (pe_callM k__law_mixed hr (pa_c (pv 0) (pa_c pe_int pa_nil))) (pe_op op_add (pe_bcall call_len_seq rfl B.len PySem.boot_len (pa_c (pv 3) pa_nil)) pe_int)))
      (pss_cons (ps_if (pt_cmpR op_eq (pv 4) pe_int (nomark _)) (pss_one (ps_ret (pe_tup (pa_c (pe_ix ix_list (pe_lst (pa_c pe_str (pa_c pe_str (pa_c pe_dnewK (pa_c pe_int (pa_c pe_bl (pa_c pe_bl pa_nil))))))) (pe_op op_mod (pe_callM k__law_mixed hr (pa_c (pv 0) (pa_c pe_int pa_nil))) pe_int) (fun _ _ => rfl)) (pa_c pe_bl pa_nil))))) pss_nil)
      (pss_cons (ps_if (pt_cmpR op_eq (pv 4) pe_int (nomark _)) (pss_one (ps_ret (pe_tup (pa_c (pe_op op_cat (pe_op op_cat (pe_slice sl_list (pv 3) po_none (po_some (pv 5))) (pe_lst (pa_c (pv 1) pa_nil))) (pe_slice sl_list (pv 3) (po_some (pv 5)) po_none)) (pa_c pe_bl pa_nil))))) pss_nil)
      (pss_cons (ps_if (pt_cmpR op_eq (pv 4) pe_int (nomark _)) (pss_one (ps_ret (pe_tup (pa_c (pe_op op_cat (pe_op op_cat (pe_slice sl_list (pv 3) po_none (po_some (pv 5))) (pe_lst (pa_c (pe_callM k__law_odd_name hr (pa_c (pv 0) pa_nil)) pa_nil))) (pe_slice sl_list (pv 3) (po_some (pv 5)) po_none)) (pa_c pe_bl pa_nil))))) pss_nil)
      (pss_cons (ps_if (PW.pt (pw_and (pt_cmpR op_eq (pv 4) pe_int (nomark _)) (pw_and1 (pt_cmpR (op_neL hu) (pv 2) (pe_lst pa_nil) (nomark _))))) (pss_one (ps_ret (pe_tup (pa_c (pe_op op_cat (pe_op op_cat (pe_slice sl_list (pv 3) po_none (po_some (pv 5))) (pe_lst (pa_c (pe_ix ix_list (pv 2) (pe_op op_mod (pe_callM k__law_mixed hr (pa_c (pv 0) (pa_c pe_int pa_nil))) (pe_bcall call_len_seq rfl B.len PySem.boot_len (pa_c (pv 2) pa_nil))) (fun _ _ => rfl)) pa_nil))) (pe_slice sl_list (pv 3) (po_some (pv 5)) po_none)) (pa_c pe_bl pa_nil))))) pss_nil)
      (pss_cons (ps_if (pt_cmpR op_eq (pv 4) pe_int (nomark _)) (pss_one (ps_ret (pe_tup (pa_c (pe_op op_cat (pv 3) (pe_comp1 [] ["_law_letter"] rfl (pi_str (pe_slice sl_str pe_str (po_some (pe_bcall call_len_seq rfl B.len PySem.boot_len (pa_c (pv 3) pa_nil))) po_none)) (fun _ _ _ _ => pts_nil) (fun _ _ _ _ => (pe_op op_add_str (pe_op op_repS pe_str pe_int) (pv 0))))) (pa_c pe_bl pa_nil))))) pss_nil)
      (pss_one (ps_ret (pe_tup (pa_c (pv 3) (pa_c pe_bl pa_nil))))))))))))), ?_⟩
    have len : (gs.map V.str).length = gs.length := List.length_map ..
    refine seq_use (fun v H' => ∃ l, v = .ref l ∧ H l = none ∧ H' l = some (.lst (gs.map V.str)) ∧ Same H H') (fun Q' kk => ?_) ?_
    · exact ⟨_, rfl, gl, _, rfl, .inl (SqL.of hg), fun l hl => kk _ _ ⟨l, rfl, hl, upd_same, same_of hl⟩⟩
    rintro _ H1 ⟨l, rfl, hl0, e1, s1⟩
    refine seq_use (fun v H' => ∃ x : Int, v = .int x ∧ H' l = some (.lst (gs.map V.str)) ∧ Same H H') (fun Q' kk => ?_) ?_
    · exact ⟨_, rfl, a, ns, 8, rfl, s1.seq hS, by decide, by decide, fun m H2 hm s2 => ⟨_, _, rfl, rfl, by walk_at "m", kk _ _ ⟨_, rfl, s2 _ _ e1, s1.trans s2⟩⟩⟩
    rintro _ H2 ⟨x, rfl, e2, s2⟩
    refine seq_use (fun v H' => ∃ k : Nat, v = .int (k : Int) ∧ H' l = some (.lst (gs.map V.str)) ∧ Same H H') (fun Q' kk => ?_) ?_
    · refine ⟨_, rfl, a, ns, 9, rfl, s2.seq hS, by decide, by decide, fun m H3 hm s3 => ?_⟩
      refine ⟨_, rfl, l, _, rfl, .inl (SqL.of (s3 _ _ e2)), _, _, rfl, rfl, _, _, rfl, rfl, by omega, ?_⟩
      refine kk _ _ ⟨(m % ((gs.map V.str).length + 1 : Int)).toNat, ?_, s3 _ _ e2, s2.trans s3⟩
      rw [Int.toNat_of_nonneg (Int.emod_nonneg _ (by omega))]
    rintro _ H3 ⟨k, rfl, e3, s3⟩
    dsimp only
    have S3 := s3.seq hS
    have g3 := s3 _ _ hg
    have anyS : ∀ {H' : Hp}, ∀ y ∈ gs.map V.str, Any K H' y := fun {H'} y hy => by
      obtain ⟨g, hg, rfl⟩ := List.mem_map.mp hy
      exact Any.str (Nat.le_trans (name_len (gn g hg)).2 (by decide))
    have fin : ∀ (v : V) (c : Addr) (H' : Hp), Same H3 H' → H3 c = none → H' c = some (.lst ((gs.map V.str).take k ++ [v] ++ (gs.map V.str).drop k)) → Any K H' v → okNeeds z ((gs.map V.str).take k ++ [v] ++ (gs.map V.str).drop k) = false → ∀ t, H' t = none → Q (.ref t) (upd H' t (.tup [.ref c, .bl false])) := fun v c H' s' hc ec av ok t ht => by
      have st : Same H' (upd H' t (.tup [.ref c, .bl false])) := same_of ht
      refine q t _ _ _ (s3.trans (s'.trans st)) upd_same fun _ => .inr ⟨c, _, rfl, st _ _ ec, same_none s3 hc, fun y hy => ?_, ?_, ok⟩
      · rcases List.mem_append.mp hy with hy | hy
        · rcases List.mem_append.mp hy with hy | hy
          · exact anyS y (List.mem_of_mem_take hy)
          · rw [List.mem_singleton.mp hy]
            exact av.same st
        · exact anyS y (List.mem_of_mem_drop hy)
      · simp only [List.length_append, List.length_take, List.length_drop, List.length_cons, List.length_nil, len]
        omega
    refine ⟨_, rfl, rfl, _, rfl, ite2 (fun _ => ?_) (fun _ => next_to ?_)⟩
    · refine fun d hd => ?_
      have t4 : Same H3 (upd H3 d (.dK [])) := same_of hd
      have e4 : (upd H3 d (.dK [])) d = some (.dK []) := upd_same
      generalize upd H3 d (.dK []) = H4 at t4 e4
      refine ⟨by show 6 ≤ sizeLine; decide, fun o ho => ?_⟩
      have t5 := same_of (o := .lst [.str "a", .str "", .ref d, .int 7, .bl true, .bl false]) ho
      have e5 : (upd H4 o (.lst [.str "a", .str "", .ref d, .int 7, .bl true, .bl false])) o = some (.lst [.str "a", .str "", .ref d, .int 7, .bl true, .bl false]) := upd_same
      refine ⟨_, rfl, a, ns, 10, rfl, (t4.trans t5).seq S3, by decide, by decide, fun m H6 hm s6 => ⟨_, _, rfl, rfl, by walk_at "m", ?_⟩⟩
      obtain ⟨v, hv, hmem, _⟩ := atI_mem (xs := [V.str "a", .str "", .ref d, .int 7, .bl true, .bl false]) (i := m % 6) (Int.emod_nonneg _ (by decide)) (Int.emod_lt_of_pos _ (by decide))
      refine ⟨o, _, _, v, rfl, rfl, SqL.of (s6 _ _ e5), hv, by show 2 ≤ sizeLine; decide, fun t ht => ?_⟩
      have st : Same H6 (upd H6 t (.tup [v, .bl false])) := same_of ht
      have ed := st _ _ (s6 _ _ (t5 _ _ e4))
      refine q t v false _ (s3.trans (((t4.trans t5).trans s6).trans st)) upd_same fun _ => .inl ?_
      simp only [List.mem_cons, List.not_mem_nil, or_false] at hmem
      rcases hmem with rfl | rfl | rfl | rfl | rfl | rfl
      · exact .inl ⟨_, rfl⟩
      · exact .inl ⟨_, rfl⟩
      · exact .inr (.inr (.inr ⟨_, _, rfl, ed⟩))
      · exact .inr (.inl ⟨_, rfl⟩)
      · exact .inr (.inr (.inl ⟨_, rfl⟩))
      · exact .inr (.inr (.inl ⟨_, rfl⟩))
    dsimp only
    refine ⟨_, rfl, rfl, _, rfl, ite2 (fun _ => ?_) (fun _ => next_to ?_)⟩
    · refine ins_use (fun v _ => v = .str z) (fun _ _ _ _ h => h) rfl rfl e3 (by omega) (fun H4 Qe s4 kk => ⟨_, rfl, kk _ _ (Same.refl _) rfl⟩) (fun v c H' hv s' hc ec => ?_)
      subst hv
      exact ⟨by show 2 ≤ sizeLine; decide, fin _ c H' s' hc ec (Any.str (Nat.le_trans (name_len zn).2 (by decide))) bad_own⟩
    dsimp only
    refine ⟨_, rfl, rfl, _, rfl, ite2 (fun _ => ?_) (fun _ => next_to ?_)⟩
    · refine ins_use (fun v H' => Any K H' v ∧ madeOf LET 12 v = false) (fun _ _ _ s' h => ⟨h.1.same s', h.2⟩) rfl rfl e3 (by omega) (fun H4 Qe s4 kk => ⟨_, rfl, a, ns, rfl, s4.seq S3, fun v H5 s5 av mv => kk _ _ s5 ⟨av, mv⟩⟩) (fun v c H' hv s' hc ec => ?_)
      exact ⟨by show 2 ≤ sizeLine; decide, fin _ c H' s' hc ec hv.1 (bad_odd hv.2)⟩
    dsimp only
    refine if_use (fun b H' => (b = true → gs ≠ []) ∧ Same H3 H') (fun Q' kk => ⟨_, rfl, rfl, _, rfl, ite2 (fun _ => ?_) (fun _ => kk _ _ ⟨fun h => (by cases h), Same.refl _⟩)⟩) (fun H4 h => ?_) (fun H4 h => next_to ?_)
    · refine ⟨_, rfl, by decide, fun p hp => ⟨gl, p, _, [], rfl, rfl, SqL.of ((same_of hp) _ _ g3), SqL.of upd_same, flat_strs _, rfl, _, rfl, kk _ _ ⟨fun h => ?_, same_of hp⟩⟩⟩
      rintro rfl
      cases h
    · obtain ⟨hne, s4⟩ := h
      have hne := hne rfl
      have gl0 : 0 < gs.length := List.length_pos_iff.mpr hne
      refine ins_use (fun v _ => ∃ g ∈ gs, v = .str g) (fun _ _ _ _ h => h) rfl rfl (s4 _ _ e3) (by omega) (fun H5 Qe s5 kk => ?_) (fun v c H' hv s' hc ec => ?_)
      · refine ⟨_, rfl, _, rfl, a, ns, 10, rfl, (s4.trans s5).seq S3, by decide, by decide, fun m H6 hm s6 => ?_⟩
        have g6 := ((s4.trans s5).trans s6) _ _ g3
        refine ⟨_, rfl, gl, _, rfl, .inl (SqL.of g6), _, _, rfl, rfl, by omega, ?_⟩
        obtain ⟨v, hv, hmem, _⟩ := atI_mem (xs := gs.map V.str) (i := m % ((gs.map V.str).length : Int)) (Int.emod_nonneg _ (by omega)) (Int.emod_lt_of_pos _ (by omega))
        obtain ⟨g, hg, rfl⟩ := List.mem_map.mp hmem
        exact ⟨gl, _, _, _, rfl, rfl, SqL.of g6, hv, kk _ _ s6 ⟨g, hg, rfl⟩⟩
      · obtain ⟨g, hg, rfl⟩ := hv
        exact ⟨by show 2 ≤ sizeLine; decide, fin _ c H' (s4.trans s') (same_none s4 hc) ec (Any.str (Nat.le_trans (name_len (gn g hg)).2 (by decide))) (bad_twice hg)⟩
    obtain ⟨_, s4⟩ := h
    have e4 := s4 _ _ e3
    have s04 := s3.trans s4
    dsimp only
    refine ⟨_, rfl, rfl, _, rfl, ite2 (fun _ => ?_) (fun _ => next_to ?_)⟩
    · have al := abi_len gs.length (by omega)
      refine ⟨_, rfl, _, rfl, l, _, rfl, .inl (SqL.of e4), _, rfl, ABI, rfl, by decide, _, rfl, ?_⟩
      rw [len]
      refine comp1_wk (wk_str _) (fun i ys H' => H4 = H' ∧ ys.length = i ∧ ∀ y ∈ ys, ∀ H', Any K H' y) ⟨rfl, rfl, fun y hy => by cases hy⟩ (fun i ys H' _ h => ⟨trivial, Nat.le_of_eq h.2.1⟩) (by rw [signsV_length, al]; exact Nat.le_trans (show 9 - gs.length ≤ 9 by omega) (by decide)) (fun i x ys H' Nx hx h kk => ?_) (fun ys H' h Dd hD => ?_)
      · obtain ⟨rfl, hl, ha⟩ := h
        unfold signsV at hx
        rw [List.getElem?_map] at hx
        obtain ⟨c, _, rfl⟩ := Option.map_eq_some_iff.mp hx
        refine tTrue_use ⟨_, _, rfl, rfl, by decide, by decide, by decide, _, rfl, _, _, rfl, rfl, ?_, kk _ _ ⟨rfl, by rw [List.length_append, hl]; rfl, fun y hy => ?_⟩⟩
        · show 5 + 1 ≤ sizeLine
          decide
        · rcases List.mem_append.mp hy with hy | hy
          · exact ha y hy
          · rw [List.mem_singleton.mp hy]
            exact fun H' => Any.str (by show 6 ≤ 100000; decide)
      · obtain ⟨rfl, hl, ha⟩ := h
        rw [signsV_length, al] at hl
        have sD : Same H4 (upd H4 Dd (.lst ys)) := same_of hD
        have eD : (upd H4 Dd (.lst ys)) Dd = some (.lst ys) := upd_same
        generalize upd H4 Dd (.lst ys) = H5 at sD eD
        refine ⟨l, Dd, _, _, rfl, rfl, sD _ _ e4, eD, ?_, fun c hc => ⟨by show 2 ≤ sizeLine; decide, fun t ht => ?_⟩⟩
        · rw [len, hl]
          exact Nat.le_trans (show gs.length + (9 - gs.length) ≤ 9 by omega) (by decide)
        · have sc : Same H5 (upd H5 c (.lst (gs.map V.str ++ ys))) := same_of hc
          have ec : (upd H5 c (.lst (gs.map V.str ++ ys))) c = some (.lst (gs.map V.str ++ ys)) := upd_same
          generalize upd H5 c (.lst (gs.map V.str ++ ys)) = H6 at sc ec ht
          have st : Same H6 (upd H6 t (.tup [.ref c, .bl false])) := same_of ht
          have s5 := s04.trans sD
          have ll : (gs.map V.str ++ ys).length = 9 := by rw [List.length_append, len, hl]; omega
          refine q t _ _ _ ((s5.trans sc).trans st) upd_same fun _ => .inr ⟨c, _, rfl, st _ _ ec, same_none s5 hc, fun y hy => ?_, by omega, bad_many (by omega)⟩
          rcases List.mem_append.mp hy with hy | hy
          · exact anyS y hy
          · exact ha y hy _
    dsimp only
    refine ⟨_, rfl, by show 2 ≤ sizeLine; decide, fun t ht => ?_⟩
    exact q t _ _ _ (s04.trans (same_of ht)) upd_same fun h => by cases h
end
end K02

set_option Elab.async false
set_option linter.all false
set_option maxRecDepth 100000
set_option maxHeartbeats 4000000
set_option pp.maxSteps 600
set_option pp.deepTerms false
namespace K02
open PySem L2 PyProof.Rows
abbrev lowV : List V := [.int 0, .int 1, .int 1, .int 0, .int 1]
abbrev topV : List V := [.int 99, .int 1000, .int 20, .int 1000, .int 4]
def Good (i : Nat) (y : V) : Prop := ∀ w lo hi, pw[i]? = some (w, lo, hi) → amongV y lo hi = true
def Bad (i : Nat) (y : V) : Prop := ∃ w lo hi, pw[i]? = some (w, lo, hi) ∧ amongV y lo hi = false
theorem okNums_of {ys : List V} (h : ∀ i y, ys[i]? = some y → Good i y) : okNums ys := fun i w lo hi y h1 h2 => h i y h2 w lo hi h1
theorem not_okNums {ys : List V} {i : Nat} {y : V} (h : ys[i]? = some y) (b : Bad i y) : ¬ okNums ys := fun ok => by
  obtain ⟨w, lo, hi, h1, h2⟩ := b
  rw [ok i w lo hi y h1 h] at h2
  cases h2
theorem pw_at {k : Nat} (h : k < 5) : ∃ w lo hi, pw[k]? = some (w, lo, hi) ∧ lowV[k]? = some (.int lo) ∧ topV[k]? = some (.int hi) ∧ 0 ≤ lo ∧ lo ≤ 1 ∧ lo ≤ hi ∧ hi ≤ 1000 ∧ hi.natAbs.log2 < 1920 ∧ (toString hi : Str).length ≤ 100000 := by
  match k, h with
  | 0, _ => exact ⟨_, _, _, rfl, rfl, rfl, by decide, by decide, by decide, by decide, by decide +kernel, by decide +kernel⟩
  | 1, _ => exact ⟨_, _, _, rfl, rfl, rfl, by decide, by decide, by decide, by decide, by decide +kernel, by decide +kernel⟩
  | 2, _ => exact ⟨_, _, _, rfl, rfl, rfl, by decide, by decide, by decide, by decide, by decide +kernel, by decide +kernel⟩
  | 3, _ => exact ⟨_, _, _, rfl, rfl, rfl, by decide, by decide, by decide, by decide, by decide +kernel, by decide +kernel⟩
  | 4, _ => exact ⟨_, _, _, rfl, rfl, rfl, by decide, by decide, by decide, by decide, by decide +kernel, by decide +kernel⟩
theorem good_int {k : Nat} {w : Str} {lo hi x : Int} (h : pw[k]? = some (w, lo, hi)) (h1 : lo ≤ x) (h2 : x ≤ hi) : Good k (.int x) := fun w' lo' hi' h' => by
  rw [h] at h'
  cases h'
  show (decide (lo ≤ x) && decide (x ≤ hi)) = true
  rw [decide_eq_true h1, decide_eq_true h2]
  rfl
theorem bad_int {k : Nat} {w : Str} {lo hi x : Int} (h : pw[k]? = some (w, lo, hi)) (h1 : x < lo ∨ hi < x) : Bad k (.int x) := ⟨w, lo, hi, h, by
  show (decide (lo ≤ x) && decide (x ≤ hi)) = false
  rcases h1 with h1 | h1
  · rw [decide_eq_false (by omega), Bool.false_and]
  · rw [decide_eq_false (p := x ≤ hi) (by omega), Bool.and_false]⟩
theorem any_upd {K : PySem.W.Frag} {H : Hp} {p : Addr} {xs xs' : List V} {y : V} (hp : H p = some (.lst xs)) (h : Any K H y) : Any K (upd H p (.lst xs')) y := by
  obtain ⟨⟨m, t⟩, z⟩ := h
  refine ⟨?_, z⟩
  have go : ∀ {b : Addr} {o : HO}, H b = some o → b ≠ p → (upd H p (.lst xs')) b = some o := fun e n => by rw [upd_ne n]; exact e
  cases t with
  | non => exact ⟨_, .non⟩
  | bl b => exact ⟨_, .bl b⟩
  | int i => exact ⟨_, .int i⟩
  | str s => exact ⟨_, .str s⟩
  | flt s => exact ⟨_, .flt s⟩
  | @lst b ys e =>
    by_cases hb : b = p
    · subst hb; exact ⟨_, .lst upd_same⟩
    · exact ⟨_, .lst (go e hb)⟩
  | frz e => exact ⟨_, .frz (go e fun z => by subst z; rw [hp] at e; cases e)⟩
  | tup e => exact ⟨_, .tup (go e fun z => by subst z; rw [hp] at e; cases e)⟩
  | dK e => exact ⟨_, .dK (go e fun z => by subst z; rw [hp] at e; cases e)⟩
  | dT e => exact ⟨_, .dT (go e fun z => by subst z; rw [hp] at e; cases e)⟩
section
variable {P : Program} {w : World} {K : PySem.W.Frag} {mg : Str → Option Value} {base : Heap}
def spNumber (K : PySem.W.Frag) : Sp := fun vs H Q _ => ∃ (a : Addr) (ns : List Int) (k : Nat), vs = [.ref a, .int (k : Int)] ∧ SqL K H a (ns.map V.int) ∧ k < 5 ∧ ∀ x H', Same H H' → Good k (.int x) → Q (.int x) H'
theorem ok_number (Df : Def K mg "_law_number" s__law_number ["_law_script", "_law_k"]) (k__law_mixed : Knows P w K mg base 1 "_law_mixed" ["_law_script", "_law_k"] (spMixed K)) : Knows P w K mg base 2 "_law_number" ["_law_script", "_law_k"] (spNumber K) := by
  refine Df.ok sc__law_number (fun vs H Q E h => ?_) (fun f cdv A outer s H vs Q E hr h => ?_)
  · obtain ⟨a, ns, k, rfl, _⟩ := h
    rfl
  · obtain ⟨a, ns, k, rfl, hS, hk, q⟩ := h
    obtain ⟨wd, lo, hi, h1, h2, h3, b0, b1, b2, b3, _, _⟩ := pw_at hk
    refine ⟨_, by exact (pss_cons (ps_set (i := 2) sc__law_number.nd rfl (Or.inl rfl) (pe_ix ix_list (pe_lst (pa_c pe_int (pa_c pe_int (pa_c pe_int (pa_c pe_int (pa_c pe_int pa_nil)))))) (pv 1) (fun _ _ => rfl)))
      (pss_cons (ps_set (i := 3) sc__law_number.nd rfl (Or.inl rfl) (pe_ix ix_list (pe_lst (pa_c pe_int (pa_c pe_int (pa_c pe_int (pa_c pe_int (pa_c pe_int pa_nil)))))) (pv 1) (fun _ _ => rfl)))
      (pss_cons (ps_set (i := 4) sc__law_number.nd rfl (Or.inl rfl) (pe_op op_mod (pe_callM k__law_mixed hr (pa_c (pv 0) (pa_c (pe_op op_add pe_int (pv 1)) pa_nil))) pe_int))
      (pss_cons (ps_if (pt_cmpR op_eq (pv 4) pe_int (nomark _)) (pss_one (ps_ret (pv 2))) pss_nil)
      (pss_cons (ps_if (pt_cmpR op_eq (pv 4) pe_int (nomark _)) (pss_one (ps_ret (pv 3))) pss_nil)
      (pss_one (ps_ret (pe_op op_add (pv 2) (pe_op op_mod (pe_callM k__law_mixed hr (pa_c (pv 0) (pa_c (pe_op op_add pe_int (pv 1)) pa_nil))) (pe_op op_add (pe_op op_sub (pv 3) (pv 2)) pe_int)))))))))), ?_⟩
    refine seq_use (fun v H' => v = .int lo ∧ Same H H') (fun Q' kk => ?_) ?_
    · exact ⟨(by show 5 ≤ sizeLine; decide), fun p hp => ⟨_, rfl, p, _, _, _, rfl, rfl, SqL.of upd_same, atI_nat h2, kk _ _ ⟨rfl, same_of hp⟩⟩⟩
    rintro _ H1 ⟨rfl, s1⟩
    refine seq_use (fun v H' => v = .int hi ∧ Same H H') (fun Q' kk => ?_) ?_
    · exact ⟨(by show 5 ≤ sizeLine; decide), fun p hp => ⟨_, rfl, p, _, _, _, rfl, rfl, SqL.of upd_same, atI_nat h3, kk _ _ ⟨rfl, s1.trans (same_of hp)⟩⟩⟩
    rintro _ H2 ⟨rfl, s2⟩
    refine seq_use (fun v H' => ∃ x : Int, v = .int x ∧ Same H H') (fun Q' kk => ?_) ?_
    · exact ⟨_, rfl, _, rfl, _, _, rfl, rfl, a, ns, _, rfl, s2.seq hS, by omega, by omega, fun m H3 hm s3 => ⟨_, _, rfl, rfl, by walk_at "m", kk _ _ ⟨_, rfl, s2.trans s3⟩⟩⟩
    rintro _ H3 ⟨x, rfl, s3⟩
    refine ⟨_, rfl, rfl, _, rfl, ite2 (fun _ => ⟨_, rfl, q _ _ s3 (good_int h1 (Int.le_refl _) b2)⟩) (fun _ => next_to ?_)⟩
    dsimp only
    refine ⟨_, rfl, rfl, _, rfl, ite2 (fun _ => ⟨_, rfl, q _ _ s3 (good_int h1 b2 (Int.le_refl _))⟩) (fun _ => next_to ?_)⟩
    dsimp only
    refine ⟨_, rfl, _, rfl, _, rfl, _, _, rfl, rfl, a, ns, _, rfl, s3.seq hS, by omega, by omega, fun m H4 hm s4 => ?_⟩
    refine ⟨_, rfl, _, rfl, _, _, rfl, rfl, _, _, rfl, rfl, _, _, rfl, rfl, by omega, _, _, rfl, rfl, q _ _ (s3.trans s4) (good_int h1 ?_ ?_)⟩
    · have := Int.emod_nonneg m (show hi - lo + 1 ≠ 0 by omega)
      omega
    · have := Int.emod_lt_of_pos m (show 0 < hi - lo + 1 by omega)
      omega
theorem num_comp {a : Addr} {ns : List Int} {r : L2.St} {H : Hp} {Q : VK} (hS : SqL K H a (ns.map V.int)) (q : ∀ nl ys H', Same H H' → H nl = none → H' nl = some (.lst ys) → ys.length = 5 → (∀ j y, ys[j]? = some y → Good j y) → Q (.ref nl) H') :
    tCompB 1 [0] (gName 0) tTrue (tCall (spNumber K) [] E0 (tCons (tVar 1) (tCons (tVar 0) tNil))) (some (.ref a) :: r) Q (Itr 0 5) H := by
  refine comp1_wk (wk_range 0 5) (fun i ys H' => Same H H' ∧ ys.length = i ∧ ∀ j y, ys[j]? = some y → Good j y) ⟨Same.refl _, rfl, fun j y h => by cases h⟩ (fun i ys H' _ h => ⟨trivial, Nat.le_of_eq h.2.1⟩) (by rw [rangeV_length]; decide) (fun i x ys H' Nx hx h kk => ?_) (fun ys H' h Dd hD => ?_)
  · obtain ⟨s1, hl, hg⟩ := h
    obtain ⟨hi, rfl⟩ := range_at hx
    refine tTrue_use ⟨_, rfl, _, rfl, a, ns, i, rfl, s1.seq hS, hi, fun x H2 s2 g => kk _ _ ⟨s1.trans s2, by rw [List.length_append, hl]; rfl, fun j y hj => ?_⟩⟩
    by_cases hji : j < ys.length
    · rw [List.getElem?_append_left hji] at hj
      exact hg j y hj
    · rw [List.getElem?_append_right (by omega)] at hj
      have : j - ys.length = 0 := by
        have := (List.getElem?_eq_some_iff.mp hj).1
        simpa using this
      rw [this] at hj
      cases hj
      have : j = i := by omega
      subst this
      exact g
  · obtain ⟨s1, hl, hg⟩ := h
    rw [rangeV_length] at hl
    exact q Dd ys _ (s1.trans (same_of hD)) (same_none s1 hD) upd_same hl hg
def spSpoilt (K : PySem.W.Frag) : Sp := fun vs H Q _ => ∃ (a : Addr) (ns : List Int) (k : Nat), vs = [.ref a, .int (k : Int)] ∧ SqL K H a (ns.map V.int) ∧ k < 5 ∧ ∀ v H', Same H H' → Any K H' v → Bad k v → Q v H'
abbrev spo1 (lo hi : Int) : List V := [.int (lo - 1), .int (hi + 1), .bl true, .non, .str (toString hi)]
abbrev spo2 (lo : Int) (b : Addr) : List V := [.ref b, .int (lo - 10 ^ (9 : Int).toNat), .int (10 ^ (12 : Int).toNat)]
theorem ok_spoilt (Df : Def K mg "_law_spoilt" s__law_spoilt ["_law_script", "_law_k"]) (B : Bltn mg) (k__law_mixed : Knows P w K mg base 1 "_law_mixed" ["_law_script", "_law_k"] (spMixed K)) : Knows P w K mg base 2 "_law_spoilt" ["_law_script", "_law_k"] (spSpoilt K) := by
  refine Df.ok sc__law_spoilt (fun vs H Q E h => ?_) (fun f cdv A outer s H vs Q E hr h => ?_)
  · obtain ⟨a, ns, k, rfl, _⟩ := h
    rfl
  · obtain ⟨a, ns, k, rfl, hS, hk, q⟩ := h
    obtain ⟨wd, lo, hi, h1, h2, h3, b0, b1, b2, b3, hlg, hsz⟩ := pw_at hk
    refine ⟨_, by exact (pss_cons (ps_set (i := 2) sc__law_spoilt.nd rfl (Or.inl rfl) (pe_ix ix_list (pe_lst (pa_c pe_int (pa_c pe_int (pa_c pe_int (pa_c pe_int (pa_c pe_int pa_nil)))))) (pv 1) (fun _ _ => rfl)))
      (pss_cons (ps_set (i := 3) sc__law_spoilt.nd rfl (Or.inl rfl) (pe_ix ix_list (pe_lst (pa_c pe_int (pa_c pe_int (pa_c pe_int (pa_c pe_int (pa_c pe_int pa_nil)))))) (pv 1) (fun _ _ => rfl)))
      (pss_cons (ps_set (i := 4) sc__law_spoilt.nd rfl (Or.inl rfl) (pe_lst (pa_c (pe_op op_sub (pv 2) pe_int) (pa_c (pe_op op_add (pv 3) pe_int) (pa_c pe_bl (pa_c pe_non (pa_c (pe_tcall call_str_int rfl B.str boot_str (pa_c (pv 3) pa_nil)) pa_nil)))))))
      (pss_cons (ps_set (i := 4) sc__law_spoilt.nd rfl (Or.inl rfl) (pe_op op_cat (pv 4) (pe_lst (pa_c (pe_lst (pa_c (pv 2) pa_nil)) (pa_c (pe_op op_sub (pv 2) (pe_op op_pow pe_int pe_int)) (pa_c (pe_op op_pow pe_int pe_int) pa_nil))))))
      (pss_one (ps_ret (pe_ix ix_list (pv 4) (pe_op op_mod (pe_callM k__law_mixed hr (pa_c (pv 0) (pa_c (pe_op op_add pe_int (pv 1)) pa_nil))) pe_int) (fun _ _ => rfl)))))))), ?_⟩
    refine seq_use (fun v H' => v = .int lo ∧ Same H H') (fun Q' kk => ?_) ?_
    · exact ⟨(by show 5 ≤ sizeLine; decide), fun p hp => ⟨_, rfl, p, _, _, _, rfl, rfl, SqL.of upd_same, atI_nat h2, kk _ _ ⟨rfl, same_of hp⟩⟩⟩
    rintro _ H1 ⟨rfl, s1⟩
    refine seq_use (fun v H' => v = .int hi ∧ Same H H') (fun Q' kk => ?_) ?_
    · exact ⟨(by show 5 ≤ sizeLine; decide), fun p hp => ⟨_, rfl, p, _, _, _, rfl, rfl, SqL.of upd_same, atI_nat h3, kk _ _ ⟨rfl, s1.trans (same_of hp)⟩⟩⟩
    rintro _ H2 ⟨rfl, s2⟩
    refine seq_use (fun v H' => ∃ c, v = .ref c ∧ H' c = some (.lst (spo1 lo hi)) ∧ Same H H') (fun Q' kk => ?_) ?_
    · exact ⟨_, rfl, _, _, rfl, rfl, _, rfl, _, _, rfl, rfl, _, rfl, _, rfl, hlg, (by show 5 ≤ sizeLine; decide), fun c hc => kk _ _ ⟨c, rfl, upd_same, s2.trans (same_of hc)⟩⟩
    rintro _ H3 ⟨c, rfl, e3, s3⟩
    refine seq_use (fun v H' => ∃ b d, v = .ref d ∧ H' d = some (.lst (spo1 lo hi ++ spo2 lo b)) ∧ H' b = some (.lst [.int lo]) ∧ Same H H') (fun Q' kk => ?_) ?_
    · refine ⟨_, rfl, _, rfl, (by show 1 ≤ sizeLine; decide), fun b hb => ?_⟩
      have t4 : Same H3 (upd H3 b (.lst [.int lo])) := same_of hb
      have e4 : (upd H3 b (.lst [.int lo])) b = some (.lst [.int lo]) := upd_same
      generalize upd H3 b (.lst [.int lo]) = H4 at t4 e4
      refine ⟨_, rfl, _, _, rfl, rfl, ⟨by decide, by decide, by decide⟩, _, _, rfl, rfl, _, _, rfl, rfl, ⟨by decide, by decide, by decide⟩, (by show 3 ≤ sizeLine; decide), fun g hg => ?_⟩
      have t5 : Same H4 (upd H4 g (.lst (spo2 lo b))) := same_of hg
      have e5 : (upd H4 g (.lst (spo2 lo b))) g = some (.lst (spo2 lo b)) := upd_same
      refine ⟨c, g, spo1 lo hi, spo2 lo b, rfl, rfl, t5 _ _ (t4 _ _ e3), e5, (by show 8 ≤ sizeLine; decide), fun d hd => ?_⟩
      have t6 := same_of (o := .lst (spo1 lo hi ++ spo2 lo b)) hd
      exact kk _ _ ⟨b, d, rfl, upd_same, t6 _ _ (t5 _ _ e4), ((s3.trans t4).trans t5).trans t6⟩
    rintro _ H4 ⟨b, d, rfl, e4, eb, s4⟩
    dsimp only
    refine ⟨_, rfl, _, rfl, _, rfl, _, _, rfl, rfl, a, ns, _, rfl, s4.seq hS, by omega, by omega, fun m H5 hm s5 => ⟨_, _, rfl, rfl, by walk_at "m", ?_⟩⟩
    obtain ⟨v, hv, hmem, _⟩ := atI_mem (xs := spo1 lo hi ++ spo2 lo b) (i := m % 8) (Int.emod_nonneg _ (by decide)) (Int.emod_lt_of_pos _ (by decide))
    refine ⟨d, _, _, v, rfl, rfl, SqL.of (s5 _ _ e4), hv, ?_⟩
    have el := s5 _ _ eb
    have fin : ∀ v, Any K H5 v → Bad k v → Q v H5 := fun v => q v _ (s4.trans s5)
    have p9 : (10 : Int) ^ (9 : Int).toNat = 1000000000 := by decide
    have p12 : (10 : Int) ^ (12 : Int).toNat = 1000000000000 := by decide
    simp only [spo1, spo2, List.cons_append, List.nil_append, List.mem_cons, List.not_mem_nil, or_false] at hmem
    rcases hmem with rfl | rfl | rfl | rfl | rfl | rfl | rfl | rfl
    · exact fin _ Any.int (bad_int h1 (by omega))
    · exact fin _ Any.int (bad_int h1 (by omega))
    · exact fin _ ⟨⟨_, .bl _⟩, fun _ e => by cases e⟩ ⟨_, _, _, h1, rfl⟩
    · exact fin _ ⟨⟨_, .non⟩, fun _ e => by cases e⟩ ⟨_, _, _, h1, rfl⟩
    · exact fin _ (Any.str hsz) ⟨_, _, _, h1, rfl⟩
    · exact fin _ ⟨⟨_, .lst el⟩, fun _ e => by cases e⟩ ⟨_, _, _, h1, rfl⟩
    · rw [p9]
      exact fin _ Any.int (bad_int h1 (by omega))
    · rw [p12]
      exact fin _ Any.int (bad_int h1 (by omega))
end
end K02

set_option Elab.async false
set_option linter.all false
set_option maxRecDepth 100000
set_option maxHeartbeats 4000000
set_option pp.maxSteps 600
set_option pp.deepTerms false
namespace K02
open PySem L2 PyProof.Rows
theorem five {ys : List V} (h : ys.length = 5) : ∃ y0 y1 y2 y3 y4, ys = [y0, y1, y2, y3, y4] := by
  match ys, h with
  | [y0, y1, y2, y3, y4], _ => exact ⟨y0, y1, y2, y3, y4, rfl⟩
def SpO (ys : List V) (sp : List Nat) : Prop := ∀ k ∈ sp, k < 5 ∧ ∃ y, ys[k]? = some y ∧ Bad k y
abbrev natV (sp : List Nat) : List V := sp.map fun k : Nat => V.int (k : Int)
section
variable {P : Program} {w : World} {K : PySem.W.Frag} {mg : Str → Option Value} {base : Heap}
def spNumbers (K : PySem.W.Frag) : Sp := fun vs H Q _ => ∃ (a : Addr) (ns : List Int), vs = [.ref a] ∧ SqL K H a (ns.map V.int) ∧ ∀ t nl sl ys (sp : List Nat) H', Same H H' → H' t = some (.tup [.ref nl, .ref sl]) → H' nl = some (.lst ys) → ys.length = 5 → H nl = none → H' sl = some (.lst (natV sp)) → sp.length ≤ 2 → (∀ y ∈ ys, Any K H' y) → SpO ys sp → Q (.ref t) H'
theorem ok_numbers (Df : Def K mg "_law_numbers" s__law_numbers ["_law_script"]) (B : Bltn mg) (k__law_mixed : Knows P w K mg base 1 "_law_mixed" ["_law_script", "_law_k"] (spMixed K)) (k__law_number : Knows P w K mg base 2 "_law_number" ["_law_script", "_law_k"] (spNumber K)) (k__law_spoilt : Knows P w K mg base 2 "_law_spoilt" ["_law_script", "_law_k"] (spSpoilt K)) :
    Knows P w K mg base 3 "_law_numbers" ["_law_script"] (spNumbers K) := by
  refine Df.ok sc__law_numbers (fun vs H Q E h => ?_) (fun f cdv A outer s H vs Q E hr h => ?_)
  · obtain ⟨a, ns, rfl, _⟩ := h
    rfl
  · obtain ⟨a, ns, rfl, hS, q⟩ := h
    refine ⟨_, by exact (pss_cons (ps_setC (i := 1) [0] ["_law_k", "_law_script"] sc__law_numbers.nd rfl (Or.inl rfl) rfl (pi_range1 rfl B.range (pa_c pe_int pa_nil)) (fun _ _ _ _ => pts_nil) (fun _ _ _ _ => (pe_callM k__law_number hr (pa_c (pv 1) (pa_c (pv 0) pa_nil)))))
      (pss_cons (ps_set (i := 2) sc__law_numbers.nd rfl (Or.inl rfl) (pe_lst pa_nil))
      (pss_cons (ps_if (pt_cmpR op_eq (pe_op op_mod (pe_callM k__law_mixed hr (pa_c (pv 0) (pa_c pe_int pa_nil))) pe_int) pe_int (nomark _)) (pss_one (ps_set (i := 2) sc__law_numbers.nd rfl (Or.inl rfl) (pe_lst (pa_c (pe_op op_mod (pe_callM k__law_mixed hr (pa_c (pv 0) (pa_c pe_int pa_nil))) pe_int) (pa_c (pe_op op_mod (pe_callM k__law_mixed hr (pa_c (pv 0) (pa_c pe_int pa_nil))) pe_int) pa_nil))))) pss_nil)
      (pss_cons (ps_for PassesOwn.never rfl (pi_list (pv 2)) (pg_name (i := 3) sc__law_numbers.nd rfl (Or.inl rfl)) (pss_one (ps_asg (pe_callM k__law_spoilt hr (pa_c (pv 0) (pa_c (pv 3) pa_nil))) (pg_sub (pv 1) (pv 3) set_list))))
      (pss_one (ps_ret (pe_tup (pa_c (pv 1) (pa_c (pv 2) pa_nil))))))))), ?_⟩
    refine seq_use (fun v H' => ∃ nl ys, v = .ref nl ∧ H nl = none ∧ H' nl = some (.lst ys) ∧ ys.length = 5 ∧ (∀ y ∈ ys, ∀ H2, Any K H2 y) ∧ Same H H') (fun Q' kk => ?_) ?_
    · refine ⟨5, rfl, by decide, by decide, ?_⟩
      refine num_comp hS fun nl ys H1 s1 hn e1 l5 hg => kk _ _ ⟨nl, ys, rfl, hn, e1, l5, fun y hy H2 => ?_, s1⟩
      obtain ⟨i, hi, rfl⟩ := List.mem_iff_getElem.mp hy
      obtain ⟨w, lo, hi', h1, _⟩ := pw_at (k := i) (by omega)
      obtain ⟨n, e, _⟩ := among_int (hg i ys[i] (List.getElem?_eq_getElem hi) w lo hi' h1)
      rw [e]
      exact Any.int
    rintro _ H1 ⟨nl, ys, rfl, hn0, e1, l5, an, s1⟩
    refine seq_use (fun v H' => ∃ l, v = .ref l ∧ H1 l = none ∧ H' l = some (.lst []) ∧ Same H1 H') (fun Q' kk => ⟨by decide, fun l hl => kk _ _ ⟨l, rfl, hl, upd_same, same_of hl⟩⟩) ?_
    rintro _ H2 ⟨l0, rfl, hl0, e2, s2⟩
    refine stm_use (fun σ' H' => ∃ (sl : Addr) (sp : List Nat), σ' = [some (.ref a), some (.ref nl), some (.ref sl), none] ∧ H' sl = some (.lst (natV sp)) ∧ H1 sl = none ∧ sp.length ≤ 2 ∧ (∀ k ∈ sp, k < 5) ∧ Same H1 H') (fun Q' kk => ?_) ?_
    · refine ⟨_, rfl, a, ns, 12, rfl, (s1.trans s2).seq hS, by decide, by decide, fun m H3 hm s3 => ⟨_, _, rfl, rfl, by walk_at "m", rfl, _, rfl, ite2 (fun _ => ?_) (fun _ => kk _ _ ⟨l0, [], rfl, s3 _ _ e2, hl0, by decide, (fun k hk => by cases hk), s2.trans s3⟩)⟩⟩
      have s23 := s2.trans s3
      refine ⟨_, rfl, a, ns, 13, rfl, (s1.trans s23).seq hS, by decide, by decide, fun m1 H4 hm1 s4 => ⟨_, _, rfl, rfl, by walk_at "m", ?_⟩⟩
      refine ⟨_, rfl, a, ns, 14, rfl, ((s1.trans s23).trans s4).seq hS, by decide, by decide, fun m2 H5 hm2 s5 => ⟨_, _, rfl, rfl, by walk_at "m", by show 2 ≤ sizeLine; decide, fun sl hsl => ?_⟩⟩
      have s15 := (s23.trans s4).trans s5
      refine kk _ _ ⟨sl, [(m1 % 5).toNat, (m2 % 5).toNat], rfl, ?_, same_none s15 hsl, Nat.le_refl _, fun k hk => ?_, s15.trans (same_of hsl)⟩
      · rw [upd_same]
        show some (HO.lst [V.int (m1 % 5), V.int (m2 % 5)]) = some (HO.lst [V.int ((m1 % 5).toNat : Int), V.int ((m2 % 5).toNat : Int)])
        rw [Int.toNat_of_nonneg (Int.emod_nonneg _ (by decide)), Int.toNat_of_nonneg (Int.emod_nonneg _ (by decide))]
      · simp only [List.mem_cons, List.not_mem_nil, or_false] at hk
        rcases hk with rfl | rfl <;> omega
    rintro _ H3 ⟨sl, sp, rfl, e3, hsl, l2, k5, s3⟩
    have hne : nl ≠ sl := ne_of_none e1 hsl
    dsimp only
    refine ⟨_, rfl, sl, rfl, ⟨_, SqL.of e3⟩, ?_⟩
    refine for_wk (wk_list K sl (natV sp)) (fun i σ H' => Same H H' ∧ H' sl = some (.lst (natV sp)) ∧ ∃ zs v3, σ = [some (.ref a), some (.ref nl), some (.ref sl), v3] ∧ H' nl = some (.lst zs) ∧ zs.length = 5 ∧ (∀ y ∈ zs, Any K H' y) ∧ SpO zs (sp.take i)) ⟨s1.trans s3, e3, ys, _, rfl, s3 _ _ e1, l5, fun y hy => an y hy _, fun k hk => by cases hk⟩ (fun i σ H' _ h => SqL.of h.2.1) ?_ ?_
    · rintro i x σ H4 hx ⟨s4, e4, zs, v3, rfl, en, zl, za, so⟩
      unfold natV at hx
      rw [List.getElem?_map] at hx
      obtain ⟨k, hk, rfl⟩ := Option.map_eq_some_iff.mp hx
      have hk5 := k5 k (List.mem_of_getElem? hk)
      refine ⟨_, rfl, _, rfl, a, ns, k, rfl, s4.seq hS, hk5, fun v H5 s5 av bv => ?_⟩
      have en5 := s5 _ _ en
      refine ⟨_, rfl, _, rfl, nl, zs, _, k, rfl, rfl, en5, ?_, ?_⟩
      · unfold ixN
        rw [if_pos (by omega), if_pos (by omega)]
        rfl
      · refine ⟨Same.upd (s4.trans s5) hn0, by rw [upd_ne (Ne.symm hne)]; exact s5 _ _ e4, zs.set k v, _, rfl, upd_same, by rw [List.length_set]; exact zl, fun y hy => ?_, fun k' hk' => ?_⟩
        · rcases List.mem_or_eq_of_mem_set hy with hy | rfl
          · exact any_upd en5 ((za y hy).same s5)
          · exact any_upd en5 av
        · rw [List.take_add_one, hk] at hk'
          rw [List.getElem?_set]
          by_cases hkk : k = k'
          · subst hkk
            exact ⟨hk5, v, by rw [if_pos rfl, if_pos (by omega)], bv⟩
          · rw [if_neg hkk]
            refine so k' ?_
            rcases List.mem_append.mp hk' with h | h
            · exact h
            · exact absurd (by simpa using h : k' = k).symm hkk
    · rintro σ H4 ⟨s4, e4, zs, v3, rfl, en, zl, za, so⟩
      refine ⟨_, rfl, _, rfl, by show 2 ≤ sizeLine; decide, fun t ht => ?_⟩
      have st : Same H4 (upd H4 t (.tup [.ref nl, .ref sl])) := same_of ht
      rw [List.length_map, List.take_length] at so
      exact q t nl sl zs sp _ (s4.trans st) upd_same (st _ _ en) zl hn0 (st _ _ e4) l2 (fun y hy => (za y hy).same st) so
end
end K02

set_option Elab.async false
set_option linter.all false
set_option maxRecDepth 100000
set_option maxHeartbeats 4000000
set_option pp.maxSteps 600
set_option pp.deepTerms false
namespace K02
open PySem L2 PyProof.Rows
/-- good needs beside the name z -/
structure GN (z : Str) (gs : List Str) : Prop where
  ok : okNeeds z (gs.map V.str) = true
  l8 : gs.length ≤ 8
  nm : ∀ g ∈ gs, isName g = true
theorem GN.nd {K : PySem.W.Frag} {H : Hp} {z : Str} {gs : List Str} {a : Addr} (h : GN z gs) (sq : Sq H a (gs.map V.str)) : Nd K H z (.ref a) (some gs) := .good sq (by have := h.l8; omega) h.ok fun k hk => Nat.le_trans (name_len (h.nm k hk)).2 (by decide)
def GoodL (ys : List V) : Prop := ys.length = 5 ∧ ∀ j y, ys[j]? = some y → Good j y
theorem GoodL.ok {ys : List V} (h : GoodL ys) : okNums ys := okNums_of h.2
theorem GoodL.ints {ys : List V} (h : GoodL ys) : ∃ a b c d e : Int, ys = [.int a, .int b, .int c, .int d, .int e] := by
  obtain ⟨y0, y1, y2, y3, y4, rfl⟩ := five h.1
  obtain ⟨a, b, c, d, e, rfl, rfl, rfl, rfl, rfl⟩ := nums_ints h.ok
  exact ⟨a, b, c, d, e, rfl⟩
theorem dfl_good : GoodL dfl := ⟨rfl, fun j y h => by
  match j, h with
  | 0, h => cases h; exact good_int (k := 0) rfl (by decide) (by decide)
  | 1, h => cases h; exact good_int (k := 1) rfl (by decide) (by decide)
  | 2, h => cases h; exact good_int (k := 2) rfl (by decide) (by decide)
  | 3, h => cases h; exact good_int (k := 3) rfl (by decide) (by decide)
  | 4, h => cases h; exact good_int (k := 4) rfl (by decide) (by decide)⟩
theorem mix_get {xs ys : List V} (hx : xs.length = 5) {c : Nat} (hc : c ≤ 5) (i : Nat) : (xs.take c ++ ys.drop c)[i]? = if i < c then xs[i]? else ys[i]? := by
  have hl : (xs.take c).length = c := by rw [List.length_take]; omega
  by_cases h : i < c
  · rw [if_pos h, List.getElem?_append_left (by omega), List.getElem?_take_of_lt h]
  · rw [if_neg h, List.getElem?_append_right (by omega), hl, List.getElem?_drop]
    congr 1
    omega
theorem mix_good {xs ys : List V} (hx : GoodL xs) (hy : GoodL ys) {c : Nat} (hc : c ≤ 5) : GoodL (xs.take c ++ ys.drop c) := by
  refine ⟨?_, fun j y h => ?_⟩
  · rw [List.length_append, List.length_take, List.length_drop, hx.1, hy.1]
    omega
  · rw [mix_get hx.1 hc] at h
    by_cases hj : j < c
    · rw [if_pos hj] at h; exact hx.2 j y h
    · rw [if_neg hj] at h; exact hy.2 j y h
theorem tol_good {ys : List V} (h : GoodL ys) {m : Nat} (hm : m ≤ 7) : GoodL (tol m ys) := mix_good h dfl_good (by omega)
theorem set_bad {ys : List V} (hl : ys.length = 5) {k : Nat} (hk : k < 5) {v : V} (b : Bad k v) : (ys.take k ++ [v] ++ ys.drop (k + 1)).length = 5 ∧ ¬ okNums (ys.take k ++ [v] ++ ys.drop (k + 1)) := by
  have h1 : (ys.take k).length = k := by rw [List.length_take]; omega
  refine ⟨?_, not_okNums (i := k) ?_ b⟩
  · simp only [List.length_append, List.length_drop, List.length_cons, List.length_nil, h1]
    omega
  · rw [List.append_assoc, List.getElem?_append_right (by omega), h1, Nat.sub_self]
    rfl
section
variable {P : Program} {w : World} {K : PySem.W.Frag} {mg : Str → Option Value} {base : Heap} {C : Addr} {D : Nat → Addr}
def spEdges (K : PySem.W.Frag) : Sp := fun vs H Q _ => ∃ (a gl rl : Addr) (ns : List Int) (z : Str) (gs : List Str) (ys : List V), vs = [.ref a, .str z, .ref gl, .ref rl] ∧ SqL K H a (ns.map V.int) ∧ isName z = true ∧ GN z gs ∧ H gl = some (.lst (gs.map V.str)) ∧ GoodL ys ∧ H rl = some (.lst ys) ∧ ∀ H', Same H H' → Q (.bl true) H'
theorem ok_edges (Df : Def K mg "_law_edges" s__law_edges ["_law_script", "_law_name", "_law_good", "_law_right"]) (k__law_mixed : Knows P w K mg base 1 "_law_mixed" ["_law_script", "_law_k"] (spMixed K))
    (k__law_refused : Knows P w K mg base 8 "_law_refused" ["_law_name", "_law_those", "_law_numbers_here", "_law_many", "_law_which"] (spRefused K)) : Knows P w K mg base 9 "_law_edges" ["_law_script", "_law_name", "_law_good", "_law_right"] (spEdges K) := by
  refine Df.ok sc__law_edges (fun vs H Q E h => ?_) (fun f cdv A outer s H vs Q E hr h => ?_)
  · obtain ⟨a, gl, rl, ns, z, gs, ys, rfl, _⟩ := h
    rfl
  · obtain ⟨a, gl, rl, ns, z, gs, ys, rfl, hS, zn, gn, hg, gy, hy, q⟩ := h
    refine ⟨_, by exact (pss_cons (ps_set (i := 4) sc__law_edges.nd rfl (Or.inl rfl) (pe_op op_mod (pe_callM k__law_mixed hr (pa_c (pv 0) (pa_c pe_int pa_nil))) pe_int))
      (pss_cons (ps_for PassesOwn.never rfl (pi_list (pe_lst (pa_c (pe_op op_sub (pe_ix ix_list (pe_lst (pa_c pe_int (pa_c pe_int (pa_c pe_int (pa_c pe_int (pa_c pe_int pa_nil)))))) (pv 4) (fun _ _ => rfl)) pe_int) (pa_c (pe_op op_add (pe_ix ix_list (pe_lst (pa_c pe_int (pa_c pe_int (pa_c pe_int (pa_c pe_int (pa_c pe_int pa_nil)))))) (pv 4) (fun _ _ => rfl)) pe_int) pa_nil)))) (pg_name (i := 5) sc__law_edges.nd rfl (Or.inl rfl)) (pss_one (ps_if (pt_not (pt_val (pe_callM k__law_refused hr (pa_c (pv 1) (pa_c (pv 2) (pa_c (pe_op op_cat (pe_op op_cat (pe_slice sl_list (pv 3) po_none (po_some (pv 4))) (pe_lst (pa_c (pv 5) pa_nil))) (pe_slice sl_list (pv 3) (po_some (pe_op op_add (pv 4) pe_int)) po_none)) (pa_c pe_int (pa_c pe_int pa_nil)))))))) (pss_one (ps_ret pe_bl)) pss_nil)))
      (pss_one (ps_ret pe_bl)))), ?_⟩
    have z30 : ∀ n, n ≤ 30 → n ≤ sizeLine := fun n h => Nat.le_trans h (by decide)
    refine seq_use (fun v H' => ∃ k : Nat, v = .int (k : Int) ∧ k < 5 ∧ Same H H') (fun Q' kk => ?_) ?_
    · refine ⟨_, rfl, a, ns, 18, rfl, hS, by decide, by decide, fun m H1 hm s1 => ⟨_, _, rfl, rfl, by walk_at "m", kk _ _ ⟨(m % 5).toNat, ?_, by omega, s1⟩⟩⟩
      rw [Int.toNat_of_nonneg (Int.emod_nonneg _ (by decide))]
    rintro _ H1 ⟨k, rfl, hk, s1⟩
    obtain ⟨wd, lo, hi, h1, h2, h3, b0, b1, b2, b3, _, _⟩ := pw_at hk
    refine ⟨by show 5 ≤ sizeLine; decide, fun p hp => ?_⟩
    have t2 : Same H1 (upd H1 p (.lst lowV)) := same_of hp
    have e2 : (upd H1 p (.lst lowV)) p = some (.lst lowV) := upd_same
    refine ⟨_, rfl, p, lowV, _, _, rfl, rfl, SqL.of e2, atI_nat h2, _, _, rfl, rfl, ?_⟩
    generalize upd H1 p (.lst lowV) = H2 at t2 e2
    refine ⟨by show 5 ≤ sizeLine; decide, fun p3 hp3 => ?_⟩
    have t3 : Same H2 (upd H2 p3 (.lst topV)) := same_of hp3
    have e3 : (upd H2 p3 (.lst topV)) p3 = some (.lst topV) := upd_same
    refine ⟨_, rfl, p3, topV, _, _, rfl, rfl, SqL.of e3, atI_nat h3, _, _, rfl, rfl, ?_⟩
    generalize upd H2 p3 (.lst topV) = H3 at t3 e3
    refine ⟨by show 2 ≤ sizeLine; decide, fun o ho => ?_⟩
    have t4 : Same H3 (upd H3 o (.lst [.int (lo - 1), .int (hi + 1)])) := same_of ho
    have e4 : (upd H3 o (.lst [.int (lo - 1), .int (hi + 1)])) o = some (.lst [.int (lo - 1), .int (hi + 1)]) := upd_same
    generalize upd H3 o (.lst [.int (lo - 1), .int (hi + 1)]) = H4 at t4 e4
    have s4 : Same H H4 := ((s1.trans t2).trans t3).trans t4
    refine ⟨o, rfl, ⟨_, SqL.of e4⟩, ?_⟩
    refine for_wk (wk_list K o [.int (lo - 1), .int (hi + 1)]) (fun i σ H' => Same H4 H' ∧ ∃ v5, σ = [some (.ref a), some (.str z), some (.ref gl), some (.ref rl), some (.int (k : Int)), v5]) ⟨Same.refl _, _, rfl⟩ (fun i σ H' _ h => SqL.of (h.1 _ _ e4)) ?_ (fun σ H' h => ?_)
    · rintro i x σ H5 hx ⟨s5, v5, rfl⟩
      obtain ⟨n, rfl, bd⟩ : ∃ n : Int, x = .int n ∧ Bad k (.int n) := by
        have := List.mem_of_getElem? hx
        simp only [List.mem_cons, List.not_mem_nil, or_false] at this
        rcases this with rfl | rfl
        · exact ⟨_, rfl, bad_int h1 (by omega)⟩
        · exact ⟨_, rfl, bad_int h1 (by omega)⟩
      have s05 := s4.trans s5
      have y5 := s05 _ _ hy
      obtain ⟨l5, nok⟩ := set_bad gy.1 hk bd
      refine ⟨_, rfl, _, rfl, _, rfl, _, rfl, _, rfl, rl, _, rfl, SqL.of y5, fun p1 hp1 => ?_⟩
      rw [cut_to]
      have u1 : Same H5 (upd H5 p1 (.lst (ys.take k))) := same_of hp1
      have f1 : (upd H5 p1 (.lst (ys.take k))) p1 = some (.lst (ys.take k)) := upd_same
      generalize upd H5 p1 (.lst (ys.take k)) = H6 at u1 f1
      refine ⟨_, rfl, by show 1 ≤ sizeLine; decide, fun p2 hp2 => ?_⟩
      have u2 : Same H6 (upd H6 p2 (.lst [.int n])) := same_of hp2
      have f2 : (upd H6 p2 (.lst [.int n])) p2 = some (.lst [.int n]) := upd_same
      generalize upd H6 p2 (.lst [.int n]) = H7 at u2 f2
      have lt1 : (ys.take k).length ≤ 5 := by rw [List.length_take]; omega
      refine ⟨p1, p2, _, _, rfl, rfl, u2 _ _ f1, f2, z30 _ (by show (ys.take k).length + 1 ≤ 30; omega), fun p4 hp4 => ?_⟩
      have u3 : Same H7 (upd H7 p4 (.lst (ys.take k ++ [.int n]))) := same_of hp4
      have f3 : (upd H7 p4 (.lst (ys.take k ++ [.int n]))) p4 = some (.lst (ys.take k ++ [.int n])) := upd_same
      generalize upd H7 p4 (.lst (ys.take k ++ [.int n])) = H8 at u3 f3
      have u13 := (u1.trans u2).trans u3
      refine ⟨_, rfl, _, rfl, _, _, rfl, rfl, _, rfl, rl, _, rfl, SqL.of (u13 _ _ y5), fun p5 hp5 => ?_⟩
      rw [show ((k : Int) + 1) = ((k + 1 : Nat) : Int) from rfl, cut_from]
      have u4 : Same H8 (upd H8 p5 (.lst (ys.drop (k + 1)))) := same_of hp5
      have f4 : (upd H8 p5 (.lst (ys.drop (k + 1)))) p5 = some (.lst (ys.drop (k + 1))) := upd_same
      generalize upd H8 p5 (.lst (ys.drop (k + 1))) = H9 at u4 f4
      have lt2 : (ys.drop (k + 1)).length ≤ 5 := by rw [List.length_drop, gy.1]; omega
      refine ⟨p4, p5, _, _, rfl, rfl, u4 _ _ f3, f4, z30 _ (by rw [List.length_append]; show (ys.take k).length + 1 + _ ≤ 30; omega), fun p6 hp6 => ?_⟩
      have u5 : Same H9 (upd H9 p6 (.lst (ys.take k ++ [.int n] ++ ys.drop (k + 1)))) := same_of hp6
      have f5 : (upd H9 p6 (.lst (ys.take k ++ [.int n] ++ ys.drop (k + 1)))) p6 = some (.lst (ys.take k ++ [.int n] ++ ys.drop (k + 1))) := upd_same
      generalize upd H9 p6 (.lst (ys.take k ++ [.int n] ++ ys.drop (k + 1))) = H10 at u5 f5
      have u15 := (u13.trans u4).trans u5
      have anyY : ∀ y ∈ ys.take k ++ [.int n] ++ ys.drop (k + 1), Any K H10 y := fun y hy => by
        obtain ⟨a', b', c', d', e', rfl⟩ := gy.ints
        have h5 : ∀ y ∈ [V.int a', .int b', .int c', .int d', .int e'], Any K H10 y := fun y hy => by
          simp only [List.mem_cons, List.not_mem_nil, or_false] at hy
          rcases hy with rfl | rfl | rfl | rfl | rfl <;> exact Any.int
        rcases List.mem_append.mp hy with hy | hy
        · rcases List.mem_append.mp hy with hy | hy
          · exact h5 y (List.mem_of_mem_take hy)
          · rw [List.mem_singleton.mp hy]; exact Any.int
        · exact h5 y (List.mem_of_mem_drop hy)
      generalize ys.take k ++ [.int n] ++ ys.drop (k + 1) = zs at l5 nok f5 anyY
      obtain ⟨z0, z1, z2, z3, z4, rfl⟩ := five l5
      refine ⟨.str z, .ref gl, p6, 7, 2, z0, z1, z2, z3, z4, rfl, by decide, by decide, f5, Any.str (Nat.le_trans (name_len zn).2 (by decide)), anyY, .nums rfl zn (gn.nd (.inl ((s05.trans u15) _ _ hg))) nok, fun H' s' => ⟨_, rfl, iteF ⟨s5.trans (u15.trans s'), _, rfl⟩⟩⟩
    · exact q _ (s4.trans h.1)
end
end K02

set_option Elab.async false
set_option linter.all false
set_option maxRecDepth 100000
set_option maxHeartbeats 4000000
set_option pp.maxSteps 600
set_option pp.deepTerms false
namespace K02
open PySem L2 PyProof.Rows
theorem JobL.ne {C : Addr} {H : Hp} {p l : Addr} {j : Jb} (h : JobL C H p l j) {b : Addr} (hb : b ≠ p) (hc : b ≠ l) {o : HO} : JobL C (upd H b o) p l j := by
  obtain ⟨⟨dx, e⟩, f⟩ := h
  exact ⟨⟨dx, by rw [upd_ne (Ne.symm hb)]; exact e⟩, by rw [upd_ne (Ne.symm hc)]; exact f⟩
def ds (m : Nat) (gs : List Str) : List Str := if 2 ≤ m then gs else []
theorem eff_nd {K : PySem.W.Frag} {H : Hp} {z : Str} {gs : List Str} {a : Addr} {m : Nat} (h : GN z gs) (sq : Sq H a (gs.map V.str)) : Nd K H z (effN m (.ref a)) (some (ds m gs)) := by
  unfold effN ds
  by_cases hm : 2 ≤ m
  · rw [if_pos hm, if_pos hm]; exact h.nd sq
  · rw [if_neg hm, if_neg hm]; exact .non
theorem eff_non {K : PySem.W.Frag} {H : Hp} {z : Str} {m : Nat} : Nd K H z (effN m .non) (some []) := by
  unfold effN
  by_cases hm : 2 ≤ m
  · rw [if_pos hm]; exact .non
  · rw [if_neg hm]; exact .non
/-- what stands through _law_made -/
structure Fr (H : Hp) (gl rl dl tl : Addr) (gs : List Str) (ys : List V) (m : Nat) : Prop where
  g : H gl = some (.lst (gs.map V.str))
  r : H rl = some (.lst ys)
  d : H dl = some (.lst ((ds m gs).map V.str))
  t : H tl = some (.lst (tol m ys))
theorem Fr.same {H H' : Hp} {gl rl dl tl : Addr} {gs : List Str} {ys : List V} {m : Nat} (h : Fr H gl rl dl tl gs ys m) (s : Same H H') : Fr H' gl rl dl tl gs ys m := ⟨s _ _ h.g, s _ _ h.r, s _ _ h.d, s _ _ h.t⟩
theorem Fr.upd {H0 H : Hp} {gl rl dl tl : Addr} {gs : List Str} {ys : List V} {m : Nat} (h : Fr H gl rl dl tl gs ys m) (h0 : Fr H0 gl rl dl tl gs ys m) {b : Addr} (hb : H0 b = none) {o : HO} : Fr (L2.upd H b o) gl rl dl tl gs ys m :=
  ⟨by rw [upd_ne (ne_of_none h0.g hb)]; exact h.g, by rw [upd_ne (ne_of_none h0.r hb)]; exact h.r, by rw [upd_ne (ne_of_none h0.d hb)]; exact h.d, by rw [upd_ne (ne_of_none h0.t hb)]; exact h.t⟩
theorem Fr.tn {H : Hp} {gl rl dl tl : Addr} {gs : List Str} {ys : List V} {m : Nat} {a b c d e : Int} (h : Fr H gl rl dl tl gs ys m) (ht : tol m ys = [.int a, .int b, .int c, .int d, .int e]) {z : Str} {ks : List Str} : H tl = some (.lst (Jb.nums ⟨z, ks, a, b, c, d, e⟩)) := by
  rw [h.t, ht]
  rfl
section
variable {P : Program} {w : World} {K : PySem.W.Frag} {mg : Str → Option Value} {base : Heap} {C : Addr} {D : Nat → Addr}
def spMade (K : PySem.W.Frag) : Sp := fun vs H Q _ => ∃ (gl rl : Addr) (z : Str) (gs : List Str) (ys : List V) (m : Nat), vs = [.str z, .ref gl, .ref rl, .int (m : Int)] ∧ isName z = true ∧ GN z gs ∧ H gl = some (.lst (gs.map V.str)) ∧ GoodL ys ∧ H rl = some (.lst ys) ∧ 1 ≤ m ∧ m ≤ 7 ∧ ∀ H', Same H H' → Q (.bl true) H'
theorem ok_made (Df : Def K mg "_law_made" s__law_made ["_law_name", "_law_those", "_law_numbers_here", "_law_many"]) (B : Bj mg) (mgMax : mg "max" = none) (J : JCls K mg C) (kj : KnowsIB (CX1 P w base) P w K mg base 5 C jps (spJob K C D) JForms)
    (k__law_job : KnowsX P w K mg base 7 "_law_job" ["_law_name", "_law_those", "_law_numbers_here", "_law_many"] (spLJob K C D)) (k__law_is : Knows P w K mg base 1 "_law_is" ["_law_job_here", "_law_name", "_law_those", "_law_numbers_here"] (spIs K C)) :
    Knows P w K mg base 8 "_law_made" ["_law_name", "_law_those", "_law_numbers_here", "_law_many"] (spMade K) := by
  refine Df.ok sc__law_made (fun vs H Q E h => ?_) (fun f cdv A outer s H vs Q E hr h => ?_)
  · obtain ⟨gl, rl, z, gs, ys, m, rfl, _⟩ := h
    rfl
  · obtain ⟨gl, rl, z, gs, ys, m, rfl, zn, gn, hg, gy, hy, m1, m7, q⟩ := h
    have hu := hu0 hr
    refine ⟨_, by exact (pss_cons (ps_set (i := 4) sc__law_made.nd rfl (Or.inl rfl) (pe_ifExp (pt_cmpR op_gt (pv 3) pe_int (nomark _)) (pv 1) (pe_lst pa_nil)))
      (pss_cons (ps_set (i := 5) sc__law_made.nd rfl (Or.inl rfl) (pe_bcall (call_max2 rfl) rfl mgMax boot_max (pa_c pe_int (pa_c (pe_op op_sub (pv 3) pe_int) pa_nil))))
      (pss_cons (ps_set (i := 6) sc__law_made.nd rfl (Or.inl rfl) (pe_op op_cat (pe_slice sl_list (pv 2) po_none (po_some (pv 5))) (pe_slice sl_list (pe_lst (pa_c pe_int (pa_c pe_int (pa_c pe_int (pa_c pe_int (pa_c pe_int pa_nil)))))) (po_some (pv 5)) po_none)))
      (pss_cons (ps_set (i := 7) sc__law_made.nd rfl (Or.inl rfl) (pe_tcall call_list_of rfl B.b.list boot_list (pa_c (pv 1) pa_nil)))
      (pss_cons (ps_set (i := 8) sc__law_made.nd rfl (Or.inl rfl) (pe_callX k__law_job hr pass1N (pa_c (pv 0) (pa_c (pv 7) (pa_c (pv 2) (pa_c (pv 3) pa_nil))))))
      (pss_cons (ps_if (PW.pt (pw_or (pt_not (pt_val (pe_callM k__law_is hr (pa_c (pv 8) (pa_c (pv 0) (pa_c (pv 4) (pa_c (pv 6) pa_nil))))))) (pw_or1 (pt_cmpR (op_neL hu) (pv 7) (pv 1) (nomark _))))) (pss_one (ps_ret pe_bl)) pss_nil)
      (pss_cons (ps_expr (pe_bm0 PySem.F.plainAttrs_list PySem.F.slot_list_clear PySem.F.type_list_clear mt_clear (pv 7)))
      (pss_cons (ps_set (i := 9) sc__law_made.nd rfl (Or.inl rfl) (pe_callX k__law_job hr pass1N (pa_c (pv 0) (pa_c (pe_tcall call_tuple_of rfl B.tuple boot_tuple (pa_c (pv 1) pa_nil)) (pa_c (pv 2) (pa_c (pv 3) pa_nil))))))
      (pss_cons (ps_if (PW.pt (pw_or (pt_not (pt_val (pe_callM k__law_is hr (pa_c (pv 8) (pa_c (pv 0) (pa_c (pv 4) (pa_c (pv 6) pa_nil))))))) (pw_or1 (pt_not (pt_val (pe_callM k__law_is hr (pa_c (pv 9) (pa_c (pv 0) (pa_c (pv 4) (pa_c (pv 6) pa_nil)))))))))) (pss_one (ps_ret pe_bl)) pss_nil)
      (pss_cons (ps_set (i := 10) sc__law_made.nd rfl (Or.inl rfl) (pe_makeB kj (fun _ h => h.fa) hr J.mgC pass1N (pa_c (pv 0) pa_nil) (pk_cons (pe_ix ix_list (pv 2) pe_int (fun _ _ => rfl)) (pk_cons (pe_ix ix_list (pv 2) pe_int (fun _ _ => rfl)) (pk_cons (pe_tcall call_list_of rfl B.b.list boot_list (pa_c (pv 1) pa_nil)) pk_nil)))))
      (pss_cons (ps_if (pt_not (pt_val (pe_callM k__law_is hr (pa_c (pv 10) (pa_c (pv 0) (pa_c (pv 1) (pa_c (pe_op op_cat (pe_slice sl_list (pv 2) po_none (po_some pe_int)) (pe_lst (pa_c pe_int (pa_c pe_int (pa_c pe_int pa_nil))))) pa_nil))))))) (pss_one (ps_ret pe_bl)) pss_nil)
      (pss_cons (ps_set (i := 10) sc__law_made.nd rfl (Or.inl rfl) (pe_makeB kj (fun _ h => h.fb) hr J.mgC pass1N (pa_c (pv 0) pa_nil) (pk_cons (pe_ix ix_list (pv 2) pe_int (fun _ _ => rfl)) (pk_cons (pe_ix ix_list (pv 2) pe_int (fun _ _ => rfl)) (pk_cons (pe_ix ix_list (pv 2) pe_int (fun _ _ => rfl)) pk_nil)))))
      (pss_cons (ps_if (pt_not (pt_val (pe_callM k__law_is hr (pa_c (pv 10) (pa_c (pv 0) (pa_c (pe_lst pa_nil) (pa_c (pe_op op_cat (pe_lst (pa_c pe_int (pa_c pe_int pa_nil))) (pe_slice sl_list (pv 2) (po_some pe_int) po_none)) pa_nil))))))) (pss_one (ps_ret pe_bl)) pss_nil)
      (pss_cons (ps_expr (pe_mcall PySem.F.plainAttrs_list PySem.F.slot_list_append PySem.F.type_list_append mt_append (pe_fld (pv 8) rfl) (pa_c pe_str pa_nil)))
      (pss_cons (ps_if (PW.pt (pw_and (pt_cmpR (op_eqL hu) (pv 1) (pe_lst pa_nil) (nomark _)) (pw_and1 (pt_not (pt_val (pe_callM k__law_is hr (pa_c (pe_callX k__law_job hr pass1N (pa_c (pv 0) (pa_c pe_non (pa_c (pv 2) (pa_c (pv 3) pa_nil))))) (pa_c (pv 0) (pa_c (pe_lst pa_nil) (pa_c (pv 6) pa_nil)))))))))) (pss_one (ps_ret pe_bl)) pss_nil)
      (pss_cons (ps_if (pt_not (pt_val (pe_callM k__law_is hr (pa_c (pv 9) (pa_c (pv 0) (pa_c (pv 4) (pa_c (pv 6) pa_nil))))))) (pss_one (ps_ret pe_bl)) pss_nil)
      (pss_one (ps_ret (pe_callM k__law_is hr (pa_c (pe_callX k__law_job hr pass1N (pa_c (pv 0) (pa_c (pv 1) (pa_c (pv 2) (pa_c (pv 3) pa_nil))))) (pa_c (pv 0) (pa_c (pv 4) (pa_c (pv 6) pa_nil))))))))))))))))))))))), ?_⟩
    have z30 : ∀ n, n ≤ 30 → n ≤ sizeLine := fun n h => Nat.le_trans h (by decide)
    obtain ⟨ja, jb, jc, jd, je, hto⟩ := (tol_good gy m7).ints
    obtain ⟨n0, n1, n2, n3, n4, hys⟩ := gy.ints
    have oky := gy.ok
    have okt := (tol_good gy m7).ok
    refine seq_use (fun v H' => ∃ dl, v = .ref dl ∧ H' dl = some (.lst ((ds m gs).map V.str)) ∧ Same H H') (fun Q' kk => ?_) ?_
    · refine ⟨_, rfl, _, _, rfl, rfl, _, rfl, ite2 (fun h => ?_) (fun h => ?_)⟩
      · have h2 : 2 ≤ m := by have := of_decide_eq_true h; omega
        exact ⟨_, rfl, kk _ _ ⟨gl, rfl, by unfold ds; rw [if_pos h2]; exact hg, Same.refl _⟩⟩
      · have h2 : ¬ 2 ≤ m := fun h2 => h (decide_eq_true (by omega))
        exact ⟨by decide, fun p hp => kk _ _ ⟨p, rfl, by unfold ds; rw [if_neg h2]; exact upd_same, same_of hp⟩⟩
    rintro _ H1 ⟨dl, rfl, e1, s1⟩
    refine seq_use (fun v H' => v = .int ((m - 2 : Nat) : Int) ∧ H1 = H') (fun Q' kk => ?_) ?_
    · refine ⟨_, rfl, _, _, rfl, rfl, _, _, rfl, kk _ _ ⟨?_, rfl⟩⟩
      by_cases h2 : (m : Int) - 2 > 0
      · rw [if_pos h2]
        congr 1
        omega
      · rw [if_neg h2]
        congr 1
        omega
    rintro _ _ ⟨rfl, rfl⟩
    have ll1 : (ys.take (m - 2)).length ≤ 5 := by rw [List.length_take, gy.1]; omega
    have ll2 : (dfl.drop (m - 2)).length ≤ 5 := by rw [List.length_drop]; show 5 - (m - 2) ≤ 5; omega
    refine seq_use (fun v H' => ∃ tl, v = .ref tl ∧ H' tl = some (.lst (tol m ys)) ∧ Same H1 H') (fun Q' kk => ?_) ?_
    · refine ⟨_, rfl, _, rfl, _, rfl, rl, _, rfl, SqL.of (s1 _ _ hy), fun p1 hp1 => ?_⟩
      rw [cut_to]
      have t1 : Same H1 (upd H1 p1 (.lst (ys.take (m - 2)))) := same_of hp1
      have f1 : (upd H1 p1 (.lst (ys.take (m - 2)))) p1 = some (.lst (ys.take (m - 2))) := upd_same
      generalize upd H1 p1 (.lst (ys.take (m - 2))) = H2 at t1 f1
      refine ⟨by show 5 ≤ sizeLine; decide, fun p2 hp2 => ?_⟩
      have t2 : Same H2 (upd H2 p2 (.lst dfl)) := same_of hp2
      have f2 : (upd H2 p2 (.lst dfl)) p2 = some (.lst dfl) := upd_same
      refine ⟨_, rfl, _, rfl, p2, dfl, rfl, SqL.of f2, fun p3 hp3 => ?_⟩
      generalize upd H2 p2 (.lst dfl) = H3 at t2 f2 hp3
      rw [cut_from]
      have t3 : Same H3 (upd H3 p3 (.lst (dfl.drop (m - 2)))) := same_of hp3
      have f3 : (upd H3 p3 (.lst (dfl.drop (m - 2)))) p3 = some (.lst (dfl.drop (m - 2))) := upd_same
      refine ⟨p1, p3, _, _, rfl, rfl, t3 _ _ (t2 _ _ f1), f3, z30 _ (by omega), fun p4 hp4 => ?_⟩
      exact kk _ _ ⟨p4, rfl, upd_same, ((t1.trans t2).trans t3).trans (same_of hp4)⟩
    rintro _ H2 ⟨tl, rfl, e2, s2⟩
    have F2 : Fr H2 gl rl dl tl gs ys m := ⟨(s1.trans s2) _ _ hg, (s1.trans s2) _ _ hy, s2 _ _ e1, e2⟩
    have s02 := s1.trans s2
    clear s1 s2 e1 e2
    refine seq_use (fun v H' => ∃ hd, v = .ref hd ∧ H2 hd = none ∧ H' hd = some (.lst (gs.map V.str)) ∧ Same H2 H') (fun Q' kk => ?_) ?_
    · exact ⟨_, rfl, gl, _, rfl, .inl (SqL.of F2.g), fun l hl => kk _ _ ⟨l, rfl, hl, upd_same, same_of hl⟩⟩
    rintro _ H3 ⟨hd, rfl, hd2, e3, s3⟩
    have F3 := F2.same s3
    obtain ⟨y0, y1, y2, y3, y4, hyy⟩ := five gy.1
    have mkj : ∀ {H : Hp} {nd : V} {ks : List Str} {Q : VK} {E : XK}, Nd K H z (effN m nd) (some ks) → (∀ p l H', H p = none → H l = none → Same H H' → JobL C H' p l ⟨z, ks, ja, jb, jc, jd, je⟩ → Q (.ref p) H') → JobQ K C D H (.str z) (effN m nd) (tol m [y0, y1, y2, y3, y4]) Q E := fun nd k => by
      rw [← hyy]
      exact JobQ.good hto zn nd okt k
    refine seq_use (fun v H' => ∃ p l, v = .ref p ∧ H3 p = none ∧ H3 l = none ∧ JobL C H' p l ⟨z, ds m gs, ja, jb, jc, jd, je⟩ ∧ Same H3 H') (fun Q' kk => ?_) ?_
    · exact ⟨_, rfl, _, rfl, _, rfl, _, rfl, .str z, .ref hd, rl, m, y0, y1, y2, y3, y4, rfl, m1, m7, hyy ▸ F3.r, mkj (eff_nd gn (.inl e3)) fun p l H' hp hl s' jl => kk _ _ ⟨p, l, rfl, hp, hl, jl, s'⟩⟩
    rintro _ H4 ⟨p1, l1, rfl, np1, nl1, j4, s4⟩
    have F4 := F3.same s4
    refine if_use (fun b H' => b = false ∧ Same H4 H') (fun Q' kk => ⟨_, rfl, _, rfl, _, rfl, _, rfl, p1, l1, dl, tl, _, rfl, j4, F4.d, F4.tn hto, fun H5 s5 => ⟨_, rfl, iteF ?_⟩⟩) (fun H' h => by cases h.1) (fun H5 ⟨_, s5⟩ => next_to ?_)
    · refine ⟨_, rfl, _, rfl, hd, gl, _, _, rfl, rfl, SqL.of ((s4.trans s5) _ _ e3), SqL.of (s5 _ _ F4.g), flat_strs _, flat_strs _, _, rfl, kk _ _ ⟨?_, s5⟩⟩
      rw [if_pos rfl, eqL_refl (flat_strs _)]
      rfl
    have F5 := F4.same s5
    have j5 := j4.same s5
    have e5 := (s4.trans s5) _ _ e3
    have s25 := (s3.trans s4).trans s5
    dsimp only
    refine ⟨_, rfl, .inl ⟨rfl, _, SqL.of e5⟩, hd, _, rfl, rfl, e5, ?_⟩
    have F6 : Fr (upd H5 hd (.lst [])) gl rl dl tl gs ys m := F5.upd F2 hd2
    have hp1 : hd ≠ p1 := ne_of_none e3 np1
    have hl1 : hd ≠ l1 := ne_of_none e3 nl1
    have j6 : JobL C (upd H5 hd (.lst [])) p1 l1 ⟨z, ds m gs, ja, jb, jc, jd, je⟩ := j5.ne hp1 hl1
    have s6 : Same H (upd H5 hd (.lst [])) := Same.upd (s02.trans s25) (same_none s02 hd2)
    have nl1' : H2 l1 = none := same_none s3 nl1
    generalize upd H5 hd (.lst []) = H6 at F6 j6 s6
    clear F5 j5 e5 s25 s5 F4 j4
    dsimp only
    have i0 : atI ys 0 = some (.int n0) := by rw [hys]; rfl
    have i1 : atI ys 1 = some (.int n1) := by rw [hys]; rfl
    have i2 : atI ys 2 = some (.int n2) := by rw [hys]; rfl
    have i3 : atI ys 3 = some (.int n3) := by rw [hys]; rfl
    have i4 : atI ys 4 = some (.int n4) := by rw [hys]; rfl
    have cA : cutV ys none (some 2) = [.int n0, .int n1] := by rw [hys]; rfl
    have cB : cutV ys (some 2) none = [.int n2, .int n3, .int n4] := by rw [hys]; rfl
    have okA : okNums [.int n0, .int n1, .int 1, .int 0, .int 1] := by
      have := (mix_good gy dfl_good (c := 2) (by decide)).ok
      rw [hys] at this
      exact this
    have okB : okNums [.int 0, .int 1, .int n2, .int n3, .int n4] := by
      have := (mix_good dfl_good gy (c := 2) (by decide)).ok
      rw [hys] at this
      exact this
    refine seq_use (fun v H' => ∃ p l, v = .ref p ∧ H6 p = none ∧ H6 l = none ∧ JobL C H' p l ⟨z, ds m gs, ja, jb, jc, jd, je⟩ ∧ Same H6 H') (fun Q' kk => ?_) ?_
    · refine ⟨_, rfl, _, rfl, gl, _, rfl, .inl ⟨SqL.of F6.g, fun tu htu => ?_⟩⟩
      have st : Same H6 (upd H6 tu (.tup (gs.map V.str))) := same_of htu
      have et : (upd H6 tu (.tup (gs.map V.str))) tu = some (.tup (gs.map V.str)) := upd_same
      generalize upd H6 tu (.tup (gs.map V.str)) = H7 at st et
      exact ⟨_, rfl, _, rfl, .str z, .ref tu, rl, m, y0, y1, y2, y3, y4, rfl, m1, m7, hyy ▸ (F6.same st).r, mkj (eff_nd gn (.inr et)) fun p l H' hp hl s' jl => kk _ _ ⟨p, l, rfl, same_none st hp, same_none st hl, jl, st.trans s'⟩⟩
    rintro _ H7 ⟨p2, l2, rfl, np2, nl2, k7, s7⟩
    have F7 := F6.same s7
    have j7 := j6.same s7
    refine if_use (fun b H' => b = false ∧ Same H7 H') (fun Q' kk => ⟨_, rfl, _, rfl, _, rfl, _, rfl, p1, l1, dl, tl, _, rfl, j7, F7.d, F7.tn hto, fun H8 s8 => ⟨_, rfl, iteF ⟨_, rfl, _, rfl, _, rfl, _, rfl, p2, l2, dl, tl, _, rfl, k7.same s8, (F7.same s8).d, (F7.same s8).tn hto, fun H9 s9 => ⟨_, rfl, kk _ _ ⟨rfl, s8.trans s9⟩⟩⟩⟩⟩) (fun H' h => by cases h.1) (fun H8 ⟨_, s8⟩ => next_to ?_)
    have F8 := F7.same s8
    have s68 := s7.trans s8
    dsimp only
    refine seq_use (fun v H' => ∃ p l, v = .ref p ∧ JobL C H' p l ⟨z, gs, n0, n1, 1, 0, 1⟩ ∧ Same H8 H') (fun Q' kk => ?_) ?_
    · refine ⟨_, rfl, _, rfl, rl, _, 1, _, rfl, rfl, SqL.of F8.r, i1, _, rfl, rl, _, 0, _, rfl, rfl, SqL.of F8.r, i0, _, rfl, gl, _, rfl, .inl (SqL.of F8.g), fun u hu => ?_⟩
      have su : Same H8 (upd H8 u (.lst (gs.map V.str))) := same_of hu
      have eu : (upd H8 u (.lst (gs.map V.str))) u = some (.lst (gs.map V.str)) := upd_same
      generalize upd H8 u (.lst (gs.map V.str)) = H9 at su eu
      exact ⟨rfl, rfl, fun x dx hx hdx hne => mk_job hx hdx hne (JobQ.good rfl zn (gn.nd (.inl eu)) okA fun p l H' hp hl s' jl => kk _ _ ⟨p, l, rfl, jl, su.trans s'⟩)⟩
    rintro _ H9 ⟨p3, l3, rfl, j9, s9⟩
    have F9 := F8.same s9
    refine if_use (fun b H' => b = false ∧ Same H9 H') (fun Q' kk => ?_) (fun H' h => by cases h.1) (fun H10 ⟨_, s10⟩ => next_to ?_)
    · refine ⟨_, rfl, _, rfl, _, rfl, _, rfl, _, rfl, rl, _, rfl, SqL.of F9.r, fun q1 hq1 => ?_⟩
      rw [cA]
      have u1 : Same H9 (upd H9 q1 (.lst [.int n0, .int n1])) := same_of hq1
      have f1 : (upd H9 q1 (.lst [.int n0, .int n1])) q1 = some (.lst [.int n0, .int n1]) := upd_same
      generalize upd H9 q1 (.lst [.int n0, .int n1]) = G1 at u1 f1
      refine ⟨by show 3 ≤ sizeLine; decide, fun q2 hq2 => ?_⟩
      have u2 : Same G1 (upd G1 q2 (.lst [.int 1, .int 0, .int 1])) := same_of hq2
      have f2 : (upd G1 q2 (.lst [.int 1, .int 0, .int 1])) q2 = some (.lst [.int 1, .int 0, .int 1]) := upd_same
      generalize upd G1 q2 (.lst [.int 1, .int 0, .int 1]) = G2 at u2 f2
      refine ⟨q1, q2, _, _, rfl, rfl, u2 _ _ f1, f2, by show 5 ≤ sizeLine; decide, fun q3 hq3 => ?_⟩
      have u3 : Same G2 (upd G2 q3 (.lst [.int n0, .int n1, .int 1, .int 0, .int 1])) := same_of hq3
      have u := (u1.trans u2).trans u3
      exact ⟨p3, l3, gl, q3, ⟨z, gs, n0, n1, 1, 0, 1⟩, rfl, j9.same u, (F9.same u).g, upd_same, fun H' s' => ⟨_, rfl, kk _ _ ⟨rfl, u.trans s'⟩⟩⟩
    have F10 := F9.same s10
    have s610 := (s68.trans s9).trans s10
    dsimp only
    refine seq_use (fun v H' => ∃ p l, v = .ref p ∧ JobL C H' p l ⟨z, [], 0, 1, n2, n3, n4⟩ ∧ Same H10 H') (fun Q' kk => ?_) ?_
    · exact ⟨_, rfl, _, rfl, rl, _, 4, _, rfl, rfl, SqL.of F10.r, i4, _, rfl, rl, _, 3, _, rfl, rfl, SqL.of F10.r, i3, _, rfl, rl, _, 2, _, rfl, rfl, SqL.of F10.r, i2, rfl, rfl, fun x dx hx hdx hne => mk_job hx hdx hne (JobQ.good rfl zn .non okB fun p l H' hp hl s' jl => kk _ _ ⟨p, l, rfl, jl, s'⟩)⟩
    rintro _ H11 ⟨p4, l4, rfl, j11, s11⟩
    have F11 := F10.same s11
    refine if_use (fun b H' => b = false ∧ Same H11 H') (fun Q' kk => ?_) (fun H' h => by cases h.1) (fun H12 ⟨_, s12⟩ => next_to ?_)
    · refine ⟨_, rfl, _, rfl, by decide, fun q0 hq0 => ?_⟩
      have u0 : Same H11 (upd H11 q0 (.lst [])) := same_of hq0
      have f0 : (upd H11 q0 (.lst [])) q0 = some (.lst []) := upd_same
      generalize upd H11 q0 (.lst []) = G0 at u0 f0
      refine ⟨by show 2 ≤ sizeLine; decide, fun q1 hq1 => ?_⟩
      have u1 : Same G0 (upd G0 q1 (.lst [.int 0, .int 1])) := same_of hq1
      have f1 : (upd G0 q1 (.lst [.int 0, .int 1])) q1 = some (.lst [.int 0, .int 1]) := upd_same
      generalize upd G0 q1 (.lst [.int 0, .int 1]) = G1 at u1 f1
      refine ⟨_, rfl, _, rfl, rl, _, rfl, SqL.of ((u0.trans u1) _ _ F11.r), fun q2 hq2 => ?_⟩
      rw [cB]
      have u2 : Same G1 (upd G1 q2 (.lst [.int n2, .int n3, .int n4])) := same_of hq2
      have f2 : (upd G1 q2 (.lst [.int n2, .int n3, .int n4])) q2 = some (.lst [.int n2, .int n3, .int n4]) := upd_same
      generalize upd G1 q2 (.lst [.int n2, .int n3, .int n4]) = G2 at u2 f2
      refine ⟨q1, q2, _, _, rfl, rfl, u2 _ _ f1, f2, by show 5 ≤ sizeLine; decide, fun q3 hq3 => ?_⟩
      have u3 : Same G2 (upd G2 q3 (.lst [.int 0, .int 1, .int n2, .int n3, .int n4])) := same_of hq3
      have u := ((u0.trans u1).trans u2).trans u3
      exact ⟨p4, l4, q0, q3, ⟨z, [], 0, 1, n2, n3, n4⟩, rfl, j11.same u, ((u1.trans u2).trans u3) _ _ f0, upd_same, fun H' s' => ⟨_, rfl, kk _ _ ⟨rfl, u.trans s'⟩⟩⟩
    have s612 := (s610.trans s11).trans s12
    have F12 := F11.same s12
    have j12 := j6.same s612
    have k12 := k7.same (s8.trans (((s9.trans s10).trans s11).trans s12))
    have s12' := s6.trans s612
    clear F7 F8 F9 F10 F11 j7 j9 j11 s9 s10 s11 s12 s610 s68
    dsimp only
    obtain ⟨⟨dx1, ep1⟩, el1⟩ := j12
    refine ⟨_, rfl, p1, C, dx1, _, _, rfl, ep1, J.cl, J.n2, rfl, .inl ⟨rfl, _, SqL.of el1⟩, l1, _, _, rfl, rfl, el1, ?_, ?_⟩
    · rw [List.length_map]
      have : (ds m gs).length ≤ 8 := by
        unfold ds
        split
        · exact gn.l8
        · exact Nat.zero_le _
      exact Nat.lt_of_le_of_lt this (by decide)
    have F13 : Fr (upd H12 l1 (.lst ((ds m gs).map V.str ++ [.str "other"]))) gl rl dl tl gs ys m := F12.upd F2 nl1'
    have el6 := j6.ls
    have k13 : JobL C (upd H12 l1 (.lst ((ds m gs).map V.str ++ [.str "other"]))) p2 l2 ⟨z, ds m gs, ja, jb, jc, jd, je⟩ := k12.ne (ne_of_none el6 np2) (ne_of_none el6 nl2)
    have s13 : Same H (upd H12 l1 (.lst ((ds m gs).map V.str ++ [.str "other"]))) := Same.upd s12' (same_none s02 nl1')
    generalize upd H12 l1 (.lst ((ds m gs).map V.str ++ [.str "other"])) = H13 at F13 k13 s13
    dsimp only
    refine if_use (fun b H' => b = false ∧ Same H13 H') (fun Q' kk => ?_) (fun H' h => by cases h.1) (fun H14 ⟨_, s14⟩ => next_to ?_)
    · refine ⟨_, rfl, by decide, fun q0 hq0 => ?_⟩
      have u0 : Same H13 (upd H13 q0 (.lst [])) := same_of hq0
      have f0 : (upd H13 q0 (.lst [])) q0 = some (.lst []) := upd_same
      generalize upd H13 q0 (.lst []) = G0 at u0 f0
      refine ⟨gl, q0, _, [], rfl, rfl, SqL.of (u0 _ _ F13.g), SqL.of f0, flat_strs _, rfl, _, rfl, ite2 (fun _ => ?_) (fun _ => kk _ _ ⟨rfl, u0⟩)⟩
      have FG := F13.same u0
      refine ⟨_, rfl, _, rfl, _, rfl, .str z, .non, rl, m, y0, y1, y2, y3, y4, rfl, m1, m7, hyy ▸ FG.r, mkj eff_non fun p l G1 hp hl t1 jl => ?_⟩
      refine ⟨_, rfl, by decide, fun q1 hq1 => ?_⟩
      have u1 : Same G1 (upd G1 q1 (.lst [])) := same_of hq1
      exact ⟨_, rfl, p, l, q1, tl, ⟨z, [], ja, jb, jc, jd, je⟩, rfl, jl.same u1, upd_same, ((FG.same t1).same u1).tn hto, fun H' s' => ⟨_, rfl, kk _ _ ⟨rfl, ((u0.trans t1).trans u1).trans s'⟩⟩⟩
    have F14 := F13.same s14
    dsimp only
    refine ⟨_, rfl, _, rfl, _, rfl, _, rfl, p2, l2, dl, tl, _, rfl, k13.same s14, F14.d, F14.tn hto, fun H15 s15 => ⟨_, rfl, iteF (next_to ?_)⟩⟩
    have F15 := F14.same s15
    dsimp only
    refine ⟨_, rfl, _, rfl, _, rfl, _, rfl, .str z, .ref gl, rl, m, y0, y1, y2, y3, y4, rfl, m1, m7, hyy ▸ F15.r, mkj (eff_nd gn (.inl F15.g)) fun p l G1 hp hl t1 jl => ?_⟩
    exact ⟨_, rfl, _, rfl, _, rfl, p, l, dl, tl, _, rfl, jl, (F15.same t1).d, (F15.same t1).tn hto, fun H' s' => q _ ((((s13.trans s14).trans s15).trans t1).trans s')⟩
end
end K02

set_option Elab.async false
set_option linter.all false
set_option maxRecDepth 100000
set_option maxHeartbeats 4000000
set_option pp.maxSteps 600
set_option pp.deepTerms false
namespace K02
open PySem L2 PyProof.Rows
theorem GN.of {z : Str} {gs : List Str} (hz : z ∉ gs) (hn : gs.Nodup) (l8 : gs.length ≤ 8) (nm : ∀ g ∈ gs, isName g = true) : GN z gs := by
  refine ⟨?_, l8, nm⟩
  have h1 : (gs.map V.str).all (madeOf LET 12) = true := by
    rw [List.all_eq_true]
    intro x hx
    obtain ⟨g, hg, rfl⟩ := List.mem_map.mp hx
    exact nm g hg
  have h2 : (uniqK ((gs.map V.str).map keyOf)).length = (gs.map V.str).length := by
    rw [keys_strs, uniq_nodup, List.length_map, List.length_map]
    rw [List.Nodup, List.pairwise_map]
    exact hn.imp fun h e => h (by injection e)
  unfold okNeeds
  rw [h1, inV_str hz, decide_eq_true h2, decide_eq_true (by rw [List.length_map]; exact l8)]
  rfl
theorem Bd.same {K : PySem.W.Frag} {H H1 H2 : Hp} {z : Str} {nv : V} (h : Bd K H H1 z nv) (s : Same H1 H2) : Bd K H H2 z nv := by
  rcases h with h | ⟨b, xs, e, h1, h2, h3, h4, h5⟩
  · exact .inl (h.same s)
  · exact .inr ⟨b, xs, e, s _ _ h1, h2, fun y hy => (h3 y hy).same s, h4, h5⟩
theorem Bd.nd {K : PySem.W.Frag} {H H1 : Hp} {z : Str} {nv : V} (h : Bd K H H1 z nv) : Nd K H1 z nv none := by
  rcases h with h | ⟨b, xs, rfl, h1, _, h3, h4, h5⟩
  · exact .odd h
  · exact .bad (.inl h1) h3 h4 h5
theorem eff2 {m : Nat} (h : 2 ≤ m) (nd : V) : effN m nd = nd := by
  unfold effN
  rw [if_pos h]
theorem tol_bad {ys : List V} (hl : ys.length = 5) {m : Nat} (hm : m ≤ 7) {sp : List Nat} (so : SpO ys sp) {k : Nat} (hk : k ∈ sp) (h : (k : Int) < (m : Int) - 2) : ¬ okNums (tol m ys) := by
  obtain ⟨k5, y, hy, b⟩ := so k hk
  refine not_okNums (i := k) ?_ b
  unfold tol
  rw [mix_get hl (by omega), if_pos (by omega)]
  exact hy
/-- what stands behind the making of the law's things -/
structure St0 (K : PySem.W.Frag) (H0 H : Hp) (gl rl : Addr) (gs : List Str) (rs : List V) : Prop where
  s : Same H0 H
  g : H gl = some (.lst (gs.map V.str))
  r : H rl = some (.lst rs)
theorem St0.same {K : PySem.W.Frag} {H0 H H' : Hp} {gl rl : Addr} {gs : List Str} {rs : List V} (h : St0 K H0 H gl rl gs rs) (s : Same H H') : St0 K H0 H' gl rl gs rs := ⟨h.s.trans s, s _ _ h.g, s _ _ h.r⟩
theorem ifs_use {c : TT} {t u : TS} {D : Ends} {σ : L2.St} {H : Hp} (Post : Bool → Hp → Prop) (hc : ∀ Q', (∀ b H', Post b H' → Q' b H') → c σ H Q') (kt : ∀ H', Post true H' → t D σ H') (kf : ∀ H', Post false H' → u D σ H') : tIfS c t u D σ H := hc _ fun b H' p => by
  cases b
  · exact iteF (kf H' p)
  · exact iteT (kt H' p)
section
variable {P : Program} {w : World} {K : PySem.W.Frag} {mg : Str → Option Value} {base : Heap} {C : Addr} {D : Nat → Addr}
theorem mk_good {H : Hp} {x dx : Addr} {z : Str} {nd : V} {ks : List Str} {a b c d e : Int} {R : Hp → Prop} {E : XK} (hx : H x = none) (hdx : H dx = none) (hne : dx ≠ x) (zn : isName z = true) (hn : Nd K H z nd (some ks)) (ok : okNums [.int a, .int b, .int c, .int d, .int e])
    (k : ∀ l H', H l = none → Same H H' → JobL C H' x l ⟨z, ks, a, b, c, d, e⟩ → R H') : spJob K C D [.ref x, .str z, nd, .int a, .int b, .int c, .int d, .int e] (upd (upd H dx (.own x)) x (.ins C dx [])) (fun v H3 => v = .non ∧ R H3) E := by
  have sy : Same H (upd (upd H dx (.own x)) x (.ins C dx [])) := fun b o e => by
    rw [upd_ne (ne_of_none e hx), upd_ne (ne_of_none e hdx)]
    exact e
  refine ⟨x, dx, .str z, nd, .int a, .int b, .int c, .int d, .int e, rfl, upd_same, Any.str (Nat.le_trans (name_len zn).2 (by decide)), fun y hy => ?_, fun h => not_made zn h, fun _ => ⟨z, some ks, rfl, hn.same sy, fun h => (by cases h), fun ks' e => ?_⟩⟩
  · simp only [List.mem_cons, List.not_mem_nil, or_false] at hy
    rcases hy with rfl | rfl | rfl | rfl | rfl <;> exact Any.int
  · cases e
    refine ⟨fun n => absurd ok n, fun a' b' c' d' e' e1 e2 e3 e4 e5 _ l H' hl j ch => ⟨rfl, ?_⟩⟩
    cases e1; cases e2; cases e3; cases e4; cases e5
    exact k l H' (same_none sy hl) (made_same hx hdx ch) j
def spLaw (K : PySem.W.Frag) : Sp := fun vs H Q _ => ∃ (a : Addr) (ns : List Int), vs = [.ref a] ∧ SqL K H a (ns.map V.int) ∧ ∀ H', Q (.bl true) H'
theorem ok_law {f : Addr} {fd : FuncData} (F : Fun K "law" "law" s_law f fd) (B : Bj mg) (J : JCls K mg C) (kj : KnowsIB (CX1 P w base) P w K mg base 5 C jps (spJob K C D) JForms)
    (k__law_mixed : Knows P w K mg base 1 "_law_mixed" ["_law_script", "_law_k"] (spMixed K)) (k__law_names : Knows P w K mg base 2 "_law_names" ["_law_script", "_law_many"] (spNames K)) (k__law_odd_name : Knows P w K mg base 2 "_law_odd_name" ["_law_script"] (spOddName K))
    (k__law_needs : Knows P w K mg base 3 "_law_needs" ["_law_script", "_law_own", "_law_names_here"] (spNeeds K)) (k__law_number : Knows P w K mg base 2 "_law_number" ["_law_script", "_law_k"] (spNumber K)) (k__law_numbers : Knows P w K mg base 3 "_law_numbers" ["_law_script"] (spNumbers K))
    (k__law_is : Knows P w K mg base 1 "_law_is" ["_law_job_here", "_law_name", "_law_those", "_law_numbers_here"] (spIs K C)) (k__law_refused : Knows P w K mg base 8 "_law_refused" ["_law_name", "_law_those", "_law_numbers_here", "_law_many", "_law_which"] (spRefused K))
    (k__law_made : Knows P w K mg base 8 "_law_made" ["_law_name", "_law_those", "_law_numbers_here", "_law_many"] (spMade K)) (k__law_edges : Knows P w K mg base 9 "_law_edges" ["_law_script", "_law_name", "_law_good", "_law_right"] (spEdges K)) : FnOk P w K mg base CX0 10 f fd ["_law_script"] (spLaw K) := by
  refine F.ok sc_law (fun vs H Q E h => ?_) (fun cdv A outer s H vs Q E hr h => ?_)
  · obtain ⟨a, ns, rfl, _⟩ := h
    rfl
  · obtain ⟨a, ns, rfl, hS, q⟩ := h
    have hu := hu0 hr
    refine ⟨_, by exact (pss_cons (ps_set (i := 1) sc_law.nd rfl (Or.inl rfl) (pe_callM k__law_names hr (pa_c (pv 0) (pa_c (pe_op op_add pe_int (pe_op op_mod (pe_callM k__law_mixed hr (pa_c (pv 0) (pa_c pe_int pa_nil))) pe_int)) pa_nil))))
      (pss_cons (ps_set (i := 2) sc_law.nd rfl (Or.inl rfl) (pe_ix ix_list (pv 1) pe_int (fun _ _ => rfl)))
      (pss_cons (ps_set (i := 3) sc_law.nd rfl (Or.inl rfl) (pe_slice sl_list (pv 1) (po_some pe_int) po_none))
      (pss_cons (ps_asg (pe_callM k__law_needs hr (pa_c (pv 0) (pa_c (pv 2) (pa_c (pv 3) pa_nil)))) (pg_tup rfl (pgs_cons (pg_name (i := 4) sc_law.nd rfl (Or.inl rfl)) (pgs_cons (pg_name (i := 5) sc_law.nd rfl (Or.inl rfl)) pgs_nil))))
      (pss_cons (ps_asg (pe_callM k__law_numbers hr (pa_c (pv 0) pa_nil)) (pg_tup rfl (pgs_cons (pg_name (i := 6) sc_law.nd rfl (Or.inl rfl)) (pgs_cons (pg_name (i := 7) sc_law.nd rfl (Or.inl rfl)) pgs_nil))))
      (pss_cons (ps_set (i := 8) sc_law.nd rfl (Or.inr rfl) (pe_op op_add pe_int (pe_op op_mod (pe_callM k__law_mixed hr (pa_c (pv 0) (pa_c pe_int pa_nil))) pe_int)))
      (pss_cons (ps_if (pt_cmpR op_eq (pe_op op_mod (pe_callM k__law_mixed hr (pa_c (pv 0) (pa_c pe_int pa_nil))) pe_int) pe_int (nomark _)) (pss_one (ps_set (i := 8) sc_law.nd rfl (Or.inr rfl) pe_int)) pss_nil)
      (pss_cons (ps_setC (i := 9) [0] ["_law_k", "_law_script"] sc_law.nd rfl (Or.inl rfl) rfl (pi_range1 rfl B.b.range (pa_c pe_int pa_nil)) (fun _ _ _ _ => pts_nil) (fun _ _ _ _ => (pe_callM k__law_number hr (pa_c (pv 1) (pa_c (pv 0) pa_nil)))))
      (pss_cons (ps_if (pt_cmpR op_eq (pe_op op_mod (pe_callM k__law_mixed hr (pa_c (pv 0) (pa_c pe_int pa_nil))) pe_int) pe_int (nomark _)) (pss_cons (ps_set (i := 10) sc_law.nd rfl (Or.inl rfl) (pe_callM k__law_odd_name hr (pa_c (pv 0) pa_nil)))
      (pss_cons (ps_if (pt_not (pt_val (pe_callM k__law_refused hr (pa_c (pv 10) (pa_c (pv 4) (pa_c (pv 6) (pa_c (pv 8) (pa_c pe_int pa_nil)))))))) (pss_one (ps_ret pe_bl)) pss_nil)
      (pss_one (ps_if (pt_not (pt_val (pe_callM k__law_refused hr (pa_c (pv 10) (pa_c (pv 3) (pa_c (pv 9) (pa_c pe_int (pa_c pe_int pa_nil)))))))) (pss_one (ps_ret pe_bl)) pss_nil)))) pss_nil)
      (pss_cons (ps_if (PW.pt (pw_and (pt_cmpR op_gt (pv 8) pe_int (nomark _)) (pw_and1 (pt_not (pt_val (pv 5)))))) (pss_cons (ps_if (pt_not (pt_val (pe_callM k__law_refused hr (pa_c (pv 2) (pa_c (pv 4) (pa_c (pv 6) (pa_c (pv 8) (pa_c pe_int pa_nil)))))))) (pss_one (ps_ret pe_bl)) pss_nil)
      (pss_one (ps_if (pt_val (pe_isiM B.b.isi B.b.list boot_list (pv 4))) (pss_cons (ps_if (pt_not (pt_val (pe_callM k__law_refused hr (pa_c (pv 2) (pa_c (pe_tcall call_tuple_of rfl B.tuple boot_tuple (pa_c (pv 4) pa_nil)) (pa_c (pv 6) (pa_c (pv 8) (pa_c pe_int pa_nil)))))))) (pss_one (ps_ret pe_bl)) pss_nil)
      (pss_cons (ps_expr (pe_bm0 PySem.F.plainAttrs_list PySem.F.slot_list_clear PySem.F.type_list_clear mt_clear (pv 4)))
      (pss_cons (ps_expr (pe_mcall PySem.F.plainAttrs_list PySem.F.slot_list_extend PySem.F.type_list_extend mt_extend (pv 4) (pa_c (pv 3) pa_nil)))
      (pss_one (ps_if (pt_not (pt_val (pe_callM k__law_is hr (pa_c (pe_makeB kj (fun _ h => h.f2) hr J.mgC pass1N (pa_c (pv 2) (pa_c (pv 4) pa_nil)) pk_nil) (pa_c (pv 2) (pa_c (pv 3) (pa_c (pe_lst (pa_c pe_int (pa_c pe_int (pa_c pe_int (pa_c pe_int (pa_c pe_int pa_nil)))))) pa_nil))))))) (pss_one (ps_ret pe_bl)) pss_nil))))) pss_nil))) (pss_one (ps_if (pt_cmpR (op_neL hu) (pe_comp1 [8] ["_law_k", "_law_many"] rfl (pi_list (pv 7)) (fun _ _ _ _ => pts_one (pt_cmpR op_lt (pv 0) (pe_op op_sub (pv 1) pe_int) (nomark _))) (fun _ _ _ _ => (pv 0))) (pe_lst pa_nil) (nomark _)) (pss_cons (ps_if (pt_not (pt_val (pe_callM k__law_refused hr (pa_c (pv 2) (pa_c (pv 3) (pa_c (pv 6) (pa_c (pv 8) (pa_c pe_int pa_nil)))))))) (pss_one (ps_ret pe_bl)) pss_nil)
      (pss_one (ps_if (pt_not (pt_val (pe_callM k__law_refused hr (pa_c (pv 2) (pa_c (pe_tcall call_tuple_of rfl B.tuple boot_tuple (pa_c (pv 3) pa_nil)) (pa_c (pv 6) (pa_c (pv 8) (pa_c pe_int pa_nil)))))))) (pss_one (ps_ret pe_bl)) pss_nil))) pss_nil)))
      (pss_cons (ps_if (pt_not (pt_val (pe_callM k__law_edges hr (pa_c (pv 0) (pa_c (pv 2) (pa_c (pv 3) (pa_c (pv 9) pa_nil))))))) (pss_one (ps_ret pe_bl)) pss_nil)
      (pss_one (ps_ret (pe_and (pe_callM k__law_made hr (pa_c (pv 2) (pa_c (pv 3) (pa_c (pv 9) (pa_c (pv 8) pa_nil))))) (pe_one (pe_callM k__law_is hr (pa_c (pe_makeB kj (fun _ h => h.f1) hr J.mgC pass1N (pa_c (pv 2) pa_nil) pk_nil) (pa_c (pv 2) (pa_c (pe_lst pa_nil) (pa_c (pe_lst (pa_c pe_int (pa_c pe_int (pa_c pe_int (pa_c pe_int (pa_c pe_int pa_nil)))))) pa_nil)))))))))))))))))))), ?_⟩
    refine seq_use (fun v H' => ∃ (l : Addr) (z : Str) (gs : List Str), v = .ref l ∧ H' l = some (.lst ((z :: gs).map V.str)) ∧ isName z = true ∧ GN z gs ∧ Same H H') (fun Q' kk => ?_) ?_
    · refine ⟨_, rfl, _, rfl, a, ns, 6, rfl, hS, by decide, by decide, fun m H1 hm s1 => ⟨_, _, rfl, rfl, by walk_at "m", _, _, rfl, rfl, ?_⟩⟩
      refine ⟨a, ns, (1 + m % 9).toNat, ?_, s1.seq hS, by omega, fun ks l H2 s2 e2 hl nd hn => ?_⟩
      · rw [Int.toNat_of_nonneg (by omega)]
        rfl
      · match ks, hl with
        | [], hl => exact absurd hl (by show ¬ 0 = _; omega)
        | z :: gs, hl =>
          have hl' : gs.length + 1 = (1 + m % 9).toNat := hl
          rw [List.nodup_cons] at nd
          exact kk _ _ ⟨l, z, gs, rfl, e2, hn z (by simp), GN.of nd.1 nd.2 (by omega) fun g hg => hn g (by simp [hg]), s1.trans s2⟩
    rintro _ H1 ⟨nm, z, gs, rfl, e1, zn, gn, s1⟩
    refine seq_use (fun v H' => v = .str z ∧ H1 = H') (fun Q' kk => ⟨_, rfl, nm, _, 0, _, rfl, rfl, SqL.of e1, atI_nat (j := 0) rfl, kk _ _ ⟨rfl, rfl⟩⟩) ?_
    rintro _ _ ⟨rfl, rfl⟩
    refine seq_use (fun v H' => ∃ gl, v = .ref gl ∧ H' gl = some (.lst (gs.map V.str)) ∧ Same H1 H') (fun Q' kk => ⟨_, rfl, _, rfl, nm, _, rfl, SqL.of e1, fun gl hgl => kk _ _ ⟨gl, rfl, ?_, same_of hgl⟩⟩) ?_
    · rw [upd_same, show (1 : Int) = ((1 : Nat) : Int) from rfl, cut_from]
      rfl
    rintro _ H2 ⟨gl, rfl, e2, s2⟩
    have s02 := s1.trans s2
    clear s1 s2 e1
    dsimp only
    refine ⟨_, rfl, _, rfl, _, rfl, a, gl, ns, z, gs, rfl, s02.seq hS, e2, gn.l8, gn.nm, zn, fun t nv o H3 s3 e3 bd3 => ?_⟩
    refine ⟨t, _, rfl, SqT.of e3, rfl, _, _, rfl, _, _, rfl, rfl, ?_⟩
    dsimp only [gName]
    refine ⟨_, rfl, a, ns, rfl, (s02.trans s3).seq hS, fun t4 nl sl ys sp H4 s4 e4 en yl hn0 es l2 an so => ?_⟩
    refine ⟨t4, _, rfl, SqT.of e4, rfl, _, _, rfl, _, _, rfl, rfl, ?_⟩
    dsimp only [gName]
    have g4 := (s3.trans s4) _ _ e2
    have s04 := (s02.trans s3).trans s4
    obtain ⟨y0, y1, y2, y3, y4, rfl⟩ := five yl
    refine seq_use (fun v H' => ∃ m : Nat, v = .int (m : Int) ∧ 1 ≤ m ∧ m ≤ 7 ∧ Same H4 H') (fun Q' kk => ?_) ?_
    · refine ⟨_, rfl, a, ns, 15, rfl, s04.seq hS, by decide, by decide, fun m H5 hm s5 => ⟨_, _, rfl, rfl, by walk_at "m", _, _, rfl, rfl, kk _ _ ⟨(1 + m % 7).toNat, ?_, by omega, by omega, s5⟩⟩⟩
      rw [Int.toNat_of_nonneg (by omega)]
    rintro _ H5 ⟨m0, rfl, m01, m07, s5⟩
    refine stm_use (fun σ' H' => ∃ m : Nat, σ' = [some (.ref a), some (.ref nm), some (.str z), some (.ref gl), some nv, some (.bl o), some (.ref nl), some (.ref sl), some (.int (m : Int)), none, none] ∧ 1 ≤ m ∧ m ≤ 7 ∧ Same H4 H') (fun Q' kk => ?_) ?_
    · refine ⟨_, rfl, a, ns, 16, rfl, (s04.trans s5).seq hS, by decide, by decide, fun m H6 hm s6 => ⟨_, _, rfl, rfl, by walk_at "m", rfl, _, rfl, ite2 (fun _ => kk _ _ ⟨7, rfl, by decide, by decide, s5.trans s6⟩) (fun _ => kk _ _ ⟨m0, rfl, m01, m07, s5.trans s6⟩)⟩⟩
    rintro _ H6 ⟨m, rfl, m1, m7, s6⟩
    clear s5 m01 m07
    refine seq_use (fun v H' => ∃ rl rs, v = .ref rl ∧ H6 rl = none ∧ H' rl = some (.lst rs) ∧ GoodL rs ∧ Same H6 H') (fun Q' kk => ?_) ?_
    · refine ⟨5, rfl, by decide, by decide, ?_⟩
      exact num_comp ((s04.trans s6).seq hS) fun rl rs H7 s7 hn e7 l5 hg => kk _ _ ⟨rl, rs, rfl, hn, e7, ⟨l5, hg⟩, s7⟩
    rintro _ H7 ⟨rl, rs, rfl, nrl, e7, gr, s7⟩
    have s47 := s6.trans s7
    have T7 : St0 K H H7 gl rl gs rs := ⟨s04.trans s47, s47 _ _ g4, e7⟩
    have en7 := s47 _ _ en
    have es7 := s47 _ _ es
    have an7 : ∀ y ∈ [y0, y1, y2, y3, y4], Any K H7 y := fun y hy => (an y hy).same s47
    have bd6 : o = false → Bd K H2 H6 z nv := fun ho => (bd3 ho).same (s4.trans s6)
    obtain ⟨r0, r1, r2, r3, r4, hrs⟩ := five gr.1
    have anr : ∀ {G : Hp}, ∀ y ∈ [r0, r1, r2, r3, r4], Any K G y := fun {G} y hy => by
      obtain ⟨a', b', c', d', e', h⟩ := gr.ints
      rw [← hrs, h] at hy
      simp only [List.mem_cons, List.not_mem_nil, or_false] at hy
      rcases hy with rfl | rfl | rfl | rfl | rfl <;> exact Any.int
    have zan : ∀ {G : Hp}, Any K G (.str z) := Any.str (Nat.le_trans (name_len zn).2 (by decide))
    refine stm_use (fun σ' H' => ∃ v10, σ' = [some (.ref a), some (.ref nm), some (.str z), some (.ref gl), some nv, some (.bl o), some (.ref nl), some (.ref sl), some (.int (m : Int)), some (.ref rl), v10] ∧ Same H7 H') (fun Q' kk => ?_) ?_
    · refine ⟨_, rfl, a, ns, 17, rfl, T7.s.seq hS, by decide, by decide, fun x H8 hm s8 => ⟨_, _, rfl, rfl, by walk_at "m", rfl, _, rfl, ite2 (fun _ => ?_) (fun _ => kk _ _ ⟨_, rfl, s8⟩)⟩⟩
      have T8 := T7.same s8
      refine seq_use (fun v H' => Any K H' v ∧ madeOf LET 12 v = false ∧ Same H8 H') (fun Q' kk => ⟨_, rfl, a, ns, rfl, T8.s.seq hS, fun v H9 s9 av mv => kk _ _ ⟨av, mv, s9⟩⟩) ?_
      rintro v H9 ⟨av, mv, s9⟩
      have T9 := T8.same s9
      have s79 := s8.trans s9
      dsimp only
      refine ⟨_, rfl, _, rfl, _, rfl, _, rfl, v, nv, nl, m, 0, y0, y1, y2, y3, y4, rfl, m1, m7, s79 _ _ en7, av, fun y hy => (an7 y hy).same s79, .name mv, fun H10 s10 => ⟨_, rfl, iteF (next_to ?_)⟩⟩
      dsimp only
      exact ⟨_, rfl, _, rfl, _, rfl, v, .ref gl, rl, 1, 0, r0, r1, r2, r3, r4, rfl, by decide, by decide, hrs ▸ (T9.same s10).r, av.same s10, anr, .name mv, fun H11 s11 => ⟨_, rfl, iteF (kk _ _ ⟨_, rfl, (s79.trans s10).trans s11⟩)⟩⟩
    rintro _ H8 ⟨v10, rfl, s8⟩
    have T8 := T7.same s8
    have en8 := s8 _ _ en7
    have es8 := s8 _ _ es7
    have an8 : ∀ y ∈ [y0, y1, y2, y3, y4], Any K H8 y := fun y hy => (an7 y hy).same s8
    refine stm_use (fun σ' H' => σ' = [some (.ref a), some (.ref nm), some (.str z), some (.ref gl), some nv, some (.bl o), some (.ref nl), some (.ref sl), some (.int (m : Int)), some (.ref rl), v10] ∧ St0 K H H' gl rl gs rs) (fun Q' kk => ?_) ?_
    · have s68 := s7.trans s8
      refine ifs_use (fun b H' => (b = true → 2 ≤ m ∧ o = false) ∧ H8 = H') (fun Q' kk => ?_) (fun H' h => ?_) (fun H' h => ?_)
      · refine ⟨_, rfl, _, _, rfl, rfl, _, rfl, ite2 (fun h => ?_) (fun _ => kk _ _ ⟨fun h => (by cases h), rfl⟩)⟩
        refine ⟨_, rfl, _, rfl, kk _ _ ⟨fun ho => ⟨?_, ?_⟩, rfl⟩⟩
        · have := of_decide_eq_true h
          omega
        · cases o
          · rfl
          · cases ho
      · obtain ⟨hb, rfl⟩ := h
        obtain ⟨m2, ho⟩ := hb rfl
        have bd8 := (bd6 ho).same s68
        dsimp only
        refine ⟨_, rfl, _, rfl, _, rfl, _, rfl, .str z, nv, nl, m, 1, y0, y1, y2, y3, y4, rfl, m1, m7, en8, zan, an8, .needs rfl zn (by rw [eff2 m2]; exact bd8.nd), fun H9 s9 => ⟨_, rfl, iteF (next_to ?_)⟩⟩
        have T9 := T8.same s9
        have s69 := s68.trans s9
        dsimp only
        rcases bd6 ho with od | ⟨b, xs, rfl, eb6, hb2, ab, l20, okb⟩
        · rcases od.same s69 with ⟨y, rfl⟩ | ⟨y, rfl⟩ | ⟨y, rfl⟩ | ⟨d, kvs, rfl, hk⟩
          · exact ⟨_, rfl, _, _, false, rfl, .str _, by kernel_rfl, _, rfl, iteF (kk _ _ ⟨rfl, T9⟩)⟩
          · exact ⟨_, rfl, _, _, false, rfl, .int _, by kernel_rfl, _, rfl, iteF (kk _ _ ⟨rfl, T9⟩)⟩
          · exact ⟨_, rfl, _, _, false, rfl, .bl _, by kernel_rfl, _, rfl, iteF (kk _ _ ⟨rfl, T9⟩)⟩
          · exact ⟨_, rfl, _, _, false, rfl, .dK hk, by kernel_rfl, _, rfl, iteF (kk _ _ ⟨rfl, T9⟩)⟩
        have eb9 := s69 _ _ eb6
        have ngl : gl ≠ b := ne_of_none e2 hb2
        have nrl' : b ≠ rl := ne_of_none eb6 nrl
        have hb0 := same_none s02 hb2
        refine ⟨_, rfl, _, _, true, rfl, .lst eb9, by kernel_rfl, _, rfl, iteT ?_⟩
        refine ⟨_, rfl, _, rfl, b, _, rfl, .inl ⟨SqL.of eb9, fun tu htu => ?_⟩⟩
        have st : Same H9 (upd H9 tu (.tup xs)) := same_of htu
        have et : (upd H9 tu (.tup xs)) tu = some (.tup xs) := upd_same
        generalize upd H9 tu (.tup xs) = H10 at st et
        have s810 := s9.trans st
        refine ⟨_, rfl, _, rfl, .str z, .ref tu, nl, m, 1, y0, y1, y2, y3, y4, rfl, m1, m7, s810 _ _ en8, zan, fun y hy => (an8 y hy).same s810, .needs rfl zn (by rw [eff2 m2]; exact .bad (.inr et) (fun y hy => (ab y hy).same (s69.trans st)) l20 okb), fun H11 s11 => ⟨_, rfl, iteF (next_to ?_)⟩⟩
        have T11 := (T9.same st).same s11
        have eb11 := (st.trans s11) _ _ eb9
        dsimp only
        refine ⟨_, rfl, .inl ⟨rfl, _, SqL.of eb11⟩, b, _, rfl, rfl, eb11, ?_⟩
        have T12 : St0 K H (upd H11 b (.lst [])) gl rl gs rs := ⟨Same.upd T11.s hb0, by rw [upd_ne ngl]; exact T11.g, by rw [upd_ne (Ne.symm nrl')]; exact T11.r⟩
        have eb12 : (upd H11 b (.lst [])) b = some (.lst []) := upd_same
        generalize upd H11 b (.lst []) = H12 at T12 eb12
        dsimp only
        refine ⟨_, rfl, .inl ⟨rfl, _, SqL.of eb12⟩, _, rfl, b, gl, _, _, rfl, rfl, eb12, T12.g, ?_, ?_⟩
        · rw [List.length_map]
          exact Nat.le_trans (show 0 + gs.length ≤ 8 by have := gn.l8; omega) (by decide)
        have T13 : St0 K H (upd H12 b (.lst ([] ++ gs.map V.str))) gl rl gs rs := ⟨Same.upd T12.s hb0, by rw [upd_ne ngl]; exact T12.g, by rw [upd_ne (Ne.symm nrl')]; exact T12.r⟩
        have eb13 : (upd H12 b (.lst ([] ++ gs.map V.str))) b = some (.lst (gs.map V.str)) := upd_same
        generalize upd H12 b (.lst ([] ++ gs.map V.str)) = H13 at T13 eb13
        dsimp only
        refine ⟨_, rfl, _, rfl, rfl, rfl, fun x dx hx hdx hne => mk_good hx hdx hne zn (gn.nd (.inl eb13)) dfl_good.ok fun l H14 hl s14 jl => ?_⟩
        refine ⟨_, rfl, _, rfl, by show 5 ≤ sizeLine; decide, fun q2 hq2 => ?_⟩
        have u2 : Same H14 (upd H14 q2 (.lst dfl)) := same_of hq2
        have T14 := T13.same s14
        exact ⟨x, l, gl, q2, ⟨z, gs, 0, 1, 1, 0, 1⟩, rfl, jl.same u2, u2 _ _ T14.g, upd_same, fun H' s' => ⟨_, rfl, iteF (kk _ _ ⟨rfl, (T14.same u2).same s'⟩)⟩⟩
      · obtain ⟨_, rfl⟩ := h
        refine ifs_use (fun b H' => (b = true → ∃ k ∈ sp, (k : Int) < (m : Int) - 2) ∧ Same H8 H') (fun Q' kk => ?_) (fun H9 h => ?_) (fun H9 h => kk _ _ ⟨rfl, T8.same h.2⟩)
        · refine ⟨_, rfl, sl, rfl, ⟨_, SqL.of es8⟩, ?_⟩
          refine comp1_wk (wk_list K sl (natV sp)) (fun i us H' => H8 = H' ∧ us.length ≤ i ∧ us.all flatV = true ∧ (us ≠ [] → ∃ k ∈ sp, (k : Int) < (m : Int) - 2)) ⟨rfl, Nat.le_refl _, rfl, fun h => absurd rfl h⟩ (fun i us H' _ h => ⟨by rw [← h.1]; exact SqL.of es8, h.2.1⟩) (by rw [List.length_map]; exact Nat.le_trans l2 (by decide)) (fun i x us H' Nx hx h kn => ?_) (fun us H' h Dd hD => ?_)
          · obtain ⟨rfl, ul, uf, un⟩ := h
            unfold natV at hx
            rw [List.getElem?_map] at hx
            obtain ⟨k, hk, rfl⟩ := Option.map_eq_some_iff.mp hx
            refine ⟨_, rfl, _, rfl, _, _, rfl, rfl, _, _, rfl, rfl, _, rfl, ite2 (fun h => ⟨_, rfl, kn _ _ ⟨rfl, ?_, ?_, fun _ => ⟨k, List.mem_of_getElem? hk, of_decide_eq_true h⟩⟩⟩) (fun _ => kn _ _ ⟨rfl, by omega, uf, un⟩)⟩
            · rw [List.length_append]
              show us.length + 1 ≤ i + 1
              omega
            · rw [List.all_append, uf]
              rfl
          · obtain ⟨rfl, ul, uf, un⟩ := h
            have sD : Same H8 (upd H8 Dd (.lst us)) := same_of hD
            have eD : (upd H8 Dd (.lst us)) Dd = some (.lst us) := upd_same
            generalize upd H8 Dd (.lst us) = H9 at sD eD
            refine ⟨by decide, fun q0 hq0 => ?_⟩
            have u0 : Same H9 (upd H9 q0 (.lst [])) := same_of hq0
            refine ⟨Dd, q0, us, [], rfl, rfl, SqL.of (u0 _ _ eD), SqL.of upd_same, uf, rfl, _, rfl, kk _ _ ⟨fun h => un ?_, sD.trans u0⟩⟩
            rintro rfl
            cases h
        · obtain ⟨hk, s9⟩ := h
          obtain ⟨k, hk, hlt⟩ := hk rfl
          have T9 := T8.same s9
          have nok := tol_bad (ys := [y0, y1, y2, y3, y4]) rfl m7 so hk hlt
          have an9 : ∀ y ∈ [y0, y1, y2, y3, y4], Any K H9 y := fun y hy => (an8 y hy).same s9
          have en9 := s9 _ _ en8
          dsimp only
          refine ⟨_, rfl, _, rfl, _, rfl, _, rfl, .str z, .ref gl, nl, m, 2, y0, y1, y2, y3, y4, rfl, m1, m7, en9, zan, an9, .nums rfl zn (eff_nd gn (.inl T9.g)) nok, fun H10 s10 => ⟨_, rfl, iteF (next_to ?_)⟩⟩
          have T10 := T9.same s10
          dsimp only
          refine ⟨_, rfl, _, rfl, gl, _, rfl, .inl ⟨SqL.of T10.g, fun tu htu => ?_⟩⟩
          have st : Same H10 (upd H10 tu (.tup (gs.map V.str))) := same_of htu
          have et : (upd H10 tu (.tup (gs.map V.str))) tu = some (.tup (gs.map V.str)) := upd_same
          generalize upd H10 tu (.tup (gs.map V.str)) = H11 at st et
          have s911 := s10.trans st
          exact ⟨_, rfl, _, rfl, .str z, .ref tu, nl, m, 2, y0, y1, y2, y3, y4, rfl, m1, m7, s911 _ _ en9, zan, fun y hy => (an9 y hy).same s911, .nums rfl zn (eff_nd gn (.inr et)) nok, fun H12 s12 => ⟨_, rfl, iteF (kk _ _ ⟨rfl, T9.same (s911.trans s12)⟩)⟩⟩
    rintro _ H9 ⟨rfl, T9⟩
    refine ⟨_, rfl, _, rfl, _, rfl, _, rfl, a, gl, rl, ns, z, gs, rs, rfl, T9.s.seq hS, zn, gn, T9.g, gr, T9.r, fun H10 s10 => ⟨_, rfl, iteF (next_to ?_)⟩⟩
    have T10 := T9.same s10
    dsimp only
    refine ⟨_, rfl, _, rfl, _, rfl, _, rfl, gl, rl, z, gs, rs, m, rfl, zn, gn, T10.g, gr, T10.r, m1, m7, fun H11 s11 => ⟨_, rfl, iteT ?_⟩⟩
    refine ⟨_, rfl, rfl, rfl, fun x dx hx hdx hne => mk_good hx hdx hne zn .non dfl_good.ok fun l H12 hl s12 jl => ?_⟩
    refine ⟨_, rfl, by decide, fun q1 hq1 => ?_⟩
    have u1 : Same H12 (upd H12 q1 (.lst [])) := same_of hq1
    have f1 : (upd H12 q1 (.lst [])) q1 = some (.lst []) := upd_same
    generalize upd H12 q1 (.lst []) = H13 at u1 f1
    refine ⟨by show 5 ≤ sizeLine; decide, fun q2 hq2 => ?_⟩
    exact ⟨x, l, q1, q2, ⟨z, [], 0, 1, 1, 0, 1⟩, rfl, (jl.same u1).same (same_of hq2), (same_of hq2) _ _ f1, upd_same, fun H' _ => q _⟩
end
end K02

set_option Elab.async false
set_option linter.all false
set_option maxRecDepth 100000
set_option maxHeartbeats 8000000
namespace K02
open PySem L2
theorem sqT_of {K : PySem.W.Frag} {T : Addr} {its : List Value} {n : Nat} {dd : Option Addr} {sl : Array (Option Value)} {xs : List V} (h : K.lookup T = some ⟨.type "tuple", dd, .seq its.toArray n, sl⟩) (hz : its.length ≤ 100) (r : Vals xs its) (H : Hp) : SqT K H T xs :=
  .inr ⟨_, its.toArray, n, h, rfl, rfl, by rw [List.size_toArray]; exact Nat.le_trans hz (by decide), r⟩
theorem parts_mk {K : PySem.W.Frag} {h : Heap} {mg : Str → Option Value} (X : K.In h) (G : h.Ns mainGlobals mg) {T p0 p1 p2 p3 p4 : Addr} {n n0 n1 n2 n3 n4 : Nat} {d d0 d1 d2 d3 d4 : Option Addr} {sl sl0 sl1 sl2 sl3 sl4 : Array (Option Value)} {a0 b0 c0 a1 b1 c1 a2 b2 c2 a3 b3 c3 a4 b4 c4 : Tok}
    (g : PySem.W.nsIn K mainGlobals "PARTS" = some (some (.ref T))) (l : K.lookup T = some ⟨.type "tuple", d, .seq #[.ref p0, .ref p1, .ref p2, .ref p3, .ref p4] n, sl⟩)
    (l0 : K.lookup p0 = some ⟨.type "tuple", d0, .seq #[.str "rank" a0, .int 0 b0, .int 99 c0] n0, sl0⟩) (l1 : K.lookup p1 = some ⟨.type "tuple", d1, .seq #[.str "span" a1, .int 1 b1, .int 1000 c1] n1, sl1⟩)
    (l2 : K.lookup p2 = some ⟨.type "tuple", d2, .seq #[.str "tries" a2, .int 1 b2, .int 20 c2] n2, sl2⟩) (l3 : K.lookup p3 = some ⟨.type "tuple", d3, .seq #[.str "wait" a3, .int 0 b3, .int 1000 c3] n3, sl3⟩)
    (l4 : K.lookup p4 = some ⟨.type "tuple", d4, .seq #[.str "grow" a4, .int 1 b4, .int 4 c4] n4, sl4⟩) : PartsK K mg := by
  refine ⟨T, [p0, p1, p2, p3, p4], PySem.W.mg_of X G g, rfl, fun H => sqT_of (its := [.ref p0, .ref p1, .ref p2, .ref p3, .ref p4]) (xs := [p0, p1, p2, p3, p4].map V.ref) l (by show 5 ≤ 100; decide) (.cons rfl (.cons rfl (.cons rfl (.cons rfl (.cons rfl .nil))))) H, fun i p hp => ?_⟩
  match i, hp with
  | 0, hp => cases hp; exact ⟨"rank", 0, 99, rfl, fun H => sqT_of (its := [.str "rank" a0, .int 0 b0, .int 99 c0]) (xs := [.str "rank", .int 0, .int 99]) l0 (by show 3 ≤ 100; decide) (.cons ⟨_, rfl⟩ (.cons ⟨_, rfl⟩ (.cons ⟨_, rfl⟩ .nil))) H⟩
  | 1, hp => cases hp; exact ⟨"span", 1, 1000, rfl, fun H => sqT_of (its := [.str "span" a1, .int 1 b1, .int 1000 c1]) (xs := [.str "span", .int 1, .int 1000]) l1 (by show 3 ≤ 100; decide) (.cons ⟨_, rfl⟩ (.cons ⟨_, rfl⟩ (.cons ⟨_, rfl⟩ .nil))) H⟩
  | 2, hp => cases hp; exact ⟨"tries", 1, 20, rfl, fun H => sqT_of (its := [.str "tries" a2, .int 1 b2, .int 20 c2]) (xs := [.str "tries", .int 1, .int 20]) l2 (by show 3 ≤ 100; decide) (.cons ⟨_, rfl⟩ (.cons ⟨_, rfl⟩ (.cons ⟨_, rfl⟩ .nil))) H⟩
  | 3, hp => cases hp; exact ⟨"wait", 0, 1000, rfl, fun H => sqT_of (its := [.str "wait" a3, .int 0 b3, .int 1000 c3]) (xs := [.str "wait", .int 0, .int 1000]) l3 (by show 3 ≤ 100; decide) (.cons ⟨_, rfl⟩ (.cons ⟨_, rfl⟩ (.cons ⟨_, rfl⟩ .nil))) H⟩
  | 4, hp => cases hp; exact ⟨"grow", 1, 4, rfl, fun H => sqT_of (its := [.str "grow" a4, .int 1 b4, .int 4 c4]) (xs := [.str "grow", .int 1, .int 4]) l4 (by show 3 ≤ 100; decide) (.cons ⟨_, rfl⟩ (.cons ⟨_, rfl⟩ (.cons ⟨_, rfl⟩ .nil))) H⟩
  | i + 5, hp => simp at hp
def mkd (e0 e1 e2 e3 e4 e5 e6 e7 e8 e9 e10 e11 e12 e13 e14 e15 e16 e17 e18 : Addr) : Nat → Addr
  | 0 => e0
  | 1 => e1
  | 2 => e2
  | 3 => e3
  | 4 => e4
  | 5 => e5
  | 6 => e6
  | 7 => e7
  | 8 => e8
  | 9 => e9
  | 10 => e10
  | 11 => e11
  | 12 => e12
  | 13 => e13
  | 14 => e14
  | 15 => e15
  | 16 => e16
  | 17 => e17
  | _ => e18
theorem all_mk {l : PySem.W.OpenLaw} {w : World} {K : PySem.W.Frag} {h : Heap} {mg : Str → Option Value} {fa : Addr} (X : K.In h) (G : h.Ns mainGlobals mg) (hfa : mg "law" = some (.ref fa)) {C f eh e0 e1 e2 e3 e4 e5 e6 e7 e8 e9 e10 e11 e12 e13 e14 e15 e16 e17 e18 : Addr}
    {od an : Option Addr} {sl : Array (Option Value)} {oc kV dc pm cd ct : Value} {t1 t2 t3 : Tok}
    (is_Job : PySem.W.nsIn K mainGlobals "Job" = some (some (.ref C)))
    (cls_Job : Cls K C)
    (n1 : PySem.W.findIn K (.ref C) "name" = some none)
    (n2 : PySem.W.findIn K (.ref C) "needs" = some none)
    (n3 : PySem.W.findIn K (.ref C) "rank" = some none)
    (n4 : PySem.W.findIn K (.ref C) "span" = some none)
    (n5 : PySem.W.findIn K (.ref C) "tries" = some none)
    (n6 : PySem.W.findIn K (.ref C) "wait" = some none)
    (n7 : PySem.W.findIn K (.ref C) "grow" = some none)
    (hn : PySem.W.specialIn K (.builtin "object.__class__") "__get__" = some (some (.builtin "getset_descriptor.__get__")))
    (htk : PySem.W.takesIn K (.builtin "object.__class__") = some true)
    (jha : PySem.W.findIn K (.ref C) "__class__" = some (some (.builtin "object.__class__")))
    (jhm : PySem.W.mroIn K C (.type "object") = some true)
    (jis : PySem.W.kitOne K (.ref C) (.ref C) = some true)
    (i_job : IDefB K C "Job.__init__" s_Job___init__ JForms)
    (pk : PartsK K mg)
    (d_is_whole : Def K mg "is_whole" s_is_whole ["thing"])
    (d_is_among : Def K mg "is_among" s_is_among ["thing", "least", "most"])
    (d_is_made_of : Def K mg "is_made_of" s_is_made_of ["thing", "signs", "most"])
    (d_is_name : Def K mg "is_name" s_is_name ["thing"])
    (d_check_name : Def K mg "check_name" s_check_name ["name"])
    (d_check_needs : Def K mg "check_needs" s_check_needs ["needs", "name"])
    (d_are_needs : Def K mg "are_needs" s_are_needs ["needs", "name"])
    (d_check_numbers : Def K mg "check_numbers" s_check_numbers ["numbers"])
    (d__law_mixed : Def K mg "_law_mixed" s__law_mixed ["_law_script", "_law_k"])
    (d__law_kinds : Def K mg "_law_kinds" s__law_kinds ["_law_e"])
    (d__law_alone : Def K mg "_law_alone" s__law_alone ["_law_e", "_law_which"])
    (d__law_names : Def K mg "_law_names" s__law_names ["_law_script", "_law_many"])
    (d__law_odd_name : Def K mg "_law_odd_name" s__law_odd_name ["_law_script"])
    (d__law_needs : Def K mg "_law_needs" s__law_needs ["_law_script", "_law_own", "_law_names_here"])
    (d__law_number : Def K mg "_law_number" s__law_number ["_law_script", "_law_k"])
    (d__law_spoilt : Def K mg "_law_spoilt" s__law_spoilt ["_law_script", "_law_k"])
    (d__law_numbers : Def K mg "_law_numbers" s__law_numbers ["_law_script"])
    (d__law_job : Def K mg "_law_job" s__law_job ["_law_name", "_law_those", "_law_numbers_here", "_law_many"])
    (d__law_is : Def K mg "_law_is" s__law_is ["_law_job_here", "_law_name", "_law_those", "_law_numbers_here"])
    (d__law_refused : Def K mg "_law_refused" s__law_refused ["_law_name", "_law_those", "_law_numbers_here", "_law_many", "_law_which"])
    (d__law_made : Def K mg "_law_made" s__law_made ["_law_name", "_law_those", "_law_numbers_here", "_law_many"])
    (d__law_edges : Def K mg "_law_edges" s__law_edges ["_law_script", "_law_name", "_law_good", "_law_right"])
    (lk : PySem.W.nsIn K mainGlobals "law" = some (some (.ref f)))
    (ll : K.lookup f = some ⟨oc, od, .func (PySem.W.fnOf "law" "law" (defArgs s_law) (defBody s_law) (defScope s_law) .none kV dc pm an cd ct), sl⟩)
    (lc : PySem.W.codeIn K cd "law" = true)
    (lp : PySem.W.keepIn K (.ref f) = true)
    (b_isinstance : PySem.W.nsIn K mainGlobals "isinstance" = some none)
    (b_len : PySem.W.nsIn K mainGlobals "len" = some none)
    (b_all : PySem.W.nsIn K mainGlobals "all" = some none)
    (b_int : PySem.W.nsIn K mainGlobals "int" = some none)
    (b_bool : PySem.W.nsIn K mainGlobals "bool" = some none)
    (b_str : PySem.W.nsIn K mainGlobals "str" = some none)
    (b_list : PySem.W.nsIn K mainGlobals "list" = some none)
    (b_range : PySem.W.nsIn K mainGlobals "range" = some none)
    (b_set : PySem.W.nsIn K mainGlobals "set" = some none)
    (b_zip : PySem.W.nsIn K mainGlobals "zip" = some none)
    (b_tuple : PySem.W.nsIn K mainGlobals "tuple" = some none)
    (b_max : PySem.W.nsIn K mainGlobals "max" = some none)
    (b_ValueError : PySem.W.nsIn K mainGlobals "ValueError" = some none)
    (g_LETTERS : PySem.W.nsIn K mainGlobals "LETTERS" = some (some (.str LET t1)))
    (g_MOSTL : PySem.W.nsIn K mainGlobals "MOST_LETTERS" = some (some (.int 12 t2)))
    (g_MOSTN : PySem.W.nsIn K mainGlobals "MOST_NEEDS" = some (some (.int 8 t3)))
    (x_BadName : PySem.W.nsIn K mainGlobals "BadName" = some (some (.ref e0)))
    (x_BadNeeds : PySem.W.nsIn K mainGlobals "BadNeeds" = some (some (.ref e1)))
    (x_BadNumber : PySem.W.nsIn K mainGlobals "BadNumber" = some (some (.ref e2)))
    (x_BadPlan : PySem.W.nsIn K mainGlobals "BadPlan" = some (some (.ref e3)))
    (x_Twice : PySem.W.nsIn K mainGlobals "Twice" = some (some (.ref e4)))
    (x_NoJob : PySem.W.nsIn K mainGlobals "NoJob" = some (some (.ref e5)))
    (x_Ring : PySem.W.nsIn K mainGlobals "Ring" = some (some (.ref e6)))
    (x_BadLine : PySem.W.nsIn K mainGlobals "BadLine" = some (some (.ref e7)))
    (x_Busy : PySem.W.nsIn K mainGlobals "Busy" = some (some (.ref e8)))
    (x_Gone : PySem.W.nsIn K mainGlobals "Gone" = some (some (.ref e9)))
    (x_BadTerm : PySem.W.nsIn K mainGlobals "BadTerm" = some (some (.ref e10)))
    (x_NoAlarm : PySem.W.nsIn K mainGlobals "NoAlarm" = some (some (.ref e11)))
    (x_BadStep : PySem.W.nsIn K mainGlobals "BadStep" = some (some (.ref e12)))
    (x_BadState : PySem.W.nsIn K mainGlobals "BadState" = some (some (.ref e13)))
    (x_BadTurn : PySem.W.nsIn K mainGlobals "BadTurn" = some (some (.ref e14)))
    (x_BadBuilders : PySem.W.nsIn K mainGlobals "BadBuilders" = some (some (.ref e15)))
    (x_BadBook : PySem.W.nsIn K mainGlobals "BadBook" = some (some (.ref e16)))
    (x_BadShot : PySem.W.nsIn K mainGlobals "BadShot" = some (some (.ref e17)))
    (x_BadEvent : PySem.W.nsIn K mainGlobals "BadEvent" = some (some (.ref e18)))
    (x_HallError : PySem.W.nsIn K mainGlobals "HallError" = some (some (.ref eh)))
    (ga0 : PySem.W.findIn K (.ref e0) "__getattribute__" = some (some (.builtin "BaseException.__getattribute__")))
    (gh0 : PySem.W.findIn K (.ref e0) "__getattr__" = some none)
    (be0 : PySem.W.mroIn K e0 (.type "BaseException") = some true)
    (hd0 : PySem.W.hasDictIn K e0 = true)
    (ha0 : PySem.W.findIn K (.ref e0) "__class__" = some (some (.builtin "object.__class__")))
    (hm0 : PySem.W.mroIn K e0 (.type "object") = some true)
    (kt0_0 : PySem.W.kitOne K (.ref e0) (.ref e0) = some true)
    (kt0_1 : PySem.W.kitOne K (.ref e0) (.ref e1) = some false)
    (kt0_2 : PySem.W.kitOne K (.ref e0) (.ref e2) = some false)
    (kt0_3 : PySem.W.kitOne K (.ref e0) (.ref e3) = some false)
    (kt0_4 : PySem.W.kitOne K (.ref e0) (.ref e4) = some false)
    (kt0_5 : PySem.W.kitOne K (.ref e0) (.ref e5) = some false)
    (kt0_6 : PySem.W.kitOne K (.ref e0) (.ref e6) = some false)
    (kt0_7 : PySem.W.kitOne K (.ref e0) (.ref e7) = some false)
    (kt0_8 : PySem.W.kitOne K (.ref e0) (.ref e8) = some false)
    (kt0_9 : PySem.W.kitOne K (.ref e0) (.ref e9) = some false)
    (kt0_10 : PySem.W.kitOne K (.ref e0) (.ref e10) = some false)
    (kt0_11 : PySem.W.kitOne K (.ref e0) (.ref e11) = some false)
    (kt0_12 : PySem.W.kitOne K (.ref e0) (.ref e12) = some false)
    (kt0_13 : PySem.W.kitOne K (.ref e0) (.ref e13) = some false)
    (kt0_14 : PySem.W.kitOne K (.ref e0) (.ref e14) = some false)
    (kt0_15 : PySem.W.kitOne K (.ref e0) (.ref e15) = some false)
    (kt0_16 : PySem.W.kitOne K (.ref e0) (.ref e16) = some false)
    (kt0_17 : PySem.W.kitOne K (.ref e0) (.ref e17) = some false)
    (kt0_18 : PySem.W.kitOne K (.ref e0) (.ref e18) = some false)
    (kve0 : PySem.W.kitOne K (.ref e0) (.type "ValueError") = some true)
    (khe0 : PySem.W.kitOne K (.ref e0) (.ref eh) = some true)
    (exc0 : PySem.W.excIn K e0 bmV "ValueError.__new__" = true)
    (exm0 : PySem.W.exmOne K (.ref e0) (.ref eh) = some true)
    (ga1 : PySem.W.findIn K (.ref e1) "__getattribute__" = some (some (.builtin "BaseException.__getattribute__")))
    (gh1 : PySem.W.findIn K (.ref e1) "__getattr__" = some none)
    (be1 : PySem.W.mroIn K e1 (.type "BaseException") = some true)
    (hd1 : PySem.W.hasDictIn K e1 = true)
    (ha1 : PySem.W.findIn K (.ref e1) "__class__" = some (some (.builtin "object.__class__")))
    (hm1 : PySem.W.mroIn K e1 (.type "object") = some true)
    (kt1_0 : PySem.W.kitOne K (.ref e1) (.ref e0) = some false)
    (kt1_1 : PySem.W.kitOne K (.ref e1) (.ref e1) = some true)
    (kt1_2 : PySem.W.kitOne K (.ref e1) (.ref e2) = some false)
    (kt1_3 : PySem.W.kitOne K (.ref e1) (.ref e3) = some false)
    (kt1_4 : PySem.W.kitOne K (.ref e1) (.ref e4) = some false)
    (kt1_5 : PySem.W.kitOne K (.ref e1) (.ref e5) = some false)
    (kt1_6 : PySem.W.kitOne K (.ref e1) (.ref e6) = some false)
    (kt1_7 : PySem.W.kitOne K (.ref e1) (.ref e7) = some false)
    (kt1_8 : PySem.W.kitOne K (.ref e1) (.ref e8) = some false)
    (kt1_9 : PySem.W.kitOne K (.ref e1) (.ref e9) = some false)
    (kt1_10 : PySem.W.kitOne K (.ref e1) (.ref e10) = some false)
    (kt1_11 : PySem.W.kitOne K (.ref e1) (.ref e11) = some false)
    (kt1_12 : PySem.W.kitOne K (.ref e1) (.ref e12) = some false)
    (kt1_13 : PySem.W.kitOne K (.ref e1) (.ref e13) = some false)
    (kt1_14 : PySem.W.kitOne K (.ref e1) (.ref e14) = some false)
    (kt1_15 : PySem.W.kitOne K (.ref e1) (.ref e15) = some false)
    (kt1_16 : PySem.W.kitOne K (.ref e1) (.ref e16) = some false)
    (kt1_17 : PySem.W.kitOne K (.ref e1) (.ref e17) = some false)
    (kt1_18 : PySem.W.kitOne K (.ref e1) (.ref e18) = some false)
    (kve1 : PySem.W.kitOne K (.ref e1) (.type "ValueError") = some true)
    (khe1 : PySem.W.kitOne K (.ref e1) (.ref eh) = some true)
    (exc1 : PySem.W.excIn K e1 bmV "ValueError.__new__" = true)
    (exm1 : PySem.W.exmOne K (.ref e1) (.ref eh) = some true)
    (ga2 : PySem.W.findIn K (.ref e2) "__getattribute__" = some (some (.builtin "BaseException.__getattribute__")))
    (gh2 : PySem.W.findIn K (.ref e2) "__getattr__" = some none)
    (be2 : PySem.W.mroIn K e2 (.type "BaseException") = some true)
    (hd2 : PySem.W.hasDictIn K e2 = true)
    (ha2 : PySem.W.findIn K (.ref e2) "__class__" = some (some (.builtin "object.__class__")))
    (hm2 : PySem.W.mroIn K e2 (.type "object") = some true)
    (kt2_0 : PySem.W.kitOne K (.ref e2) (.ref e0) = some false)
    (kt2_1 : PySem.W.kitOne K (.ref e2) (.ref e1) = some false)
    (kt2_2 : PySem.W.kitOne K (.ref e2) (.ref e2) = some true)
    (kt2_3 : PySem.W.kitOne K (.ref e2) (.ref e3) = some false)
    (kt2_4 : PySem.W.kitOne K (.ref e2) (.ref e4) = some false)
    (kt2_5 : PySem.W.kitOne K (.ref e2) (.ref e5) = some false)
    (kt2_6 : PySem.W.kitOne K (.ref e2) (.ref e6) = some false)
    (kt2_7 : PySem.W.kitOne K (.ref e2) (.ref e7) = some false)
    (kt2_8 : PySem.W.kitOne K (.ref e2) (.ref e8) = some false)
    (kt2_9 : PySem.W.kitOne K (.ref e2) (.ref e9) = some false)
    (kt2_10 : PySem.W.kitOne K (.ref e2) (.ref e10) = some false)
    (kt2_11 : PySem.W.kitOne K (.ref e2) (.ref e11) = some false)
    (kt2_12 : PySem.W.kitOne K (.ref e2) (.ref e12) = some false)
    (kt2_13 : PySem.W.kitOne K (.ref e2) (.ref e13) = some false)
    (kt2_14 : PySem.W.kitOne K (.ref e2) (.ref e14) = some false)
    (kt2_15 : PySem.W.kitOne K (.ref e2) (.ref e15) = some false)
    (kt2_16 : PySem.W.kitOne K (.ref e2) (.ref e16) = some false)
    (kt2_17 : PySem.W.kitOne K (.ref e2) (.ref e17) = some false)
    (kt2_18 : PySem.W.kitOne K (.ref e2) (.ref e18) = some false)
    (kve2 : PySem.W.kitOne K (.ref e2) (.type "ValueError") = some true)
    (khe2 : PySem.W.kitOne K (.ref e2) (.ref eh) = some true)
    (exc2 : PySem.W.excIn K e2 bmV "ValueError.__new__" = true)
    (exm2 : PySem.W.exmOne K (.ref e2) (.ref eh) = some true) :
    ∃ fd : FuncData, (∀ (s : Shared) (v : Value), BindsTo s fd ⟨[v], []⟩ [("_law_script", v)]) ∧ ∀ base : Heap, K.In base → base.Ns mainGlobals mg → FnOk l.prog w K mg base CX0 10 fa fd ["_law_script"] (spLaw K) := by
  have e := hfa.symm.trans (PySem.W.mg_of X G lk)
  cases e
  have B0 : Bltn mg := ⟨PySem.W.mg_none_of X G b_isinstance, PySem.W.mg_none_of X G b_len, PySem.W.mg_none_of X G b_all, PySem.W.mg_none_of X G b_int, PySem.W.mg_none_of X G b_bool, PySem.W.mg_none_of X G b_str, PySem.W.mg_none_of X G b_list, PySem.W.mg_none_of X G b_range⟩
  have B : Bj mg := ⟨B0, PySem.W.mg_none_of X G b_zip, PySem.W.mg_none_of X G b_tuple, PySem.W.mg_none_of X G b_set⟩
  have J : JCls K mg C := ⟨cls_Job, PySem.W.mg_of X G is_Job, n1, n2, n3, n4, n5, n6, n7⟩
  have JI : JIs K C := ⟨jha, hn, htk, jhm, jis⟩
  have BXX : BX K mg (mkd e0 e1 e2 e3 e4 e5 e6 e7 e8 e9 e10 e11 e12 e13 e14 e15 e16 e17 e18) := ⟨exc0, exc1, exc2, PySem.W.mg_of X G x_BadName, PySem.W.mg_of X G x_BadNeeds, PySem.W.mg_of X G x_BadNumber⟩
  have EXX : EX K mg (mkd e0 e1 e2 e3 e4 e5 e6 e7 e8 e9 e10 e11 e12 e13 e14 e15 e16 e17 e18) eh (fun r => r < 3) := by
    refine ⟨⟨hn, htk⟩, (fun r hr => ?_), (fun r i hr hi => ?_), (fun r hr => ?_), (fun r hr => ?_), PySem.W.mg_none_of X G b_ValueError, PySem.W.mg_of X G x_HallError, PySem.W.mg_of X G x_BadName, PySem.W.mg_of X G x_BadNeeds, PySem.W.mg_of X G x_BadNumber, PySem.W.mg_of X G x_BadPlan, PySem.W.mg_of X G x_Twice, PySem.W.mg_of X G x_NoJob, PySem.W.mg_of X G x_Ring, PySem.W.mg_of X G x_BadLine, PySem.W.mg_of X G x_Busy, PySem.W.mg_of X G x_Gone, PySem.W.mg_of X G x_BadTerm, PySem.W.mg_of X G x_NoAlarm, PySem.W.mg_of X G x_BadStep, PySem.W.mg_of X G x_BadState, PySem.W.mg_of X G x_BadTurn, PySem.W.mg_of X G x_BadBuilders, PySem.W.mg_of X G x_BadBook, PySem.W.mg_of X G x_BadShot, PySem.W.mg_of X G x_BadEvent⟩
    · match r, hr with
      | 0, _ => exact ⟨ga0, gh0, be0, hd0, ha0, hm0⟩
      | 1, _ => exact ⟨ga1, gh1, be1, hd1, ha1, hm1⟩
      | 2, _ => exact ⟨ga2, gh2, be2, hd2, ha2, hm2⟩
      | r + 3, hr => exact absurd (show r + 3 < 3 from hr) (by omega)
    · match r, hr with
      | 0, _ =>
        match i, hi with
        | 0, _ => exact kt0_0
        | 1, _ => exact kt0_1
        | 2, _ => exact kt0_2
        | 3, _ => exact kt0_3
        | 4, _ => exact kt0_4
        | 5, _ => exact kt0_5
        | 6, _ => exact kt0_6
        | 7, _ => exact kt0_7
        | 8, _ => exact kt0_8
        | 9, _ => exact kt0_9
        | 10, _ => exact kt0_10
        | 11, _ => exact kt0_11
        | 12, _ => exact kt0_12
        | 13, _ => exact kt0_13
        | 14, _ => exact kt0_14
        | 15, _ => exact kt0_15
        | 16, _ => exact kt0_16
        | 17, _ => exact kt0_17
        | 18, _ => exact kt0_18
        | i + 19, hi => omega
      | 1, _ =>
        match i, hi with
        | 0, _ => exact kt1_0
        | 1, _ => exact kt1_1
        | 2, _ => exact kt1_2
        | 3, _ => exact kt1_3
        | 4, _ => exact kt1_4
        | 5, _ => exact kt1_5
        | 6, _ => exact kt1_6
        | 7, _ => exact kt1_7
        | 8, _ => exact kt1_8
        | 9, _ => exact kt1_9
        | 10, _ => exact kt1_10
        | 11, _ => exact kt1_11
        | 12, _ => exact kt1_12
        | 13, _ => exact kt1_13
        | 14, _ => exact kt1_14
        | 15, _ => exact kt1_15
        | 16, _ => exact kt1_16
        | 17, _ => exact kt1_17
        | 18, _ => exact kt1_18
        | i + 19, hi => omega
      | 2, _ =>
        match i, hi with
        | 0, _ => exact kt2_0
        | 1, _ => exact kt2_1
        | 2, _ => exact kt2_2
        | 3, _ => exact kt2_3
        | 4, _ => exact kt2_4
        | 5, _ => exact kt2_5
        | 6, _ => exact kt2_6
        | 7, _ => exact kt2_7
        | 8, _ => exact kt2_8
        | 9, _ => exact kt2_9
        | 10, _ => exact kt2_10
        | 11, _ => exact kt2_11
        | 12, _ => exact kt2_12
        | 13, _ => exact kt2_13
        | 14, _ => exact kt2_14
        | 15, _ => exact kt2_15
        | 16, _ => exact kt2_16
        | 17, _ => exact kt2_17
        | 18, _ => exact kt2_18
        | i + 19, hi => omega
      | r + 3, hr => exact absurd (show r + 3 < 3 from hr) (by omega)
    · match r, hr with
      | 0, _ => exact kve0
      | 1, _ => exact kve1
      | 2, _ => exact kve2
      | r + 3, hr => exact absurd (show r + 3 < 3 from hr) (by omega)
    · match r, hr with
      | 0, _ => exact khe0
      | 1, _ => exact khe1
      | 2, _ => exact khe2
      | r + 3, hr => exact absurd (show r + 3 < 3 from hr) (by omega)
  have EXM : ∀ r, r < 3 → PySem.W.exmOne K (.ref ((mkd e0 e1 e2 e3 e4 e5 e6 e7 e8 e9 e10 e11 e12 e13 e14 e15 e16 e17 e18) r)) (.ref eh) = some true := fun r hr => by
    match r, hr with
    | 0, _ => exact exm0
    | 1, _ => exact exm1
    | 2, _ => exact exm2
    | r + 3, hr => omega
  refine ⟨PySem.W.fnOf "law" "law" (defArgs s_law) (defBody s_law) (defScope s_law) .none kV dc pm an cd ct, fun s v => .of_eq rfl, fun base _ _ => ?_⟩
  have F := fun_mk (st := s_law) ll lc lp
  have k_is_whole := ok_is_whole (P := l.prog) (w := w) (base := base) d_is_whole B0
  have k_is_among := ok_is_among d_is_among k_is_whole
  have k_made_of := ok_is_made_of (P := l.prog) (w := w) (base := base) d_is_made_of B0
  have k_is_name := ok_is_name d_is_name (PySem.W.mg_of X G g_LETTERS) (PySem.W.mg_of X G g_MOSTL) k_made_of
  have k_check_name := ok_check_name (D := (mkd e0 e1 e2 e3 e4 e5 e6 e7 e8 e9 e10 e11 e12 e13 e14 e15 e16 e17 e18)) d_check_name BXX k_is_name
  have k_are_needs := ok_are_needs d_are_needs B (PySem.W.mg_of X G g_MOSTN) k_is_name
  have k_check_needs := ok_check_needs (D := (mkd e0 e1 e2 e3 e4 e5 e6 e7 e8 e9 e10 e11 e12 e13 e14 e15 e16 e17 e18)) d_check_needs BXX k_are_needs
  have k_check_numbers := ok_check_numbers (D := (mkd e0 e1 e2 e3 e4 e5 e6 e7 e8 e9 e10 e11 e12 e13 e14 e15 e16 e17 e18)) d_check_numbers B pk BXX k_is_among
  have kj := i_job.knows (P := l.prog) (w := w) (mg := mg) (base := base) fun f fd F => ok_job F J B k_check_name k_check_needs k_check_numbers
  have k_kinds := ok_kinds (P := l.prog) (w := w) (base := base) d__law_kinds B0 EXX
  have k_alone := ok_alone d__law_alone B0 EXX k_kinds
  have k_job := ok_ljob d__law_job J kj
  have k_refused := ok_refused (D := (mkd e0 e1 e2 e3 e4 e5 e6 e7 e8 e9 e10 e11 e12 e13 e14 e15 e16 e17 e18)) (R := fun r => r < 3) d__law_refused eh (PySem.W.mg_of X G x_HallError) EXM (fun r h => h) k_job k_alone
  have k_is := ok_is (P := l.prog) (w := w) (base := base) d__law_is B0 J JI
  have k_mixed := ok_mixed (P := l.prog) (w := w) (base := base) d__law_mixed B0
  have k_names := ok_names d__law_names B0 k_mixed
  have k_odd := ok_odd_name d__law_odd_name k_mixed
  have k_needs := ok_needs d__law_needs B0 k_mixed k_odd
  have k_number := ok_number d__law_number k_mixed
  have k_spoilt := ok_spoilt d__law_spoilt B0 k_mixed
  have k_numbers := ok_numbers d__law_numbers B0 k_mixed k_number k_spoilt
  have k_edges := ok_edges d__law_edges k_mixed k_refused
  have k_made := ok_made d__law_made B (PySem.W.mg_none_of X G b_max) J kj k_job k_is
  exact ok_law F B J kj k_mixed k_names k_odd k_needs k_number k_numbers k_is k_refused k_made k_edges
theorem walk {l : PySem.W.OpenLaw} {q : Program} {loose : List Str} {XP : (Str → Option Value) → Heap → Prop} {YP : World → Heap → Prop} {d : DefRec} {K : Params → PySem.W.Frag} (hn : l.most = some 63) (hdf : d.params.defaults = [])
    (hY : ∀ (w : World) (h : Heap), YP w h → (K w.params).In h)
    (F : ∀ (w : World) (mg : Str → Option Value) (fa : Addr) (h : Heap), (K w.params).In h → h.Ns mainGlobals mg → mg d.name = some (.ref fa) →
      ∃ fd : FuncData, (∀ (s : Shared) (u : Value), BindsTo s fd ⟨[u], []⟩ [("_law_script", u)]) ∧ ∀ base : Heap, (K w.params).In base → base.Ns mainGlobals mg → FnOk l.prog w (K w.params) mg base CX0 10 fa fd ["_law_script"] (spLaw (K w.params))) :
    PySem.W.WalkO q loose XP YP l.row.toRowW d [] (fun f vs => PySem.call f vs) :=
  L2.walk_ofW (n := 63) (k := 10) (x := "_law_script") (CX := fun _ => CX0) (sp := fun w => spLaw (K w.params)) hn (by decide) hdf ⟨rfl, by decide, by decide⟩ hY F (fun _ _ a ns hl hsm _ hS => ⟨a, ns, rfl, hS, fun _ => rfl⟩) fun _ _ _ _ _ z => z
end K02

set_option Elab.async false
set_option linter.all false
namespace PySem.W.Fast
end PySem.W.Fast
open PySem PySem.W PyProof.Rows
set_option maxRecDepth 100000 in
set_option maxHeartbeats 0 in
theorem PySem.Challenge.cw_buildhall_k02_jobs_made_holds : PySem.Challenge.rw_buildhall_k02_jobs_made.Holds := by
  w_on; o_law; k_head; (case hw => w_witness2)
  k_fill
  refine K02.walk (l := PySem.Challenge.rw_buildhall_k02_jobs_made) rfl rfl (fun w h Y => PySem.W.kIn_of Y) ?F
  case F =>
    intro w mg fa h KX G hmg
    refine' K02.all_mk KX G hmg ?is_Job ?cls_Job ?n1 ?n2 ?n3 ?n4 ?n5 ?n6 ?n7 ?hn ?htk ?jha ?jhm ?jis ?i_job ?pk ?d_is_whole ?d_is_among ?d_is_made_of ?d_is_name ?d_check_name ?d_check_needs ?d_are_needs ?d_check_numbers ?d__law_mixed ?d__law_kinds ?d__law_alone ?d__law_names ?d__law_odd_name ?d__law_needs ?d__law_number ?d__law_spoilt ?d__law_numbers ?d__law_job ?d__law_is ?d__law_refused ?d__law_made ?d__law_edges ?lk ?ll ?lc ?lp ?b_isinstance ?b_len ?b_all ?b_int ?b_bool ?b_str ?b_list ?b_range ?b_set ?b_zip ?b_tuple ?b_max ?b_ValueError ?g_LETTERS ?g_MOSTL ?g_MOSTN ?x_BadName ?x_BadNeeds ?x_BadNumber ?x_BadPlan ?x_Twice ?x_NoJob ?x_Ring ?x_BadLine ?x_Busy ?x_Gone ?x_BadTerm ?x_NoAlarm ?x_BadStep ?x_BadState ?x_BadTurn ?x_BadBuilders ?x_BadBook ?x_BadShot ?x_BadEvent ?x_HallError ?ga0 ?gh0 ?be0 ?hd0 ?ha0 ?hm0 ?kt0_0 ?kt0_1 ?kt0_2 ?kt0_3 ?kt0_4 ?kt0_5 ?kt0_6 ?kt0_7 ?kt0_8 ?kt0_9 ?kt0_10 ?kt0_11 ?kt0_12 ?kt0_13 ?kt0_14 ?kt0_15 ?kt0_16 ?kt0_17 ?kt0_18 ?kve0 ?khe0 ?exc0 ?exm0 ?ga1 ?gh1 ?be1 ?hd1 ?ha1 ?hm1 ?kt1_0 ?kt1_1 ?kt1_2 ?kt1_3 ?kt1_4 ?kt1_5 ?kt1_6 ?kt1_7 ?kt1_8 ?kt1_9 ?kt1_10 ?kt1_11 ?kt1_12 ?kt1_13 ?kt1_14 ?kt1_15 ?kt1_16 ?kt1_17 ?kt1_18 ?kve1 ?khe1 ?exc1 ?exm1 ?ga2 ?gh2 ?be2 ?hd2 ?ha2 ?hm2 ?kt2_0 ?kt2_1 ?kt2_2 ?kt2_3 ?kt2_4 ?kt2_5 ?kt2_6 ?kt2_7 ?kt2_8 ?kt2_9 ?kt2_10 ?kt2_11 ?kt2_12 ?kt2_13 ?kt2_14 ?kt2_15 ?kt2_16 ?kt2_17 ?kt2_18 ?kve2 ?khe2 ?exc2 ?exm2
    (case is_Job => k_is)
    (case cls_Job => refine' ⟨?_, ?_, ?_, ?_⟩ <;> k_is)
    (case n1 => k_is)
    (case n2 => k_is)
    (case n3 => k_is)
    (case n4 => k_is)
    (case n5 => k_is)
    (case n6 => k_is)
    (case n7 => k_is)
    (case hn => first | k_is | kernel_rfl)
    (case htk => first | k_is | kernel_rfl)
    (case jha => first | k_is | kernel_rfl)
    (case jhm => first | k_is | kernel_rfl)
    (case jis => first | kernel_rfl | k_is)
    case i_job =>
      refine' L2.initB_mk ?a ?n ?l ?c ?mk ?kC ?b
      (case a => k_is); (case n => k_is); (case l => k_is); (case c => k_is); (case mk => k_is); (case kC => k_is)
      case b =>
        refine' ⟨?_, ?_, ?_, ?_, ?_, ?_, ?_, ?_, ?_⟩
        · refine' L2.bt_mk' rfl ?ho ?hs ?hok ?hb
          (case ho => k_is); (case hs => rfl)
          (case hok => exact ⟨trivial, rfl, ⟨_, rfl⟩, ⟨_, rfl⟩, ⟨_, rfl⟩, ⟨_, rfl⟩, ⟨_, rfl⟩, trivial⟩)
          (case hb => exact fun self us ws h1 h2 => match us, ws, h1, h2 with | [_], [], _, _ => ⟨_, rfl, rfl⟩)
        · refine' L2.bt_mk' rfl ?ho ?hs ?hok ?hb
          (case ho => k_is); (case hs => rfl)
          (case hok => exact ⟨trivial, trivial, ⟨_, rfl⟩, ⟨_, rfl⟩, ⟨_, rfl⟩, ⟨_, rfl⟩, ⟨_, rfl⟩, trivial⟩)
          (case hb => exact fun self us ws h1 h2 => match us, ws, h1, h2 with | [_, _], [], _, _ => ⟨_, rfl, rfl⟩)
        · refine' L2.bt_mk' rfl ?ho ?hs ?hok ?hb
          (case ho => k_is); (case hs => rfl)
          (case hok => exact ⟨trivial, trivial, trivial, ⟨_, rfl⟩, ⟨_, rfl⟩, ⟨_, rfl⟩, ⟨_, rfl⟩, trivial⟩)
          (case hb => exact fun self us ws h1 h2 => match us, ws, h1, h2 with | [_, _, _], [], _, _ => ⟨_, rfl, rfl⟩)
        · refine' L2.bt_mk' rfl ?ho ?hs ?hok ?hb
          (case ho => k_is); (case hs => rfl)
          (case hok => exact ⟨trivial, trivial, trivial, trivial, ⟨_, rfl⟩, ⟨_, rfl⟩, ⟨_, rfl⟩, trivial⟩)
          (case hb => exact fun self us ws h1 h2 => match us, ws, h1, h2 with | [_, _, _, _], [], _, _ => ⟨_, rfl, rfl⟩)
        · refine' L2.bt_mk' rfl ?ho ?hs ?hok ?hb
          (case ho => k_is); (case hs => rfl)
          (case hok => exact ⟨trivial, trivial, trivial, trivial, trivial, ⟨_, rfl⟩, ⟨_, rfl⟩, trivial⟩)
          (case hb => exact fun self us ws h1 h2 => match us, ws, h1, h2 with | [_, _, _, _, _], [], _, _ => ⟨_, rfl, rfl⟩)
        · refine' L2.bt_mk' rfl ?ho ?hs ?hok ?hb
          (case ho => k_is); (case hs => rfl)
          (case hok => exact ⟨trivial, trivial, trivial, trivial, trivial, trivial, ⟨_, rfl⟩, trivial⟩)
          (case hb => exact fun self us ws h1 h2 => match us, ws, h1, h2 with | [_, _, _, _, _, _], [], _, _ => ⟨_, rfl, rfl⟩)
        · refine' L2.bt_mk' rfl ?ho ?hs ?hok ?hb
          (case ho => k_is); (case hs => rfl)
          (case hok => exact ⟨trivial, trivial, trivial, trivial, trivial, trivial, trivial, trivial⟩)
          (case hb => exact fun self us ws h1 h2 => match us, ws, h1, h2 with | [_, _, _, _, _, _, _], [], _, _ => ⟨_, rfl, rfl⟩)
        · refine' L2.bt_mk' rfl ?ho ?hs ?hok ?hb
          (case ho => k_is); (case hs => rfl)
          (case hok => exact ⟨trivial, trivial, trivial, trivial, ⟨_, rfl⟩, ⟨_, rfl⟩, ⟨_, rfl⟩, trivial⟩)
          (case hb => exact fun self us ws h1 h2 => match us, ws, h1, h2 with | [_], [_, _, _], _, _ => ⟨_, rfl, rfl⟩)
        · refine' L2.bt_mk' rfl ?ho ?hs ?hok ?hb
          (case ho => k_is); (case hs => rfl)
          (case hok => exact ⟨trivial, rfl, ⟨_, rfl⟩, ⟨_, rfl⟩, trivial, trivial, trivial, trivial⟩)
          (case hb => exact fun self us ws h1 h2 => match us, ws, h1, h2 with | [_], [_, _, _], _, _ => ⟨_, rfl, rfl⟩)
    case pk =>
      refine' K02.parts_mk KX G ?g ?l ?l0 ?l1 ?l2 ?l3 ?l4
      (case g => k_is); (case l => k_is); (case l0 => k_is); (case l1 => k_is); (case l2 => k_is); (case l3 => k_is); (case l4 => k_is)
    case d_is_whole =>
      refine' L2.def_mk KX G ?a ?l ?c ?k ?b
      (case a => k_is); (case l => k_is); (case c => k_is); (case k => k_is)
      (case b => exact fun _ _ _ _ _ _ us hl => match us, hl with | [_], _ => rfl)
    case d_is_among =>
      refine' L2.def_mk KX G ?a ?l ?c ?k ?b
      (case a => k_is); (case l => k_is); (case c => k_is); (case k => k_is)
      (case b => exact fun _ _ _ _ _ _ us hl => match us, hl with | [_, _, _], _ => rfl)
    case d_is_made_of =>
      refine' L2.def_mk KX G ?a ?l ?c ?k ?b
      (case a => k_is); (case l => k_is); (case c => k_is); (case k => k_is)
      (case b => exact fun _ _ _ _ _ _ us hl => match us, hl with | [_, _, _], _ => rfl)
    case d_is_name =>
      refine' L2.def_mk KX G ?a ?l ?c ?k ?b
      (case a => k_is); (case l => k_is); (case c => k_is); (case k => k_is)
      (case b => exact fun _ _ _ _ _ _ us hl => match us, hl with | [_], _ => rfl)
    case d_check_name =>
      refine' L2.def_mk KX G ?a ?l ?c ?k ?b
      (case a => k_is); (case l => k_is); (case c => k_is); (case k => k_is)
      (case b => exact fun _ _ _ _ _ _ us hl => match us, hl with | [_], _ => rfl)
    case d_check_needs =>
      refine' L2.def_mk KX G ?a ?l ?c ?k ?b
      (case a => k_is); (case l => k_is); (case c => k_is); (case k => k_is)
      (case b => exact fun _ _ _ _ _ _ us hl => match us, hl with | [_, _], _ => rfl)
    case d_are_needs =>
      refine' L2.def_mk KX G ?a ?l ?c ?k ?b
      (case a => k_is); (case l => k_is); (case c => k_is); (case k => k_is)
      (case b => exact fun _ _ _ _ _ _ us hl => match us, hl with | [_, _], _ => rfl)
    case d_check_numbers =>
      refine' L2.def_mk KX G ?a ?l ?c ?k ?b
      (case a => k_is); (case l => k_is); (case c => k_is); (case k => k_is)
      (case b => exact fun _ _ _ _ _ _ us hl => match us, hl with | [_], _ => rfl)
    case d__law_mixed =>
      refine' L2.def_mk KX G ?a ?l ?c ?k ?b
      (case a => k_is); (case l => k_is); (case c => k_is); (case k => k_is)
      (case b => exact fun _ _ _ _ _ _ us hl => match us, hl with | [_, _], _ => rfl)
    case d__law_kinds =>
      refine' L2.def_mk KX G ?a ?l ?c ?k ?b
      (case a => k_is); (case l => k_is); (case c => k_is); (case k => k_is)
      (case b => exact fun _ _ _ _ _ _ us hl => match us, hl with | [_], _ => rfl)
    case d__law_alone =>
      refine' L2.def_mk KX G ?a ?l ?c ?k ?b
      (case a => k_is); (case l => k_is); (case c => k_is); (case k => k_is)
      (case b => exact fun _ _ _ _ _ _ us hl => match us, hl with | [_, _], _ => rfl)
    case d__law_names =>
      refine' L2.def_mk KX G ?a ?l ?c ?k ?b
      (case a => k_is); (case l => k_is); (case c => k_is); (case k => k_is)
      (case b => exact fun _ _ _ _ _ _ us hl => match us, hl with | [_, _], _ => rfl)
    case d__law_odd_name =>
      refine' L2.def_mk KX G ?a ?l ?c ?k ?b
      (case a => k_is); (case l => k_is); (case c => k_is); (case k => k_is)
      (case b => exact fun _ _ _ _ _ _ us hl => match us, hl with | [_], _ => rfl)
    case d__law_needs =>
      refine' L2.def_mk KX G ?a ?l ?c ?k ?b
      (case a => k_is); (case l => k_is); (case c => k_is); (case k => k_is)
      (case b => exact fun _ _ _ _ _ _ us hl => match us, hl with | [_, _, _], _ => rfl)
    case d__law_number =>
      refine' L2.def_mk KX G ?a ?l ?c ?k ?b
      (case a => k_is); (case l => k_is); (case c => k_is); (case k => k_is)
      (case b => exact fun _ _ _ _ _ _ us hl => match us, hl with | [_, _], _ => rfl)
    case d__law_spoilt =>
      refine' L2.def_mk KX G ?a ?l ?c ?k ?b
      (case a => k_is); (case l => k_is); (case c => k_is); (case k => k_is)
      (case b => exact fun _ _ _ _ _ _ us hl => match us, hl with | [_, _], _ => rfl)
    case d__law_numbers =>
      refine' L2.def_mk KX G ?a ?l ?c ?k ?b
      (case a => k_is); (case l => k_is); (case c => k_is); (case k => k_is)
      (case b => exact fun _ _ _ _ _ _ us hl => match us, hl with | [_], _ => rfl)
    case d__law_job =>
      refine' L2.def_mk KX G ?a ?l ?c ?k ?b
      (case a => k_is); (case l => k_is); (case c => k_is); (case k => k_is)
      (case b => exact fun _ _ _ _ _ _ us hl => match us, hl with | [_, _, _, _], _ => rfl)
    case d__law_is =>
      refine' L2.def_mk KX G ?a ?l ?c ?k ?b
      (case a => k_is); (case l => k_is); (case c => k_is); (case k => k_is)
      (case b => exact fun _ _ _ _ _ _ us hl => match us, hl with | [_, _, _, _], _ => rfl)
    case d__law_refused =>
      refine' L2.def_mk KX G ?a ?l ?c ?k ?b
      (case a => k_is); (case l => k_is); (case c => k_is); (case k => k_is)
      (case b => exact fun _ _ _ _ _ _ us hl => match us, hl with | [_, _, _, _, _], _ => rfl)
    case d__law_made =>
      refine' L2.def_mk KX G ?a ?l ?c ?k ?b
      (case a => k_is); (case l => k_is); (case c => k_is); (case k => k_is)
      (case b => exact fun _ _ _ _ _ _ us hl => match us, hl with | [_, _, _, _], _ => rfl)
    case d__law_edges =>
      refine' L2.def_mk KX G ?a ?l ?c ?k ?b
      (case a => k_is); (case l => k_is); (case c => k_is); (case k => k_is)
      (case b => exact fun _ _ _ _ _ _ us hl => match us, hl with | [_, _, _, _], _ => rfl)
    (case lk => k_is)
    (case ll => k_is)
    (case lc => k_is)
    (case lp => k_is)
    (case b_isinstance => k_is)
    (case b_len => k_is)
    (case b_all => k_is)
    (case b_int => k_is)
    (case b_bool => k_is)
    (case b_str => k_is)
    (case b_list => k_is)
    (case b_range => k_is)
    (case b_set => k_is)
    (case b_zip => k_is)
    (case b_tuple => k_is)
    (case b_max => k_is)
    (case b_ValueError => k_is)
    (case g_LETTERS => k_is)
    (case g_MOSTL => k_is)
    (case g_MOSTN => k_is)
    (case x_BadName => k_is)
    (case x_BadNeeds => k_is)
    (case x_BadNumber => k_is)
    (case x_BadPlan => k_is)
    (case x_Twice => k_is)
    (case x_NoJob => k_is)
    (case x_Ring => k_is)
    (case x_BadLine => k_is)
    (case x_Busy => k_is)
    (case x_Gone => k_is)
    (case x_BadTerm => k_is)
    (case x_NoAlarm => k_is)
    (case x_BadStep => k_is)
    (case x_BadState => k_is)
    (case x_BadTurn => k_is)
    (case x_BadBuilders => k_is)
    (case x_BadBook => k_is)
    (case x_BadShot => k_is)
    (case x_BadEvent => k_is)
    (case x_HallError => k_is)
    (case ga0 => first | k_is | kernel_rfl)
    (case gh0 => first | k_is | kernel_rfl)
    (case be0 => first | k_is | kernel_rfl)
    (case hd0 => first | k_is | kernel_rfl)
    (case ha0 => first | k_is | kernel_rfl)
    (case hm0 => first | k_is | kernel_rfl)
    (case kt0_0 => first | kernel_rfl | k_is)
    (case kt0_1 => first | kernel_rfl | k_is)
    (case kt0_2 => first | kernel_rfl | k_is)
    (case kt0_3 => first | kernel_rfl | k_is)
    (case kt0_4 => first | kernel_rfl | k_is)
    (case kt0_5 => first | kernel_rfl | k_is)
    (case kt0_6 => first | kernel_rfl | k_is)
    (case kt0_7 => first | kernel_rfl | k_is)
    (case kt0_8 => first | kernel_rfl | k_is)
    (case kt0_9 => first | kernel_rfl | k_is)
    (case kt0_10 => first | kernel_rfl | k_is)
    (case kt0_11 => first | kernel_rfl | k_is)
    (case kt0_12 => first | kernel_rfl | k_is)
    (case kt0_13 => first | kernel_rfl | k_is)
    (case kt0_14 => first | kernel_rfl | k_is)
    (case kt0_15 => first | kernel_rfl | k_is)
    (case kt0_16 => first | kernel_rfl | k_is)
    (case kt0_17 => first | kernel_rfl | k_is)
    (case kt0_18 => first | kernel_rfl | k_is)
    (case kve0 => first | kernel_rfl | k_is)
    (case khe0 => first | kernel_rfl | k_is)
    (case exc0 => first | k_is | kernel_rfl)
    (case exm0 => first | k_is | kernel_rfl)
    (case ga1 => first | k_is | kernel_rfl)
    (case gh1 => first | k_is | kernel_rfl)
    (case be1 => first | k_is | kernel_rfl)
    (case hd1 => first | k_is | kernel_rfl)
    (case ha1 => first | k_is | kernel_rfl)
    (case hm1 => first | k_is | kernel_rfl)
    (case kt1_0 => first | kernel_rfl | k_is)
    (case kt1_1 => first | kernel_rfl | k_is)
    (case kt1_2 => first | kernel_rfl | k_is)
    (case kt1_3 => first | kernel_rfl | k_is)
    (case kt1_4 => first | kernel_rfl | k_is)
    (case kt1_5 => first | kernel_rfl | k_is)
    (case kt1_6 => first | kernel_rfl | k_is)
    (case kt1_7 => first | kernel_rfl | k_is)
    (case kt1_8 => first | kernel_rfl | k_is)
    (case kt1_9 => first | kernel_rfl | k_is)
    (case kt1_10 => first | kernel_rfl | k_is)
    (case kt1_11 => first | kernel_rfl | k_is)
    (case kt1_12 => first | kernel_rfl | k_is)
    (case kt1_13 => first | kernel_rfl | k_is)
    (case kt1_14 => first | kernel_rfl | k_is)
    (case kt1_15 => first | kernel_rfl | k_is)
    (case kt1_16 => first | kernel_rfl | k_is)
    (case kt1_17 => first | kernel_rfl | k_is)
    (case kt1_18 => first | kernel_rfl | k_is)
    (case kve1 => first | kernel_rfl | k_is)
    (case khe1 => first | kernel_rfl | k_is)
    (case exc1 => first | k_is | kernel_rfl)
    (case exm1 => first | k_is | kernel_rfl)
    (case ga2 => first | k_is | kernel_rfl)
    (case gh2 => first | k_is | kernel_rfl)
    (case be2 => first | k_is | kernel_rfl)
    (case hd2 => first | k_is | kernel_rfl)
    (case ha2 => first | k_is | kernel_rfl)
    (case hm2 => first | k_is | kernel_rfl)
    (case kt2_0 => first | kernel_rfl | k_is)
    (case kt2_1 => first | kernel_rfl | k_is)
    (case kt2_2 => first | kernel_rfl | k_is)
    (case kt2_3 => first | kernel_rfl | k_is)
    (case kt2_4 => first | kernel_rfl | k_is)
    (case kt2_5 => first | kernel_rfl | k_is)
    (case kt2_6 => first | kernel_rfl | k_is)
    (case kt2_7 => first | kernel_rfl | k_is)
    (case kt2_8 => first | kernel_rfl | k_is)
    (case kt2_9 => first | kernel_rfl | k_is)
    (case kt2_10 => first | kernel_rfl | k_is)
    (case kt2_11 => first | kernel_rfl | k_is)
    (case kt2_12 => first | kernel_rfl | k_is)
    (case kt2_13 => first | kernel_rfl | k_is)
    (case kt2_14 => first | kernel_rfl | k_is)
    (case kt2_15 => first | kernel_rfl | k_is)
    (case kt2_16 => first | kernel_rfl | k_is)
    (case kt2_17 => first | kernel_rfl | k_is)
    (case kt2_18 => first | kernel_rfl | k_is)
    (case kve2 => first | kernel_rfl | k_is)
    (case khe2 => first | kernel_rfl | k_is)
    (case exc2 => first | k_is | kernel_rfl)
    (case exm2 => first | k_is | kernel_rfl)
#print axioms PySem.Challenge.cw_buildhall_k02_jobs_made_holds
