import PyProof.Rows.All
import Wide.All
import OpenK.AllK
import Wide.FinOn
import Lean
import PyProof.EqAt
import PyProof.EqKinds
import PyProof.TupleCall
import PyProof.ExcBaseAll.ValueError
import KE.KDictList
import PyProof.WalkInts
import PyProof.SeqI3
import PyProof.Rows.SetFrom
import PyProof.CompUse
import PyProof.ZipIter
import PyProof.ListRange
import PyProof.Rows.SumAny
import PyProof.Rows.SetObj
import PyProof.SetRoads
import KE.KIsAll
import PyProof.AttrMissSeq
import KE.KDictOf
import PyProof.Rows.SortShell
import PyProof.Rows.SortWalk
import KE.KIsNot
import PyProof.ExcArgs
import PyProof.Seq
import PyProof.Rows.TupIter
import PyProof.RulesAs
import PyProof.DictWalks
import PyProof.Rows.FStr
import PySem.Challenge.RW_buildhall_k10_leases_refused
set_option Elab.async false
set_option linter.all false
set_option maxRecDepth 100000
namespace PySem.W.Fast
def tw13670914730798109696 : Unit := ()
def tw7236373445603715104 : Unit := ()
def tw5109798603350316096 : Unit := ()
def tw6602471914010720 : Unit := ()
def tw6534620435453058272 : Unit := ()
def tw2324093358990621952 : Unit := ()
def tw16881516932754014688 : Unit := ()
def tw9546899123674270176 : Unit := ()
def tw8484232455365130752 : Unit := ()
def tw10589164613013470784 : Unit := ()
def tw12110231430467556096 : Unit := ()
def tw17496761257012630304 : Unit := ()
def tw635047592376713024 : Unit := ()
def tw7917548498522233728 : Unit := ()
def tw11877921371934964737 : Unit := ()
def tw13480994566360131617 : Unit := ()
def tw216287321168840769 : Unit := ()
def tw12409532685700785217 : Unit := ()
def tw5818049504642997345 : Unit := ()
def tw1142935923920315489 : Unit := ()
def tw8924408619842693217 : Unit := ()
def tw1311094054825118849 : Unit := ()
def tw293683527424655745 : Unit := ()
def tw13667338575507711457 : Unit := ()
def tw15499368077550481889 : Unit := ()
def tw7854317231004022241 : Unit := ()
def tw9906622062042691073 : Unit := ()
def tw4982426082273411617 : Unit := ()
def tw6988389592085491265 : Unit := ()
def tw9598747765674844769 : Unit := ()
def tw4119966365221861985 : Unit := ()
def tw5118906364309264993 : Unit := ()
def tw14647178586592619137 : Unit := ()
def tw13721941226590131873 : Unit := ()
def tw6001862189547839329 : Unit := ()
def tw16047913295721907105 : Unit := ()
def tw5074320521024548866 : Unit := ()
def tw126143086221872130 : Unit := ()
def tw3420903353339053218 : Unit := ()
def tw1054493099925931426 : Unit := ()
def tw10748178357046633986 : Unit := ()
def tw18075692380868856354 : Unit := ()
def tw4800231190538219202 : Unit := ()
def tw13090251265806918402 : Unit := ()
def tw7549472080410624802 : Unit := ()
def tw6721063681504978947 : Unit := ()
def tw17981584597162411075 : Unit := ()
def tw4013679012349215843 : Unit := ()
def tw8807366327100354723 : Unit := ()
def tw15030390603041610019 : Unit := ()
def tw18016321925879165251 : Unit := ()
def tw11132112529427557955 : Unit := ()
def tw13641943653024155363 : Unit := ()
def tw10131587962223668995 : Unit := ()
def tw7541325417098349347 : Unit := ()
def tw18156056494117158787 : Unit := ()
def tw4669602241033539555 : Unit := ()
def tw14666789842580634595 : Unit := ()
def tw15656924919068642308 : Unit := ()
def tw9751111849203195940 : Unit := ()
def tw6612060604168054852 : Unit := ()
def tw7414335090509963364 : Unit := ()
def tw9472407265583459428 : Unit := ()
def tw13685879146730714212 : Unit := ()
def tw12924081977348406436 : Unit := ()
def tw12300283024146020580 : Unit := ()
def tw7837254608875807012 : Unit := ()
def tw4351899755973038404 : Unit := ()
def tw13895671346384827780 : Unit := ()
def tw17172237524263798180 : Unit := ()
def tw14844571562021449188 : Unit := ()
def tw15053057028785225220 : Unit := ()
def tw2617048030975202948 : Unit := ()
def tw17962771223946244772 : Unit := ()
def tw10093765011416728228 : Unit := ()
def tw7038405367135498948 : Unit := ()
def tw7131857098648474372 : Unit := ()
def tw442957772692623204 : Unit := ()
def tw1645048928218288004 : Unit := ()
def tw9797343259431255972 : Unit := ()
def tw9462699122855498757 : Unit := ()
def tw9697637976190038085 : Unit := ()
def tw3827920806563801221 : Unit := ()
def tw7147276408811627685 : Unit := ()
def tw4712291070166003909 : Unit := ()
def tw9179084720106559717 : Unit := ()
def tw17643950038452659557 : Unit := ()
def tw8046746758015186309 : Unit := ()
def tw3709493469926152709 : Unit := ()
def tw4453538676002907653 : Unit := ()
def tw6729483544900029989 : Unit := ()
def tw975444138309050917 : Unit := ()
def tw9226870280700572293 : Unit := ()
def tw9865498682707218117 : Unit := ()
def tw6225428501397884645 : Unit := ()
def tw9121362338244222693 : Unit := ()
def tw5069577658661460741 : Unit := ()
def tw1514329601306148645 : Unit := ()
def tw8479479836625857349 : Unit := ()
def tw3162571129097102181 : Unit := ()
def tw2181079143939263494 : Unit := ()
def tw5429372887514552358 : Unit := ()
def tw5579012901258045542 : Unit := ()
def tw14132737400152000678 : Unit := ()
def tw5954278672613767334 : Unit := ()
def tw5418724302982591686 : Unit := ()
def tw7180725527296592070 : Unit := ()
def tw18135288114001785254 : Unit := ()
def tw869092652319579590 : Unit := ()
def tw15201954266048821766 : Unit := ()
def tw9733964291353704966 : Unit := ()
def tw10480998178669735462 : Unit := ()
def tw14409694499695665830 : Unit := ()
def tw12230327944897140422 : Unit := ()
def tw15564319734365751078 : Unit := ()
def tw1063872810207751014 : Unit := ()
def tw15968931962582653959 : Unit := ()
def tw10795357765271627847 : Unit := ()
def tw9073643310625118407 : Unit := ()
def tw10450618052052344103 : Unit := ()
def tw13185219805002211687 : Unit := ()
def tw12594902219966800263 : Unit := ()
def tw2820296842473702151 : Unit := ()
def tw11142324317500189511 : Unit := ()
def tw3963686024545562471 : Unit := ()
def tw11757315677784309607 : Unit := ()
def tw11328580164920827879 : Unit := ()
def tw17179356449868577800 : Unit := ()
def tw16192508689065124904 : Unit := ()
def tw9234109039499855912 : Unit := ()
def tw5474302397112497256 : Unit := ()
def tw12305386465064002792 : Unit := ()
def tw1844635345111288072 : Unit := ()
def tw15626595707529290024 : Unit := ()
def tw6994172106130017608 : Unit := ()
def tw16564471987696889192 : Unit := ()
def tw10729129763265896840 : Unit := ()
def tw5840202370770441864 : Unit := ()
def tw18376668679227337448 : Unit := ()
def tw704190886491731720 : Unit := ()
def tw8807809672465094536 : Unit := ()
def tw15984386525611965320 : Unit := ()
def tw758015889206699912 : Unit := ()
def tw9582811387993930696 : Unit := ()
def tw181741461682294760 : Unit := ()
def tw6017704253194657768 : Unit := ()
def tw4235428596367846376 : Unit := ()
def tw4280623782083959817 : Unit := ()
def tw4589761594079449129 : Unit := ()
def tw16817629577929060393 : Unit := ()
def tw16286392792027901001 : Unit := ()
def tw2933725407402869897 : Unit := ()
def tw15391463746170147273 : Unit := ()
def tw5582366746403330665 : Unit := ()
def tw16790051912977980073 : Unit := ()
def tw10823778620456037033 : Unit := ()
def tw11436056467921449705 : Unit := ()
def tw4435370557913062121 : Unit := ()
def tw9740023610704716585 : Unit := ()
def tw2943365037377723241 : Unit := ()
def tw14874823316364908489 : Unit := ()
def tw4589085297548222570 : Unit := ()
def tw17583270007295573194 : Unit := ()
def tw6841187403843080458 : Unit := ()
def tw3358107443326819626 : Unit := ()
def tw11495933597740403082 : Unit := ()
def tw5800760388588023178 : Unit := ()
def tw17382841675259996682 : Unit := ()
def tw10930027672637871754 : Unit := ()
def tw8012128911095441034 : Unit := ()
def tw387800590089455274 : Unit := ()
def tw1812555006403404490 : Unit := ()
def tw15842490364082513610 : Unit := ()
def tw3412808638614717194 : Unit := ()
def tw578045307855869834 : Unit := ()
def tw12025907040178580362 : Unit := ()
def tw17274861081235908522 : Unit := ()
def tw16001417503617361866 : Unit := ()
def tw5815022483361539147 : Unit := ()
def tw17405703141117340779 : Unit := ()
def tw12980152662830289067 : Unit := ()
def tw16009700935361980747 : Unit := ()
def tw6321133824685893963 : Unit := ()
def tw14965818404206619019 : Unit := ()
def tw5571908626278664715 : Unit := ()
def tw10002798108971422251 : Unit := ()
def tw16263821852211649099 : Unit := ()
def tw16914309268249769547 : Unit := ()
def tw11892606124252402347 : Unit := ()
def tw16433977629070285515 : Unit := ()
def tw13662063510697688875 : Unit := ()
def tw12745349600004391787 : Unit := ()
def tw8360521201837827947 : Unit := ()
def tw11294529029092353931 : Unit := ()
def tw16628521443740031947 : Unit := ()
def tw4593076010308799467 : Unit := ()
def tw16994820266420459564 : Unit := ()
def tw2670264433971243148 : Unit := ()
def tw17239415118427124876 : Unit := ()
def tw6084695118579837164 : Unit := ()
def tw14514272628694833388 : Unit := ()
def tw354217265399434508 : Unit := ()
def tw4586157502059200812 : Unit := ()
def tw13540273398693535052 : Unit := ()
def tw13985850957844229484 : Unit := ()
def tw3706838992764820876 : Unit := ()
def tw16129634357565513196 : Unit := ()
def tw1264496710604914156 : Unit := ()
def tw3591247790592968300 : Unit := ()
def tw9554458647486092012 : Unit := ()
def tw3671327182052007692 : Unit := ()
def tw3681230017215749932 : Unit := ()
def tw8586137441615637292 : Unit := ()
def tw4433073608268263308 : Unit := ()
def tw16430678570062825388 : Unit := ()
def tw9787050696846953452 : Unit := ()
def tw18241388935827870700 : Unit := ()
def tw8118375062763256909 : Unit := ()
def tw9357367039887632461 : Unit := ()
def tw12694371824534188109 : Unit := ()
def tw3218038146538506349 : Unit := ()
def tw3078803407605472365 : Unit := ()
def tw307181263240299693 : Unit := ()
def tw11234866261405121741 : Unit := ()
def tw3843804805022801197 : Unit := ()
def tw3264297877543025997 : Unit := ()
def tw12144326380040115533 : Unit := ()
def tw3947320261163564429 : Unit := ()
def tw11610822949514512781 : Unit := ()
def tw3402451196014700941 : Unit := ()
def tw8705215245210110381 : Unit := ()
def tw5395188774592535981 : Unit := ()
def tw760958230157780397 : Unit := ()
def tw12199444805869502925 : Unit := ()
def tw16832006994427681261 : Unit := ()
def tw185545543014719981 : Unit := ()
def tw3040087235875105293 : Unit := ()
def tw17992211114319801965 : Unit := ()
def tw17407061303437476557 : Unit := ()
def tw366840890417915629 : Unit := ()
def tw16663372951179380461 : Unit := ()
def tw7243425732768682829 : Unit := ()
def tw12190638713377661869 : Unit := ()
def tw5541999276147510221 : Unit := ()
def tw7947761390124403661 : Unit := ()
def tw14810024972408266701 : Unit := ()
def tw16178308140172740750 : Unit := ()
def tw15514952594619384110 : Unit := ()
def tw15074434266944750926 : Unit := ()
def tw14862270073929598382 : Unit := ()
def tw3024236664891767214 : Unit := ()
def tw4854500568727962190 : Unit := ()
def tw3252784471976349326 : Unit := ()
def tw15517948633777391310 : Unit := ()
def tw8740977873797563150 : Unit := ()
def tw16896920174508818254 : Unit := ()
def tw5155314760939564878 : Unit := ()
def tw15490525837035116398 : Unit := ()
def tw17494811841744487406 : Unit := ()
def tw962524103357056111 : Unit := ()
def tw17086248411365301455 : Unit := ()
def tw14335572411875709231 : Unit := ()
def tw4397666715360478543 : Unit := ()
def tw5676486864635805071 : Unit := ()
def tw12405953029527249327 : Unit := ()
def tw15515022881936209327 : Unit := ()
def tw3780029651881960015 : Unit := ()
def tw8558038147897352943 : Unit := ()
def tw5864821299833940783 : Unit := ()
def tw17463783706171853775 : Unit := ()
def tw13942460004153743311 : Unit := ()
def tw685816621953637327 : Unit := ()
def tw4961500119640642672 : Unit := ()
def tw16357528739561767088 : Unit := ()
def tw14261549251893993648 : Unit := ()
def tw3617690854139562256 : Unit := ()
def tw2933008982944271664 : Unit := ()
def tw17640684186051089872 : Unit := ()
def tw16157989933073178096 : Unit := ()
def tw14182496271468390960 : Unit := ()
def tw17384347276077092432 : Unit := ()
def tw10715991725565325936 : Unit := ()
def tw2548978169206707888 : Unit := ()
def tw9654987339932851888 : Unit := ()
def tw18223869116943980336 : Unit := ()
def tw1830933882873285456 : Unit := ()
def tw3884955232494073680 : Unit := ()
def tw14223207904173921232 : Unit := ()
def tw14802586535526338641 : Unit := ()
def tw10410003721155964113 : Unit := ()
def tw8291250895560222033 : Unit := ()
def tw16549429190121282897 : Unit := ()
def tw18248832879414669873 : Unit := ()
def tw2192754223406739217 : Unit := ()
def tw11490409584287481649 : Unit := ()
def tw9756407887921481553 : Unit := ()
def tw15906752212549524305 : Unit := ()
def tw7659539505098245009 : Unit := ()
def tw9798354602977816561 : Unit := ()
def tw10985466927593033842 : Unit := ()
def tw16831392206550771858 : Unit := ()
def tw18200404573840536722 : Unit := ()
def tw12442997865822886066 : Unit := ()
def tw15600149698802042034 : Unit := ()
def tw18404361769685342418 : Unit := ()
def tw13478791085322130674 : Unit := ()
def tw16512414133649475954 : Unit := ()
def tw16640850329119908210 : Unit := ()
def tw3849265859898399250 : Unit := ()
def tw16578235374501937746 : Unit := ()
def tw14332001282673875602 : Unit := ()
def tw447735720838208274 : Unit := ()
def tw9665405497658212114 : Unit := ()
def tw16608670096633914162 : Unit := ()
def tw3817748080810985298 : Unit := ()
def tw7466378805132014418 : Unit := ()
def tw10575290017106774962 : Unit := ()
def tw4936171499222760370 : Unit := ()
def tw5709361339473297555 : Unit := ()
def tw7287591341426050195 : Unit := ()
def tw3518537626046432499 : Unit := ()
def tw17160894207361417523 : Unit := ()
def tw16515372072614110547 : Unit := ()
def tw9267770538721709523 : Unit := ()
def tw17888888374162619859 : Unit := ()
def tw302848705699696115 : Unit := ()
def tw6625023232911528595 : Unit := ()
def tw7650887270144272051 : Unit := ()
def tw10679553462068910867 : Unit := ()
def tw16794442965327394643 : Unit := ()
def tw17042186009296908147 : Unit := ()
def tw4404148647777040339 : Unit := ()
def tw16551632206241967091 : Unit := ()
def tw8232732381543239764 : Unit := ()
def tw15749352715876824212 : Unit := ()
def tw18185949255608392884 : Unit := ()
def tw9336202861957768372 : Unit := ()
def tw18384836002888332500 : Unit := ()
def tw11195929441009101012 : Unit := ()
def tw10349101404250665204 : Unit := ()
def tw8161280405726037300 : Unit := ()
def tw250339931698039092 : Unit := ()
def tw16140124331540417844 : Unit := ()
def tw7143999826290951572 : Unit := ()
def tw2053207288250553748 : Unit := ()
def tw12263535625342379444 : Unit := ()
def tw17732546621999668 : Unit := ()
def tw17531613393821630132 : Unit := ()
def tw16273648781769476884 : Unit := ()
def tw15318200748330427188 : Unit := ()
def tw5924284101016857396 : Unit := ()
def tw14617001443706851156 : Unit := ()
def tw7440355631856239604 : Unit := ()
def tw10944463310780737589 : Unit := ()
def tw15456607824844940373 : Unit := ()
def tw3230352656945586325 : Unit := ()
def tw10601475012689402037 : Unit := ()
def tw16050139581313189109 : Unit := ()
def tw5235706693592234261 : Unit := ()
def tw14478034641263157525 : Unit := ()
def tw16676889871780945237 : Unit := ()
def tw9565968721443595605 : Unit := ()
def tw2625210782338926965 : Unit := ()
def tw17493148493940997589 : Unit := ()
def tw1446632358946405845 : Unit := ()
def tw11564248598959782421 : Unit := ()
def tw10275884471093015093 : Unit := ()
def tw17204468093045918261 : Unit := ()
def tw17576923043762074165 : Unit := ()
def tw8678096016208131669 : Unit := ()
def tw1360749259954661045 : Unit := ()
def tw18427797970827511509 : Unit := ()
def tw6219864586283078389 : Unit := ()
def tw7212033685363478485 : Unit := ()
def tw6962975233099187222 : Unit := ()
def tw15730572618476088374 : Unit := ()
def tw8600491539151217750 : Unit := ()
def tw12760572819888027766 : Unit := ()
def tw12611063754282221686 : Unit := ()
def tw7462886490378887318 : Unit := ()
def tw125758634875901174 : Unit := ()
def tw2674399184686294294 : Unit := ()
def tw5381508591911283990 : Unit := ()
def tw13937060858022699350 : Unit := ()
def tw13070367290491695574 : Unit := ()
def tw3548867321940095510 : Unit := ()
def tw15666338375315595830 : Unit := ()
def tw9530552791666267766 : Unit := ()
def tw914141019691181718 : Unit := ()
def tw16575592401825532598 : Unit := ()
def tw6685127537353803446 : Unit := ()
def tw17891371767602966262 : Unit := ()
def tw13331935752335777718 : Unit := ()
def tw1614827255688577014 : Unit := ()
def tw7499330770500855863 : Unit := ()
def tw16899964874855659639 : Unit := ()
def tw79947632161779991 : Unit := ()
def tw7992650724335741303 : Unit := ()
def tw15801117383371429335 : Unit := ()
def tw7096648811641481687 : Unit := ()
def tw13145082631290964471 : Unit := ()
def tw18442106258293167767 : Unit := ()
def tw7811701434077433559 : Unit := ()
def tw2240647889111547799 : Unit := ()
def tw4485498726925750199 : Unit := ()
def tw7764938437680630808 : Unit := ()
def tw4002131375226903576 : Unit := ()
def tw9612403950670606392 : Unit := ()
def tw13461673151308083288 : Unit := ()
def tw12574860817156888696 : Unit := ()
def tw13805177724600388760 : Unit := ()
def tw17636621331351409848 : Unit := ()
def tw15642136511814841528 : Unit := ()
def tw2094682792631886008 : Unit := ()
def tw9423308422475203800 : Unit := ()
def tw1600944089070986488 : Unit := ()
def tw11670642175303301432 : Unit := ()
def tw3978781940192863576 : Unit := ()
def tw9065504621197415800 : Unit := ()
def tw13640464315891976728 : Unit := ()
def tw11507230493009200664 : Unit := ()
def tw7959480416474677816 : Unit := ()
def tw17603219233564581432 : Unit := ()
def tw14606851808694417048 : Unit := ()
def tw12530986310217041592 : Unit := ()
def tw6828945914738143928 : Unit := ()
def tw7788596448523975480 : Unit := ()
def tw9659380664265190232 : Unit := ()
def tw13306567013494678424 : Unit := ()
def tw8340807531640075256 : Unit := ()
def tw13805417140975931417 : Unit := ()
def tw2168938035627274489 : Unit := ()
def tw2475896200869505401 : Unit := ()
def tw5922606122315482617 : Unit := ()
def tw3733526263420334617 : Unit := ()
def tw2112665058630301209 : Unit := ()
def tw2138144243113630265 : Unit := ()
def tw3961248797924698713 : Unit := ()
def tw10400735866180991737 : Unit := ()
def tw14027860418645832633 : Unit := ()
def tw4360129575396131801 : Unit := ()
def tw740679488727656602 : Unit := ()
def tw620844277358212250 : Unit := ()
def tw13932521603920324762 : Unit := ()
def tw9894034524631991546 : Unit := ()
def tw3481346623650441466 : Unit := ()
def tw8974825492205955322 : Unit := ()
def tw6955111608006678810 : Unit := ()
def tw4134994743765650714 : Unit := ()
def tw5370409180845317466 : Unit := ()
def tw10472526448331932314 : Unit := ()
def tw13000990697373605594 : Unit := ()
def tw8087596467203078906 : Unit := ()
def tw2639963917292599066 : Unit := ()
def tw1283919950522024858 : Unit := ()
def tw5115627457919715226 : Unit := ()
def tw9918852589735029754 : Unit := ()
def tw548041674594289723 : Unit := ()
def tw9803153591160846523 : Unit := ()
def tw15956686165042981083 : Unit := ()
def tw9283026428275056891 : Unit := ()
def tw6770904836031448379 : Unit := ()
def tw11669779428080497019 : Unit := ()
def tw16604550443108492667 : Unit := ()
def tw15792243456349032891 : Unit := ()
def tw11611348193068601819 : Unit := ()
def tw6902693411445099003 : Unit := ()
def tw11827814481868827227 : Unit := ()
def tw5551590706665116283 : Unit := ()
def tw8769958278406336123 : Unit := ()
def tw3093294980444901019 : Unit := ()
def tw7194945805681877691 : Unit := ()
def tw16655025885242406715 : Unit := ()
def tw14257621303311623995 : Unit := ()
def tw11267701358038201179 : Unit := ()
def tw5055659862509975387 : Unit := ()
def tw18363942750637674363 : Unit := ()
def tw1051757065092187067 : Unit := ()
def tw4198498512691017723 : Unit := ()
def tw4077796132470242332 : Unit := ()
def tw6693787946628571196 : Unit := ()
def tw3577336486628497532 : Unit := ()
def tw13606908248672189596 : Unit := ()
def tw976333630066291004 : Unit := ()
def tw16435302575296380220 : Unit := ()
def tw6643824934040779228 : Unit := ()
def tw5490609796988439036 : Unit := ()
def tw15537621698913423868 : Unit := ()
def tw8667735615478212156 : Unit := ()
def tw18370630907049162332 : Unit := ()
def tw16774724863311708796 : Unit := ()
def tw16109777945408379548 : Unit := ()
def tw4106489486615585436 : Unit := ()
def tw11750638038911141564 : Unit := ()
def tw5365277903852223228 : Unit := ()
def tw1565666009461458716 : Unit := ()
def tw7655012333853422460 : Unit := ()
def tw15682561170422079420 : Unit := ()
def tw8311620898275013564 : Unit := ()
def tw4150318519692806076 : Unit := ()
def tw14612940933908021212 : Unit := ()
def tw13331885175397697597 : Unit := ()
def tw11361672476578760861 : Unit := ()
def tw4811932369713285277 : Unit := ()
def tw15601445945491272957 : Unit := ()
def tw3986198618925005117 : Unit := ()
def tw12133276852795230525 : Unit := ()
def tw7910222030510807453 : Unit := ()
def tw12084473343617395101 : Unit := ()
def tw4514359998592682493 : Unit := ()
def tw3084943205031876157 : Unit := ()
def tw10218582455096048253 : Unit := ()
def tw16971902407319883421 : Unit := ()
def tw8022459993482706653 : Unit := ()
def tw15659313800285936445 : Unit := ()
def tw3704114490560282589 : Unit := ()
def tw2801284698691846174 : Unit := ()
def tw4403925611016798270 : Unit := ()
def tw12902131538063653950 : Unit := ()
def tw6703404588882104510 : Unit := ()
def tw16004131024264187102 : Unit := ()
def tw2189090442531795166 : Unit := ()
def tw16522750986127206686 : Unit := ()
def tw1367449673744322878 : Unit := ()
def tw7222661924965748190 : Unit := ()
def tw13015141223882777086 : Unit := ()
def tw12918253433422801406 : Unit := ()
def tw13737848183471010302 : Unit := ()
def tw524546793213517374 : Unit := ()
def tw17722581039490974366 : Unit := ()
def tw4517291698158596798 : Unit := ()
def tw11483338122351017822 : Unit := ()
def tw2187542592693474302 : Unit := ()
def tw6277649076259677247 : Unit := ()
def tw1725766545978187903 : Unit := ()
def tw9293182287995405471 : Unit := ()
def tw2414085433218148543 : Unit := ()
def tw17964050424036399327 : Unit := ()
def tw8463942272357774655 : Unit := ()
def tw14395638144359187775 : Unit := ()
def tw17013383433844740447 : Unit := ()
def tw507287776639446367 : Unit := ()
def tw3270701043552349631 : Unit := ()
def tw2236529364396844511 : Unit := ()
def tw2451818487615162911 : Unit := ()
def tw15668471930423164511 : Unit := ()
def tw1796682509449266911 : Unit := ()
def tw15254235421275597567 : Unit := ()
def tw1260617439514268447 : Unit := ()
def tw1334914836538870623 : Unit := ()
def tw1153948887234809759 : Unit := ()
def tw5066794625743131551 : Unit := ()
def tw3204569774913150911 : Unit := ()
end PySem.W.Fast
set_option Elab.async false
set_option linter.all false
set_option maxRecDepth 100000
/-! THE HAND LAYER, for ints, bools, texts, own classes, LISTS and tuples (index, slices, in, append, pop ..), calls, loops. Paste it whole ahead of your own text; what your proof does not reach may be deleted. -/
namespace L2
open PySem PySem.Spec PyProof.Rows

/-- a key: an int or a str -/
abbrev Key := Sum Int Str
def keyIs : Key → Value → Bool
  | .inl k, v => Value.isInt k v
  | .inr x, v => Value.isStrOf x v
def keyH (w : World) : Key → Int
  | .inl k => hashInt k
  | .inr x => hashStr w x
theorem keyIs_shape : ∀ {k : Key} {v : Value}, keyIs k v = true → (∃ i t, k = Sum.inl i ∧ v = Value.int i t) ∨ (∃ x t, k = Sum.inr x ∧ v = Value.str x t)
  | .inl i, v, h => by
    obtain ⟨t, e⟩ := Value.isInt_shape (k := i) (v := v) h
    exact .inl ⟨i, t, rfl, e⟩
  | .inr x, v, h => by
    obtain ⟨t, e⟩ := Value.isStrOf_shape (x := x) (v := v) h
    exact .inr ⟨x, t, rfl, e⟩
theorem keyIs_int (i : Int) (t : Tok) : keyIs (.inl i) (.int i t) = true := by simp [keyIs, Value.isInt]
theorem keyIs_str (x : Str) (t : Tok) : keyIs (.inr x) (.str x t) = true := by simp [keyIs, Value.isStrOf]
theorem key_ll (a b : Int) : decide ((Sum.inl a : Key) = Sum.inl b) = (a == b) := by
  by_cases e : a = b
  · subst e; simp
  · have h : ¬ (Sum.inl a : Key) = Sum.inl b := fun q => e (Sum.inl.inj q)
    rw [decide_eq_false h]
    exact (beq_eq_false_iff_ne.mpr e).symm
theorem key_rr (a b : Str) : decide ((Sum.inr a : Key) = Sum.inr b) = decide (a = b) := by
  by_cases e : a = b
  · subst e; simp
  · have h : ¬ (Sum.inr a : Key) = Sum.inr b := fun q => e (Sum.inr.inj q)
    rw [decide_eq_false h, decide_eq_false e]
theorem key_lr (a : Int) (b : Str) : decide ((Sum.inl a : Key) = Sum.inr b) = false := decide_eq_false (fun q => nomatch q)
theorem key_rl (a : Str) (b : Int) : decide ((Sum.inr a : Key) = Sum.inl b) = false := decide_eq_false (fun q => nomatch q)

def mixKind (prog : Program) (w : World) : PySem.KeyKind prog w Key where
  is := keyIs
  hash := keyH w
  inj := fun v a b ha hb => by
    rcases keyIs_shape ha with ⟨i, t, rfl, rfl⟩ | ⟨x, t, rfl, rfl⟩
    · rcases keyIs_shape hb with ⟨j, u, rfl, e⟩ | ⟨y, u, rfl, e⟩
      · injection e with e1 _; rw [e1]
      · exact nomatch e
    · rcases keyIs_shape hb with ⟨j, u, rfl, e⟩ | ⟨y, u, rfl, e⟩
      · exact nomatch e
      · injection e with e1 _; rw [e1]
  byValue := fun k v h => by
    rcases keyIs_shape h with ⟨i, t, rfl, rfl⟩ | ⟨x, t, rfl, rfl⟩ <;> rfl
  pyHash := fun hv h => by
    rcases keyIs_shape hv with ⟨i, t, rfl, rfl⟩ | ⟨x, t, rfl, rfl⟩
    · exact wpAny_pyHash_int h
    · exact wpAny_pyHash_str h
  eqBool := fun hu hv h => by
    rcases keyIs_shape hu with ⟨i, t, rfl, rfl⟩ | ⟨x, t, rfl, rfl⟩
    · rcases keyIs_shape hv with ⟨j, u, rfl, rfl⟩ | ⟨y, u, rfl, rfl⟩
      · rw [key_ll] at h; exact wpAny_eqBool_int h
      · rw [key_lr] at h; exact SeqAt.EqAt.int_str i t y u _ _ _ _ h
    · rcases keyIs_shape hv with ⟨j, u, rfl, rfl⟩ | ⟨y, u, rfl, rfl⟩
      · rw [key_rl] at h; exact SeqAt.EqAt.str_int x t j u _ _ _ _ h
      · rw [key_rr] at h; exact wpAny_eqBool_str h
  «strs» := fun k x t v h => by
    rcases keyIs_shape h with ⟨i, u, rfl, e⟩ | ⟨y, u, rfl, e⟩
    · exact nomatch e
    · injection e with e1 _
      subst e1
      cases v <;> rfl

theorem mixKind_int (prog : Program) (w : World) (i : Int) (t : Tok) : (mixKind prog w).is (.inl i) (.int i t) = true := keyIs_int i t
theorem mixKind_str (prog : Program) (w : World) (x : Str) (t : Tok) : (mixKind prog w).is (.inr x) (.str x t) = true := keyIs_str x t
end L2

namespace L2
open PySem PySem.Spec PyProof.Rows

/-- a value, without the heap -/
inductive V where
  | non | bl (b : Bool) | int (i : Int) | str (x : Str) | byt (b : Array UInt8) | flt (b : UInt64) | ref (a : Addr) | ty (n : String)
  deriving DecidableEq

def RelV : V → Value → Prop
  | .non, u => u = Value.none
  | .bl b, u => u = Value.bool b
  | .int i, u => ∃ t, u = Value.int i t
  | .str x, u => ∃ t, u = Value.str x t
  | .byt b, u => ∃ t, u = Value.bytes b t
  | .flt b, u => ∃ t, u = Value.float b t
  | .ref a, u => u = Value.ref a
  | .ty n, u => u = Value.type n

abbrev Vals : List V → List Value → Prop := Paired RelV
theorem Vals.length {xs : List V} {us : List Value} (r : Vals xs us) : xs.length = us.length := Paired.length r
theorem Vals.get : ∀ {xs : List V} {us : List Value} {i : Nat} {x : V}, Vals xs us → xs[i]? = some x → ∃ u, us[i]? = some u ∧ RelV x u
  | _, _, _, _, .nil, e => by simp at e
  | _, _, 0, _, .cons r _, e => by simp at e; subst e; exact ⟨_, rfl, r⟩
  | _, _, i + 1, x, .cons _ t, e => by
    obtain ⟨u, h1, h2⟩ := Vals.get (i := i) (x := x) t (by simpa using e)
    exact ⟨u, by simpa using h1, h2⟩
theorem Vals.set {x : V} {u : Value} (r : RelV x u) : ∀ {xs : List V} {us : List Value} (i : Nat), Vals xs us → Vals (xs.set i x) (us.set i u)
  | _, _, _, .nil => .nil
  | _, _, 0, .cons _ t => .cons r t
  | _, _, i + 1, .cons q t => .cons q (Vals.set r i t)
theorem Vals.append : ∀ {xs ys : List V} {us ws : List Value}, Vals xs us → Vals ys ws → Vals (xs ++ ys) (us ++ ws)
  | _, _, _, _, .nil, s => s
  | _, _, _, _, .cons r t, s => .cons r (Vals.append t s)
theorem Vals.take : ∀ {xs : List V} {us : List Value} (n : Nat), Vals xs us → Vals (xs.take n) (us.take n)
  | _, _, 0, _ => .nil
  | _, _, _ + 1, .nil => .nil
  | _, _, n + 1, .cons r t => .cons r (Vals.take n t)
theorem Vals.drop : ∀ {xs : List V} {us : List Value} (n : Nat), Vals xs us → Vals (xs.drop n) (us.drop n)
  | _, _, 0, r => r
  | _, _, _ + 1, .nil => .nil
  | _, _, n + 1, .cons _ t => Vals.drop n t

def RelO : Option V → Option Value → Prop
  | some v, some u => RelV v u
  | none, none => True
  | _, _ => False
def KV {κ : Type} : List (κ × V) → List (κ × Value) → Prop := Paired fun (p : κ × V) (q : κ × Value) => p.1 = q.1 ∧ RelV p.2 q.2

/-- a key of a dict (00_mix): an int or a text -/
def kV : Key → V
  | .inl i => .int i
  | .inr x => .str x

/-- what stands at a tracked address -/
inductive HO where
  /-- a list -/
  | lst (xs : List V)
  /-- a tuple (never changes) -/
  | tup (xs : List V)
  /-- a dict whose keys are ints and texts; one whose keys are tuples of ints and texts (the empty one is both) -/
  | dK (kvs : List (Key × V)) | dT (kvs : List (List Key × V))
  /-- a set of ints: its members, its size -/
  | set (S : Int → Bool) (n : Nat)
  /-- an instance of the class at C, its dict at dx, its attributes -/
  | ins (C dx : Addr) (fs : List (Str × V))
  /-- the dict of the instance at x -/
  | own (x : Addr)
  /-- the dict of an exception -/
  | xd (fs : List (Str × V))
  /-- a bound method, f of x -/
  | met (f x : Addr)
  /-- a range object lo, lo + 1, .. below hi -/
  | rng (lo hi : Int)
  /-- a thing that is known to the object (the script; a dict while a loop walks it): read, never written while it is so -/
  | frz (o : Obj) (u : HO)
  /-- a code object's table -/
  | tbl (ps : Array Value)
  /-- any other thing, by what is true of its one object (a def of one's own: SetO a S n := HO.ext fun h => ..) -/
  | ext (φ : Heap → Prop)

abbrev Hp := Addr → Option HO
def upd (H : Hp) (a : Addr) (o : HO) : Hp := fun b => if b = a then some o else H b
theorem upd_same {H : Hp} {a : Addr} {o : HO} : upd H a o a = some o := by unfold upd; rw [if_pos rfl]
theorem upd_ne {H : Hp} {a b : Addr} {o : HO} (h : b ≠ a) : upd H a o b = H b := by unfold upd; rw [if_neg h]
/-- two objects of different content stand apart -/
theorem ne_of {H : Hp} {a b : Addr} {o u : HO} (h : H a = some o) (h' : H b = some u) (d : o ≠ u) : a ≠ b := by
  intro e; subst e; rw [h] at h'; exact d (Option.some.inj h')
theorem ne_of_none {H : Hp} {a b : Addr} {o : HO} (h : H a = some o) (h' : H b = none) : a ≠ b := by
  intro e; subst e; rw [h] at h'; cases h'

section
variable (P : Program) (w : World)
def ObjOk (H : Hp) (h : Heap) (a : Addr) : HO → Prop
  | .lst xs => xs.length ≤ sizeLine ∧ ∃ (its : List Value) (n : Nat), Vals xs its ∧ h.get? a = some { cls := .type "list", data := .seq its.toArray n }
  | .tup xs => xs.length ≤ sizeLine ∧ ∃ its : List Value, Vals xs its ∧ IsTup h a its.toArray
  | .dK kvs => kvs.length ≤ sizeLine ∧ (a == sysModules) = false ∧ ∃ vs, KV kvs vs ∧ h.DictOf (mixKind P w) a vs
  | .dT kvs => kvs.length ≤ sizeLine ∧ (a == sysModules) = false ∧ ∃ xs : List (List Key × Addr × Value),
      Paired (fun (p : List Key × V) (q : List Key × Addr × Value) => p.1 = q.1 ∧ H q.2.1 = some (.tup (p.1.map kV)) ∧ RelV p.2 q.2.2) kvs xs ∧
      ∃ o es ep, h.get? a = some o ∧ o.ExactDict ∧ o.data = .dict es ep ∧ es.toList = xs.map (entryOfKey (tupleKind (mixKind P w))) ∧ (xs.map (·.1)).Nodup
  | .set S n => h.SetOf (intKind P w) a S n
  | .ins C dx fs => H dx = some (.own a) ∧ fs.length ≤ 1000 ∧ dx ≠ a ∧ h.get? a = some (PySem.W.instObj C dx) ∧
      ∃ mA, h.Ns1 dx mA ∧ (∀ f, RelO (fs.lookup f) (mA f)) ∧ PySem.Within mA (fs.map (·.1))
  | .own _ => ∃ o, h.get? a = some o
  | .xd fs => ∃ mA, h.Ns1 a mA ∧ ∀ f, RelO (fs.lookup f) (mA f)
  | .rng lo hi => ∃ t u v, h.get? a = some { cls := .type "range", data := .fields #[.int lo t, .int hi u, .int 1 v] }
  | .frz o u => h.get? a = some o ∧ ObjOk H h a u
  | .tbl ps => h.get? a = some { cls := .none, data := .fields ps }
  | .met f x => h.get? a = some (PySem.W.methodObj (.ref f) (.ref x))
  | .ext φ => φ h ∧ (∃ o, h.get? a = some o) ∧ ∀ h1 h2 : Heap, φ h1 → (∀ o, h1.get? a = some o → h2.get? a = some o) → φ h2
/-- the abstract heap is held -/
def HOk (H : Hp) (h : Heap) : Prop := ∀ a o, H a = some o → ObjOk P w H h a o
end

section
variable {P : Program} {w : World} {H H' : Hp} {h h' : Heap} {a : Addr} {o : HO}
theorem ObjOk.lt (x : ObjOk P w H h a o) : a < h.objs.size := by
  cases o with
  | lst xs => obtain ⟨_, _, _, _, e⟩ := x; exact Heap.lt_size e
  | tup xs => obtain ⟨_, _, _, p⟩ := x; exact p.lt
  | dK kvs => obtain ⟨_, _, _, _, o, _, _, e, _⟩ := x; exact Heap.lt_size e
  | dT kvs => obtain ⟨_, _, _, _, o, _, _, e, _⟩ := x; exact Heap.lt_size e
  | set S n => obtain ⟨o, _, _, _, e, _⟩ := x; exact Heap.lt_size e
  | ins C dx fs => obtain ⟨_, _, _, e, _⟩ := x; exact Heap.lt_size e
  | own y => obtain ⟨_, e⟩ := x; exact Heap.lt_size e
  | xd fs => obtain ⟨_, ⟨_, _, _, e, _⟩, _⟩ := x; exact Heap.lt_size e
  | rng lo hi => obtain ⟨_, _, _, e⟩ := x; exact Heap.lt_size e
  | frz ob u => obtain ⟨e, _⟩ := x; exact Heap.lt_size e
  | tbl ps => exact Heap.lt_size (show h.get? a = some _ from x)
  | met f y => exact Heap.lt_size (show h.get? a = some _ from x)
  | ext φ => obtain ⟨_, ⟨_, e⟩, _⟩ := x; exact Heap.lt_size e
theorem Paired.mapP {α β : Type} {F G : α → β → Prop} : ∀ {l₁ : List α} {l₂ : List β}, Paired F l₁ l₂ → (∀ a b, F a b → G a b) → Paired G l₁ l₂
  | _, _, .nil, _ => .nil
  | _, _, .cons r t, f => .cons (f _ _ r) (Paired.mapP t f)
/-- what an object's description leans on: its own object, its own dict, the tuples -/
theorem ObjOk.stay (x : ObjOk P w H h a o) (k : ∀ b u, (b = a ∨ H b = some (.own a)) → h.get? b = some u → h'.get? b = some u)
    (ho : ∀ b, H b = some (.own a) → H' b = some (.own a)) (ht : ∀ b xs, H b = some (.tup xs) → H' b = some (.tup xs)) : ObjOk P w H' h' a o := by
  induction o with
  | lst xs => obtain ⟨z, its, n, r, e⟩ := x; exact ⟨z, its, n, r, k _ _ (.inl rfl) e⟩
  | tup xs => obtain ⟨z, its, r, ob, e, c⟩ := x; exact ⟨z, its, r, ob, k _ _ (.inl rfl) e, c⟩
  | dK kvs => obtain ⟨z, y, vs, r, ob, es, ep, e, c⟩ := x; exact ⟨z, y, vs, r, ob, es, ep, k _ _ (.inl rfl) e, c⟩
  | dT kvs =>
    obtain ⟨z, y, xs, r, ob, es, ep, e, c⟩ := x
    exact ⟨z, y, xs, Paired.mapP r fun p q z => ⟨z.1, ht _ _ z.2.1, z.2.2⟩, ob, es, ep, k _ _ (.inl rfl) e, c⟩
  | set S n => obtain ⟨ob, es, ep, t, e, c⟩ := x; exact ⟨ob, es, ep, t, k _ _ (.inl rfl) e, c⟩
  | ins C dx fs =>
    obtain ⟨d, z, ne, e, mA, ⟨od, es, ep, e2, c⟩, r⟩ := x
    exact ⟨ho _ d, z, ne, k _ _ (.inl rfl) e, mA, ⟨od, es, ep, k _ _ (.inr d) e2, c⟩, r⟩
  | own y => obtain ⟨ob, e⟩ := x; exact ⟨ob, k _ _ (.inl rfl) e⟩
  | xd fs => obtain ⟨mA, ⟨od, es, ep, e, c⟩, r⟩ := x; exact ⟨mA, ⟨od, es, ep, k _ _ (.inl rfl) e, c⟩, r⟩
  | rng lo hi => obtain ⟨t, u, v, e⟩ := x; exact ⟨t, u, v, k _ _ (.inl rfl) e⟩
  | frz ob u ih => obtain ⟨e, q⟩ := x; exact ⟨k _ _ (.inl rfl) e, ih q⟩
  | tbl ps =>
    have e : h.get? a = some { cls := .none, data := .fields ps } := x
    show h'.get? a = some { cls := .none, data := .fields ps }
    exact k a _ (.inl rfl) e
  | met f y =>
    have e : h.get? a = some (PySem.W.methodObj (.ref f) (.ref y)) := x
    show h'.get? a = some (PySem.W.methodObj (.ref f) (.ref y))
    exact k a _ (.inl rfl) e
  | ext φ => obtain ⟨p, ⟨o, e⟩, st⟩ := x; exact ⟨st _ _ p fun o q => k _ _ (.inl rfl) q, ⟨o, k _ _ (.inl rfl) e⟩, st⟩
theorem HOk.lt (x : HOk P w H h) (e : H a = some o) : a < h.objs.size := (x a o e).lt
theorem HOk.fresh (x : HOk P w H h) (e : h.objs.size ≤ a) : H a = none := by
  cases q : H a with
  | none => rfl
  | some u => exact absurd (Nat.lt_of_lt_of_le (x.lt q) e) (Nat.lt_irrefl _)
/-- every object of the heap is kept -/
theorem HOk.kept (x : HOk P w H h) (k : ∀ b u, h.get? b = some u → h'.get? b = some u) : HOk P w H h' := fun a o e =>
  (x a o e).stay (fun b u _ q => k b u q) (fun _ q => q) fun _ _ q => q
/-- a new object is laid and tracked -/
theorem HOk.laid (x : HOk P w H h) (k : ∀ b u, h.get? b = some u → h'.get? b = some u) (hp : h.objs.size ≤ a) (new : ObjOk P w (upd H a o) h' a o) : HOk P w (upd H a o) h' := fun b u e => by
  have hn := x.fresh hp
  by_cases hb : b = a
  · subst hb; rw [upd_same] at e; cases e; exact new
  · rw [upd_ne hb] at e
    exact (x b u e).stay (fun c v _ q => k c v q) (fun c q => by rw [upd_ne (ne_of_none q hn)]; exact q) fun c xs q => by rw [upd_ne (ne_of_none q hn)]; exact q
end

/-- what may be read as u: it is u, or a known u -/
def Rd (H : Hp) (a : Addr) (u : HO) : Prop := H a = some u ∨ ∃ o, H a = some (.frz o u)
theorem Rd.ok {P : Program} {w : World} {H : Hp} {h : Heap} {a : Addr} {u : HO} (r : Rd H a u) (x : HOk P w H h) : ObjOk P w H h a u := by
  rcases r with r | ⟨o, r⟩
  · exact x a u r
  · obtain ⟨_, q⟩ := x a _ r
    exact q
/-- what may be written -/
def Mut : Option HO → Prop
  | some (.lst _) => True
  | some (.dK _) => True
  | some (.dT _) => True
  | some (.set _ _) => True
  | some (.ins _ _ _) => True
  | some (.ext _) => True
  | _ => False
section
variable {P : Program} {w : World} {H : Hp} {h h' : Heap} {x e : Addr} {o' : HO}
/-- the object at e is changed: x itself, or the dict of the instance x -/
theorem HOk.write (ok : HOk P w H h) (mu : Mut (H x)) (he : e = x ∨ H e = some (.own x)) (k : ∀ b u, b ≠ e → h.get? b = some u → h'.get? b = some u) (heo : ∃ u, h'.get? e = some u)
    (new : ObjOk P w (upd H x o') h' x o') : HOk P w (upd H x o') h' := fun b u q => by
  have nown : ∀ c y, H c = some (.own y) → c ≠ x := fun c y r z => by subst z; rw [r] at mu; exact mu
  have ntup : ∀ c xs, H c = some (.tup xs) → c ≠ x := fun c xs r z => by subst z; rw [r] at mu; exact mu
  by_cases hb : b = x
  · subst hb; rw [upd_same] at q; cases q; exact new
  · rw [upd_ne hb] at q
    by_cases hbe : b = e
    · have q' : H b = some (.own x) := by
        rcases he with z | z
        · exact absurd (hbe.trans z) hb
        · rw [hbe]; exact z
      rw [q] at q'; cases q'
      obtain ⟨v, hv⟩ := heo
      exact ⟨v, by rw [hbe]; exact hv⟩
    · refine (ok b u q).stay (fun c v hc r => k c v ?_ r) (fun c r => by rw [upd_ne (nown c b r)]; exact r) fun c xs r => by rw [upd_ne (ntup c xs r)]; exact r
      rcases hc with rfl | hc
      · exact hbe
      · rintro rfl
        rcases he with z | z
        · exact nown c b hc z
        · rw [hc] at z; cases z; exact hb rfl
end

/-! ### kept unless tracked; of the frames at fs (the callers') the slots may change (an exception that passes writes there); of the records at ex (iterators) nothing is said -/
structure Un (fs ex : List Addr) (H H' : Hp) (h h' : Heap) : Prop where
  keep : ∀ b o, h.get? b = some o → H b = none → b ∉ fs → b ∉ ex → h'.get? b = some o
  slot : ∀ b o, h.get? b = some o → H b = none → b ∈ fs → b ∉ ex → ∃ sl, h'.get? b = some { o with slots := sl }
  free : ∀ b o, h.get? b = some o → H b = none → b ∉ ex → H' b = none
  there : ∀ b o, h.get? b = some o → b ∉ ex → ∃ o', h'.get? b = some o'
  tups : ∀ b xs, H b = some (.tup xs) → H' b = some (.tup xs)
  frzs : ∀ b o u, H b = some (.frz o u) → H' b = some (.frz o u)
  tbls : ∀ b ps, H b = some (.tbl ps) → ∃ more, H' b = some (.tbl (ps ++ more))
section
variable {fs fs' ex ex' : List Addr} {H H1 H2 : Hp} {h h1 h2 h' : Heap} {a x e : Addr} {o : HO}
theorem Un.any (u : Un fs ex H H1 h h1) {b : Addr} {ob : Obj} (q : h.get? b = some ob) (n : H b = none) (hx : b ∉ ex) : ∃ sl, h1.get? b = some { ob with slots := sl } := by
  by_cases hb : b ∈ fs
  · exact u.slot b ob q n hb hx
  · exact ⟨ob.slots, u.keep b ob q n hb hx⟩
theorem Un.kept (k : ∀ b u, h.get? b = some u → h'.get? b = some u) : Un fs ex H H h h' :=
  ⟨fun b ob q _ _ _ => k b ob q, fun b ob q _ _ _ => ⟨ob.slots, k b ob q⟩, fun _ _ _ n _ => n, fun b ob q _ => ⟨ob, k b ob q⟩, fun _ _ q => q, fun _ _ _ q => q, fun _ ps q => ⟨#[], by rw [q]; simp⟩⟩
theorem Un.refl : Un fs ex H H h h := Un.kept fun _ _ q => q
theorem Un.laid (k : ∀ b u, h.get? b = some u → h'.get? b = some u) (hp : h.objs.size ≤ a) (hn : H a = none) : Un fs ex H (upd H a o) h h' where
  keep := fun b u q _ _ _ => k b u q
  slot := fun b u q _ _ _ => ⟨u.slots, k b u q⟩
  free := fun b u q n _ => by rw [upd_ne (Nat.ne_of_lt (Nat.lt_of_lt_of_le (Heap.lt_size q) hp))]; exact n
  there := fun b u q _ => ⟨u, k b u q⟩
  tups := fun b xs q => by rw [upd_ne (ne_of_none q hn)]; exact q
  frzs := fun b u xs q => by rw [upd_ne (ne_of_none q hn)]; exact q
  tbls := fun b ps q => ⟨#[], by rw [upd_ne (ne_of_none q hn), q]; simp⟩
theorem Un.write (mu : Mut (H x)) (he : e = x ∨ H e = some (.own x)) (k : ∀ b u, b ≠ e → h.get? b = some u → h'.get? b = some u) (heo : ∃ u, h'.get? e = some u) : Un fs ex H (upd H x o) h h' := by
  have hx : ∀ b, H b = none → b ≠ x := fun b n z => by subst z; rw [n] at mu; exact mu
  have hb : ∀ b, H b = none → b ≠ e := fun b n z => by
    subst z
    rcases he with r | r
    · exact hx b n r
    · rw [n] at r; cases r
  have hm : ∀ b u, H b = some u → ¬ Mut (some u) → b ≠ x := fun b u q nm z => by subst z; rw [q] at mu; exact nm mu
  refine ⟨fun b u q n _ _ => k b u (hb b n) q, fun b u q n _ _ => ⟨u.slots, k b u (hb b n) q⟩, fun b u q n _ => by rw [upd_ne (hx b n)]; exact n, fun b u q _ => ?_,
    fun b xs q => by rw [upd_ne (hm b _ q fun z => z)]; exact q, fun b u xs q => by rw [upd_ne (hm b _ q fun z => z)]; exact q, fun b ps q => ⟨#[], by rw [upd_ne (hm b _ q fun z => z), q]; simp⟩⟩
  by_cases hbe : b = e
  · subst hbe; exact heo
  · exact ⟨u, k b u hbe q⟩
end

/-! ### the heap without what is tracked -/
def trk (h : Heap) (H : Hp) : List Addr := (List.range h.objs.size).filter fun a => (H a).isSome
def hidT (h : Heap) (H : Hp) : Heap := PySem.W.hideAll h (trk h H)
theorem hidT_size (h : Heap) (H : Hp) : (hidT h H).objs.size = h.objs.size := PySem.W.hideAll_size _ _
theorem hidT_get {h : Heap} {H : Hp} {b : Addr} {o : Obj} (e : h.get? b = some o) (n : H b = none) : (hidT h H).get? b = some o :=
  PySem.W.hideAll_get _ e fun hm => by
    have q : (H b).isSome = true := (List.mem_filter.mp hm).2
    rw [n] at q; simp at q
theorem of_hidT {h : Heap} {H : Hp} {b : Addr} {o : Obj} (e : (hidT h H).get? b = some o) : h.get? b = some o ∧ H b = none := by
  have e' : h.get? b = some o := PySem.W.of_hideAll (trk h H) e
  refine ⟨e', ?_⟩
  cases q : H b with
  | none => rfl
  | some x =>
    have hm : b ∈ trk h H := List.mem_filter.mpr ⟨List.mem_range.mpr (Heap.lt_size e'), by simp [q]⟩
    have z : (hidT h H).get? b = none := PySem.W.hideAll_none (trk h H) hm
    rw [z] at e; cases e

/-! ### OpenK's ledger, filled with every new object but one -/
end L2

namespace L2
open PySem PySem.Spec PyProof.Rows

/-- the module's facts, over the base: the heap at the law's entry without what is tracked there -/
structure Mod (K : PySem.W.Frag) (mg : Str → Option Value) (base : Heap) : Prop where
  kin : K.In base
  glob : base.Ns mainGlobals mg
  blt : ∃ mb, base.Ns builtinsNs mb ∧ ∀ x : Str, x ≠ "__name__" → mb x = bootBuiltins x
  nolimit : base.NoLimit

/-- the context: a def's body (or a comprehension's block) running. base: fixed through the whole law; s₀, H₀: the entry; outer: the frames whose slots others may change (a def's callers); stack: all frames that run;
   ex: iterators that were made ahead of the entry and are walked here (a comprehension's); fn: the names whose cells were made at the entry (a def: all; a comprehension's block: its own); calm: not within an except suite; pn: pins that every state bears; xe: what is wanted of an exception that leaves the code -/
structure Cx where
  prog : Program
  w : World
  K : PySem.W.Frag
  mg : Str → Option Value
  base : Heap
  A : Around
  N : List Str
  s₀ : Shared
  H₀ : Hp
  env : Env
  outer : List Env
  stack : List Env
  ex : List Addr
  fn : Str → Bool
  calm : Bool
  pn : List (Addr × Obj)
  xe : Value → Shared → Prop
/-- the callers' frames -/
def frs (l : List Env) : List Addr := l.filterMap (·.frame)
abbrev Cx.fs (X : Cx) : List Addr := frs X.outer

def Vis (sc : Scope) (x : Str) : Prop := sc.names.lookup x = some .local ∨ sc.names.lookup x = some .cell ∨ sc.names.lookup x = some .free
def Loc (sc : Scope) (x : Str) : Prop := sc.names.lookup x = some .local ∨ sc.names.lookup x = some .cell
def Look (env : Env) (h : Heap) (m : Str → Option Value) (x : Str) (u : Value) : Prop :=
  (env.kindOf x = some .local ∧ m x = some u) ∨ ((env.kindOf x = some .cell ∨ env.kindOf x = some .free) ∧ ∃ c, env.cells.lookup x = some c ∧ h.IsCell c (some u))

structure Cx.Ok (X : Cx) : Prop where
  mod : Mod X.K X.mg X.base
  kind : X.env.scope.kind = .function
  glob : X.env.globals = mainGlobals
  blt : X.env.builtins = builtinsNs
  above : X.s₀.heap.objs.size ≤ X.env.locals
  inj : ∀ x y c, X.env.cells.lookup x = some c → X.env.cells.lookup y = some c → x = y
  has : ∀ x, (X.env.kindOf x = some .cell ∨ X.env.kindOf x = some .free) → ∃ c, X.env.cells.lookup x = some c
  cab : ∀ x c, X.fn x = true → X.env.cells.lookup x = some c → X.s₀.heap.objs.size ≤ c
  hd : X.calm = true → X.A.handled = none
  frames : X.A.frames = some X.stack
  stk : X.stack = X.outer ∨ (X.stack = X.env :: X.outer ∧ X.env.frame = some X.env.locals)
  exf : ∀ b ∈ X.ex, b ≠ X.env.locals ∧ ∀ x c, X.env.cells.lookup x = some c → c ≠ b
  bs : ∀ b o, X.base.get? b = some o → X.s₀.heap.get? b = some o ∧ X.H₀ b = none
  bsz : X.base.objs.size ≤ X.s₀.heap.objs.size
  noex : ∀ b o, X.base.get? b = some o → b ∉ X.ex
  exfs : ∀ b ∈ X.ex, b ∉ X.fs
  funs : X.s₀.heap.FunFrames X.base X.outer
  frf : ∀ b ∈ X.fs, X.H₀ b = none

structure Inv (X : Cx) (pins : List (Addr × Obj)) (σ : List (Option V)) (H : Hp) (s : Shared) : Prop where
  ok : X.Ok
  os : s.os = X.s₀.os
  bare : AllBare s.gens
  base : Un X.fs X.ex X.H₀ H X.s₀.heap s.heap
  loc : ∃ m, s.heap.Ns X.env.locals m ∧ ∀ (i : Nat) (x : Str) (v : V), X.N[i]? = some x → σ[i]? = some (some v) → Vis X.env.scope x → ∃ u, RelV v u ∧ Look X.env s.heap m x u
  cell : ∀ x c, X.env.cells.lookup x = some c → ∃ v, s.heap.IsCell c v
  free : H X.env.locals = none
  freeC : ∀ x c, X.env.cells.lookup x = some c → H c = none
  pin : ∀ p ∈ X.pn ++ pins, s.heap.get? p.1 = some p.2 ∧ H p.1 = none ∧ p.1 ≠ X.env.locals ∧ p.1 ∉ X.fs ∧ ∀ v, p.2.data ≠ .cell v
  hok : HOk X.prog X.w H s.heap
  len : σ.length = X.N.length

section
variable {X : Cx} {pins : List (Addr × Obj)} {σ : List (Option V)} {H H' : Hp} {s : Shared} {h' : Heap}

theorem Cx.Ok.nofr (ok : X.Ok) {b : Addr} {o : Obj} (e : X.base.get? b = some o) : b ∉ X.fs := fun hb => by
  have := (ok.funs.mem hb).1
  rw [e] at this; cases this
theorem Inv.bs (I : Inv X pins σ H s) : ∀ b o, X.base.get? b = some o → s.heap.get? b = some o ∧ H b = none := fun b o e =>
  ⟨I.base.keep b o (I.ok.bs b o e).1 (I.ok.bs b o e).2 (I.ok.nofr e) (I.ok.noex b o e), I.base.free b o (I.ok.bs b o e).1 (I.ok.bs b o e).2 (I.ok.noex b o e)⟩
theorem Inv.bk (I : Inv X pins σ H s) : ∀ b o, X.base.get? b = some o → s.heap.get? b = some o := fun b o e => (I.bs b o e).1
theorem Inv.mod (I : Inv X pins σ H s) : Mod X.K X.mg X.base := I.ok.mod
theorem Inv.kIn (I : Inv X pins σ H s) : X.K.In s.heap := I.ok.mod.kin.keeps I.bk
theorem Inv.lt (I : Inv X pins σ H s) : X.env.locals < s.heap.objs.size := let ⟨_, hn, _⟩ := I.loc; hn.lt
theorem Inv.sz (I : Inv X pins σ H s) : X.s₀.heap.objs.size ≤ s.heap.objs.size := Nat.le_trans I.ok.above (Nat.le_of_lt I.lt)
theorem Inv.nofs (I : Inv X pins σ H s) {a : Addr} (h : s.heap.objs.size ≤ a) : a ∉ X.fs := fun hb => by
  obtain ⟨_, o, ho, _⟩ := I.ok.funs.mem hb
  exact absurd (Nat.lt_of_lt_of_le (Heap.lt_size ho) (Nat.le_trans I.sz h)) (Nat.lt_irrefl _)
theorem Inv.cne (I : Inv X pins σ H s) : ∀ x c, X.env.cells.lookup x = some c → c ≠ X.env.locals := fun x c e z => by
  obtain ⟨v, o, ho, hd⟩ := I.cell x c e
  obtain ⟨m, ⟨o', es, ep, ho', hd', _⟩, _⟩ := I.loc
  rw [z, ho'] at ho; cases ho; rw [hd'] at hd; cases hd
theorem Inv.funs (I : Inv X pins σ H s) : s.heap.FunFrames X.base X.outer := by
  have all : ∀ (l : List Env), (∀ b ∈ frs l, b ∈ X.fs) → X.s₀.heap.FunFrames X.base l → s.heap.FunFrames X.base l := by
    intro l
    induction l with
    | nil => intro _ _; trivial
    | cons env r ih =>
      intro hs hl
      obtain ⟨hk, ⟨L, o, hf, hn, ho, hd⟩, hr⟩ := hl
      have hL : L ∈ X.fs := hs L (by unfold frs; rw [List.filterMap_cons, hf]; exact List.mem_cons_self)
      obtain ⟨sl, e⟩ := I.base.slot L o ho (I.ok.frf L hL) hL fun z => I.ok.exfs L z hL
      exact ⟨hk, ⟨L, _, hf, hn, e, hd⟩, ih (fun b hb => hs b (by unfold frs; rw [List.filterMap_cons, hf]; exact List.mem_cons_of_mem _ hb)) hr⟩
  exact all X.outer (fun _ hb => hb) I.ok.funs

/-- the frames that run, for a call -/
theorem Inv.stack (I : Inv X pins σ H s) : s.heap.FunFrames X.base X.stack := by
  rcases I.ok.stk with e | ⟨e, hf⟩
  · rw [e]; exact I.funs
  · rw [e]
    obtain ⟨m, hn, _⟩ := I.loc
    refine .cons (by rw [I.ok.kind]; decide) hf hn ?_ I.funs
    exact Heap.get?_none_of_le (Nat.le_trans I.ok.bsz I.ok.above)
theorem Inv.stkSub (I : Inv X pins σ H s) : ∀ b ∈ frs X.stack, b ∈ X.env.locals :: X.fs := fun b hb => by
  rcases I.ok.stk with e | ⟨e, hf⟩
  · rw [e] at hb; exact List.mem_cons_of_mem _ hb
  · rw [e] at hb
    unfold frs at hb
    rw [List.filterMap_cons, hf] at hb
    exact hb
theorem Inv.stkFree (I : Inv X pins σ H s) : ∀ b ∈ frs X.stack, H b = none := fun b hb => by
  rcases List.mem_cons.mp (I.stkSub b hb) with e | hb
  · rw [e]; exact I.free
  · obtain ⟨_, o, ho, _⟩ := I.ok.funs.mem hb
    exact I.base.free b o ho (I.ok.frf b hb) fun z => I.ok.exfs b z hb

/-- THE STEP: the untracked objects but the frame and the records at ch are kept (the callers' frames up to slots), the frame's map is kept, the new abstract heap is held -/
theorem Inv.step {g' : Array GenState} {t' : Nat} {d' : Drawn} {ch : List Addr} (I : Inv X pins σ H s)
    (hch : ∀ b ∈ ch, (b ∈ X.ex ∨ X.s₀.heap.objs.size ≤ b) ∧ b ≠ X.env.locals ∧ (∀ x c, X.env.cells.lookup x = some c → c ≠ b) ∧ ∀ p ∈ X.pn ++ pins, p.1 ≠ b)
    (keep : ∀ b o, b ≠ X.env.locals → b ∉ X.fs → b ∉ ch → s.heap.get? b = some o → H b = none → h'.get? b = some o)
    (slot : ∀ b o, b ≠ X.env.locals → b ∈ X.fs → b ∉ ch → s.heap.get? b = some o → H b = none → ∃ sl, h'.get? b = some { o with slots := sl }) (free : ∀ b o, b ∉ ch → s.heap.get? b = some o → H b = none → H' b = none)
    (there : ∀ b o, b ∉ ch → s.heap.get? b = some o → ∃ o', h'.get? b = some o')
    (tups : ∀ b xs, H b = some (.tup xs) → H' b = some (.tup xs)) (frzs : ∀ b o u, H b = some (.frz o u) → H' b = some (.frz o u)) (tbls : ∀ b ps, H b = some (.tbl ps) → ∃ more, H' b = some (.tbl (ps ++ more)))
    (ns : ∀ m, s.heap.Ns X.env.locals m → h'.Ns X.env.locals m) (hok : HOk X.prog X.w H' h') (hg : AllBare g') :
    Inv X pins σ H' { s with heap := h', gens := g', drawn := d', toks := t' } := by
  have neL : ∀ b o, X.s₀.heap.get? b = some o → b ≠ X.env.locals := fun b o e => Nat.ne_of_lt (Nat.lt_of_lt_of_le (Heap.lt_size e) I.ok.above)
  have neC : ∀ b o, X.s₀.heap.get? b = some o → b ∉ X.ex → b ∉ ch := fun b o e hx hb => by
    rcases (hch b hb).1 with z | z
    · exact hx z
    · exact absurd (Nat.lt_of_lt_of_le (Heap.lt_size e) z) (Nat.lt_irrefl _)
  have cellK : ∀ x c, X.env.cells.lookup x = some c → ∀ v, s.heap.IsCell c v → h'.IsCell c v := fun x c e v ⟨o, ho, hd⟩ => by
    have nch : c ∉ ch := fun z => (hch c z).2.2.1 x c e rfl
    by_cases hc : c ∈ X.fs
    · obtain ⟨sl, q⟩ := slot c o (I.cne x c e) hc nch ho (I.freeC x c e)
      exact ⟨_, q, hd⟩
    · exact ⟨o, keep c o (I.cne x c e) hc nch ho (I.freeC x c e), hd⟩
  refine ⟨I.ok, I.os, hg, ⟨fun b o e n hb hx => ?_, fun b o e n hb hx => ?_, fun b o e n hx => ?_, fun b o e hx => ?_, fun b xs e => tups b xs (I.base.tups b xs e), fun b o xs e => frzs b o xs (I.base.frzs b o xs e), fun b ps e => ?_⟩, ?_, fun x c e => ?_, ?_, fun x c e => ?_, fun p hp => ?_, hok, I.len⟩
  · exact keep b o (neL b o e) hb (neC b o e hx) (I.base.keep b o e n hb hx) (I.base.free b o e n hx)
  · obtain ⟨sl, e1⟩ := I.base.slot b o e n hb hx
    obtain ⟨sl', e2⟩ := slot b _ (neL b o e) hb (neC b o e hx) e1 (I.base.free b o e n hx)
    exact ⟨sl', e2⟩
  · obtain ⟨o', e1⟩ := I.base.there b o e hx
    exact free b o' (neC b o e hx) e1 (I.base.free b o e n hx)
  · obtain ⟨o', e1⟩ := I.base.there b o e hx
    exact there b o' (neC b o e hx) e1
  · obtain ⟨m1, e1⟩ := I.base.tbls b ps e
    obtain ⟨m2, e2⟩ := tbls b _ e1
    exact ⟨m1 ++ m2, by rw [e2, Array.append_assoc]⟩
  · obtain ⟨m, hn, hl⟩ := I.loc
    refine ⟨m, ns m hn, fun i x v e1 e2 e3 => ?_⟩
    obtain ⟨u, r, l⟩ := hl i x v e1 e2 e3
    refine ⟨u, r, ?_⟩
    rcases l with l | ⟨k, c, e, z⟩
    · exact .inl l
    · exact .inr ⟨k, c, e, cellK x c e _ z⟩
  · obtain ⟨v, z⟩ := I.cell x c e
    exact ⟨v, cellK x c e v z⟩
  · obtain ⟨m, ⟨o, _, _, ho, _⟩, _⟩ := I.loc
    exact free _ o (fun z => (hch _ z).2.1 rfl) ho I.free
  · obtain ⟨v, o, ho, hd⟩ := I.cell x c e
    exact free c o (fun z => (hch c z).2.2.1 x c e rfl) ho (I.freeC x c e)
  · obtain ⟨e, n, ne, nf, d⟩ := I.pin p hp
    have nch : p.1 ∉ ch := fun z => (hch p.1 z).2.2.2 p hp rfl
    exact ⟨keep p.1 p.2 ne nf nch e n, free p.1 p.2 nch e n, ne, nf, d⟩
/-- .. where the frame's own object is kept too -/
theorem Inv.un {t' : Nat} (I : Inv X pins σ H s) (u : Un X.fs [] H H' s.heap h') (hok : HOk X.prog X.w H' h') : Inv X pins σ H' { s with heap := h', toks := t' } := by
  obtain ⟨m, ⟨o, es, ep, ho, r⟩, _⟩ := id I.loc
  obtain ⟨sl, hL⟩ := u.any ho I.free (by simp)
  exact I.step (g' := s.gens) (d' := s.drawn) (ch := []) (fun _ z => nomatch z) (fun b o _ hb _ e n => u.keep b o e n hb (by simp)) (fun b o _ hb _ e n => u.slot b o e n hb (by simp)) (fun b o _ e n => u.free b o e n (by simp)) (fun b o _ e => u.there b o e (by simp)) u.tups u.frzs u.tbls (fun m' hm => by
    obtain ⟨o', es', ep', ho', r'⟩ := hm
    rw [ho] at ho'; cases ho'
    exact ⟨_, es', ep', hL, r'⟩) hok I.bare
/-- behind a call (or a comprehension's block): the slots of this frame may have changed too, the records at ch may have turned -/
theorem Inv.call {g' : Array GenState} {t' : Nat} {d' : Drawn} {ch : List Addr} (I : Inv X pins σ H s) (u : Un (frs X.stack) ch H H' s.heap h') (hok : HOk X.prog X.w H' h') (hg : AllBare g')
    (hch : ∀ b ∈ ch, (b ∈ X.ex ∨ X.s₀.heap.objs.size ≤ b) ∧ b ≠ X.env.locals ∧ (∀ x c, X.env.cells.lookup x = some c → c ≠ b) ∧ ∀ p ∈ X.pn ++ pins, p.1 ≠ b) :
    Inv X pins σ H' { s with heap := h', gens := g', drawn := d', toks := t' } := by
  obtain ⟨m, ⟨o, es, ep, ho, r⟩, _⟩ := id I.loc
  obtain ⟨sl, hL⟩ := u.any ho I.free fun z => (hch _ z).2.1 rfl
  exact I.step (ch := ch) hch (fun b o hL hb hc e n => u.keep b o e n (fun z => (List.mem_cons.mp (I.stkSub b z)).elim hL hb) hc) (fun b o _ _ hc e n => u.any e n hc) (fun b o hc e n => u.free b o e n hc) (fun b o hc e => u.there b o e hc) u.tups u.frzs u.tbls (fun m' hm => by
    obtain ⟨o', es', ep', ho', r'⟩ := hm
    rw [ho] at ho'; cases ho'
    exact ⟨_, es', ep', hL, r'⟩) hok hg
/-- an untracked record of ours (an iterator) has turned -/
theorem Inv.turned {t' : Nat} {it : Addr} (I : Inv X pins σ H s) (k : ∀ b o, b ≠ it → s.heap.get? b = some o → h'.get? b = some o) (hn : H it = none) (hL : it ≠ X.env.locals)
    (h1 : it ∈ X.ex ∨ X.s₀.heap.objs.size ≤ it) (h2 : ∀ x c, X.env.cells.lookup x = some c → c ≠ it) (h3 : ∀ p ∈ X.pn ++ pins, p.1 ≠ it) : Inv X pins σ H { s with heap := h', toks := t' } := by
  have nit : ∀ b u, H b = some u → b ≠ it := fun b u e z => by rw [z, hn] at e; cases e
  refine I.step (g' := s.gens) (d' := s.drawn) (ch := [it]) (fun b hb => ?_) (fun b o _ _ hc e _ => k b o (fun z => hc (by simp [z])) e) (fun b o _ _ hc e _ => ⟨o.slots, k b o (fun z => hc (by simp [z])) e⟩) (fun _ _ _ _ n => n)
    (fun b o hc e => ⟨o, k b o (fun z => hc (by simp [z])) e⟩) (fun _ _ e => e) (fun _ _ _ e => e) (fun b ps e => ⟨#[], by rw [e]; simp⟩) (fun m hm => ?_) (fun b u e => ?_) I.bare
  · have e : b = it := by simpa using hb
    subst e
    exact ⟨h1, hL, h2, h3⟩
  · obtain ⟨o, es, ep, ho, r⟩ := hm
    exact ⟨o, es, ep, k _ o (Ne.symm hL) ho, r⟩
  · refine (I.hok b u e).stay (fun c v hc q => k c v ?_ q) (fun _ q => q) fun _ _ q => q
    rcases hc with z | z
    · rw [z]; exact nit b u e
    · exact nit c _ z
theorem Inv.tok (I : Inv X pins σ H s) (t : Nat) : Inv X pins σ H { s with toks := t } := I.un (h' := s.heap) (t' := t) Un.refl I.hok
/-- all objects kept -/
theorem Inv.kept {t' : Nat} (I : Inv X pins σ H s) (k : ∀ b u, s.heap.get? b = some u → h'.get? b = some u) : Inv X pins σ H { s with heap := h', toks := t' } := I.un (Un.kept k) (I.hok.kept k)
/-- a new object laid and tracked -/
theorem Inv.laid {a : Addr} {o : HO} {t' : Nat} (I : Inv X pins σ H s) (k : ∀ b u, s.heap.get? b = some u → h'.get? b = some u) (hp : s.heap.objs.size ≤ a) (new : ObjOk X.prog X.w (upd H a o) h' a o) :
    Inv X pins σ (upd H a o) { s with heap := h', toks := t' } := I.un (Un.laid k hp (I.hok.fresh hp)) (I.hok.laid k hp new)
/-- an object written -/
theorem Inv.write {x e : Addr} {o : HO} {t' : Nat} (I : Inv X pins σ H s) (mu : Mut (H x)) (he : e = x ∨ H e = some (.own x)) (k : ∀ b u, b ≠ e → s.heap.get? b = some u → h'.get? b = some u) (heo : ∃ u, h'.get? e = some u)
    (new : ObjOk X.prog X.w (upd H x o) h' x o) : Inv X pins σ (upd H x o) { s with heap := h', toks := t' } := I.un (Un.write mu he k heo) (I.hok.write mu he k heo new)
theorem Inv.pins_of {pins' : List (Addr × Obj)} (I : Inv X pins σ H s) (h : ∀ p ∈ pins', s.heap.get? p.1 = some p.2 ∧ H p.1 = none ∧ p.1 ≠ X.env.locals ∧ p.1 ∉ X.fs ∧ ∀ v, p.2.data ≠ .cell v) : Inv X pins' σ H s :=
  ⟨I.ok, I.os, I.bare, I.base, I.loc, I.cell, I.free, I.freeC, fun p hp => (List.mem_append.mp hp).elim (fun z => I.pin p (List.mem_append_left _ z)) (h p), I.hok, I.len⟩

theorem nodup_ix {N : List Str} (hN : N.Nodup) {i j : Nat} {x : Str} (a : N[i]? = some x) (b : N[j]? = some x) : i = j := by
  obtain ⟨h1, e1⟩ := List.getElem?_eq_some_iff.mp a
  obtain ⟨h2, e2⟩ := List.getElem?_eq_some_iff.mp b
  exact (List.getElem_inj hN).mp (e1.trans e2.symm)

/-- a name is stored; what changed -/
theorem store_ok2 {M : Model} {A : Around} {E : Value → Shared → Prop} {i : Nat} {x : Str} {v : V} {u : Value} {Q : Unit → Shared → Prop} (I : Inv X pins σ H s) (hN : X.N.Nodup) (hi : X.N[i]? = some x) (hx : Loc X.env.scope x) (r : RelV v u)
    (h : ∀ s', Inv X pins (σ.set i (some v)) H s' → (∃ a, Heap.SameBut a s.heap s'.heap ∧ (a = X.env.locals ∨ X.env.cells.lookup x = some a)) → Q () s') (hf : X.fn x = true ∨ X.env.scope.names.lookup x = some .local := by first | exact .inl rfl | exact .inr rfl | assumption) : wpAny M A (storeName X.env x u) Q E s := by
  obtain ⟨m, hn, hl⟩ := id I.loc
  have hcls : (X.env.scope.kind == .class || (X.env.scope.kind == .module && X.env.locals != X.env.globals)) = false := by rw [I.ok.kind]; rfl
  have hiσ : i < σ.length := by rw [I.len]; exact (List.getElem?_eq_some_iff.mp hi).1
  have cne := I.cne
  have tracked : ∀ {a : Addr} {h' : Heap}, (∃ o, s.heap.get? a = some o ∧ H a = none) → Heap.SameBut a s.heap h' → HOk X.prog X.w H h' := fun {a h'} ha hs b ob e => by
    obtain ⟨_, _, hfree⟩ := ha
    refine (I.hok b ob e).stay (fun c w' hc q => (hs.2 c ?_).trans q) (fun _ q => q) fun _ _ q => q
    rintro rfl
    rcases hc with rfl | hc
    · rw [hfree] at e; cases e
    · rw [hfree] at hc; cases hc
  rcases hx with hk | hk
  · refine wpAny_storeName_local hk hn (fun h' hn' hs => ?_) hcls
    obtain ⟨oL, _, _, hoL, _⟩ := id hn
    refine h _ ⟨I.ok, I.os, I.bare, ⟨fun b o e n hb hx => ?_, fun b o e n hb hx => ?_, I.base.free, fun b o e hx => ?_, I.base.tups, I.base.frzs, I.base.tbls⟩, ⟨_, hn', fun j y v' e1 e2 e3 => ?_⟩, fun y c e => ?_, I.free, I.freeC, fun p hp => ?_, tracked ⟨oL, hoL, I.free⟩ hs, by simpa using I.len⟩ ⟨_, hs, .inl rfl⟩
    · exact (hs.2 b (Nat.ne_of_lt (Nat.lt_of_lt_of_le (Heap.lt_size e) I.ok.above))).trans (I.base.keep b o e n hb hx)
    · obtain ⟨sl, e1⟩ := I.base.slot b o e n hb hx
      exact ⟨sl, (hs.2 b (Nat.ne_of_lt (Nat.lt_of_lt_of_le (Heap.lt_size e) I.ok.above))).trans e1⟩
    · obtain ⟨o', e1⟩ := I.base.there b o e hx
      exact ⟨o', (hs.2 b (Nat.ne_of_lt (Nat.lt_of_lt_of_le (Heap.lt_size e) I.ok.above))).trans e1⟩
    · by_cases hj : j = i
      · subst hj
        rw [hi] at e1; cases e1
        rw [List.getElem?_set_self hiσ] at e2
        cases e2
        exact ⟨u, r, .inl ⟨hk, by simp⟩⟩
      · rw [List.getElem?_set_ne (Ne.symm hj)] at e2
        obtain ⟨u', r', q⟩ := hl j y v' e1 e2 e3
        refine ⟨u', r', ?_⟩
        rcases q with ⟨k, e⟩ | ⟨k, c, e, z⟩
        · refine .inl ⟨k, ?_⟩
          have : y ≠ x := fun e => hj (nodup_ix hN e1 (e ▸ hi))
          simp [this, e]
        · exact .inr ⟨k, c, e, z.sameBut hs (cne y c e)⟩
    · obtain ⟨w', z⟩ := I.cell y c e
      exact ⟨w', z.sameBut hs (cne y c e)⟩
    · obtain ⟨e, n, ne, nf, d⟩ := I.pin p hp
      exact ⟨(hs.2 p.1 ne).trans e, n, ne, nf, d⟩
  · have hfn : X.fn x = true := by
      rcases hf with z | z
      · exact z
      · rw [z] at hk; cases hk
    obtain ⟨c, hc⟩ := I.ok.has x (.inl hk)
    obtain ⟨w', z⟩ := I.cell x c hc
    refine wpAny_storeName_cell I.ok.kind hk hc z (fun h' hc' hs => ?_)
    obtain ⟨oc, hoc, hocd⟩ := id z
    refine h { s with heap := h' } ⟨I.ok, I.os, I.bare, ⟨fun b o e n hb hx => ?_, fun b o e n hb hx => ?_, I.base.free, fun b o e hx => ?_, I.base.tups, I.base.frzs, I.base.tbls⟩, ⟨m, hn.sameBut hs (Ne.symm (cne x c hc)), fun j y v' e1 e2 e3 => ?_⟩, fun y c' e => ?_, I.free, I.freeC, fun p hp => ?_, tracked ⟨oc, hoc, I.freeC x c hc⟩ hs, by simpa using I.len⟩ ⟨c, hs, .inr hc⟩
    · exact (hs.2 b (Nat.ne_of_lt (Nat.lt_of_lt_of_le (Heap.lt_size e) (I.ok.cab x c hfn hc)))).trans (I.base.keep b o e n hb hx)
    · obtain ⟨sl, e1⟩ := I.base.slot b o e n hb hx
      exact ⟨sl, (hs.2 b (Nat.ne_of_lt (Nat.lt_of_lt_of_le (Heap.lt_size e) (I.ok.cab x c hfn hc)))).trans e1⟩
    · obtain ⟨o', e1⟩ := I.base.there b o e hx
      exact ⟨o', (hs.2 b (Nat.ne_of_lt (Nat.lt_of_lt_of_le (Heap.lt_size e) (I.ok.cab x c hfn hc)))).trans e1⟩
    · by_cases hj : j = i
      · subst hj
        rw [hi] at e1; cases e1
        rw [List.getElem?_set_self hiσ] at e2
        cases e2
        exact ⟨u, r, .inr ⟨.inl hk, c, hc, hc'⟩⟩
      · rw [List.getElem?_set_ne (Ne.symm hj)] at e2
        obtain ⟨u', r', q⟩ := hl j y v' e1 e2 e3
        refine ⟨u', r', ?_⟩
        rcases q with q | ⟨k, c', e, z'⟩
        · exact .inl q
        · refine .inr ⟨k, c', e, z'.sameBut hs ?_⟩
          rintro rfl
          exact hj (nodup_ix hN e1 (I.ok.inj _ _ _ e hc ▸ hi))
    · by_cases hcc : c' = c
      · subst hcc; exact ⟨_, hc'⟩
      · obtain ⟨w2, z2⟩ := I.cell y c' e
        exact ⟨w2, z2.sameBut hs hcc⟩
    · obtain ⟨e, n, ne, nf, d⟩ := I.pin p hp
      refine ⟨(hs.2 p.1 ?_).trans e, n, ne, nf, d⟩
      intro q
      rw [q, hoc] at e
      have q' : oc = p.2 := Option.some.inj e
      exact d w' (by rw [← q']; exact hocd)
theorem store_ok {M : Model} {A : Around} {E : Value → Shared → Prop} {i : Nat} {x : Str} {v : V} {u : Value} {Q : Unit → Shared → Prop} (I : Inv X pins σ H s) (hN : X.N.Nodup) (hi : X.N[i]? = some x) (hx : Loc X.env.scope x) (r : RelV v u)
    (h : ∀ s', Inv X pins (σ.set i (some v)) H s' → Q () s') (hf : X.fn x = true ∨ X.env.scope.names.lookup x = some .local := by first | exact .inl rfl | exact .inr rfl | assumption) : wpAny M A (storeName X.env x u) Q E s :=
  store_ok2 I hN hi hx r (fun s' I' _ => h s' I') hf
/-- behind a call or a block, the state as it is -/
theorem Inv.call' {s' : Shared} {ch : List Addr} (I : Inv X pins σ H s) (ho : s'.os = s.os) (u : Un (frs X.stack) ch H H' s.heap s'.heap) (hok : HOk X.prog X.w H' s'.heap) (hg : AllBare s'.gens)
    (hch : ∀ b ∈ ch, (b ∈ X.ex ∨ X.s₀.heap.objs.size ≤ b) ∧ b ≠ X.env.locals ∧ (∀ x c, X.env.cells.lookup x = some c → c ≠ b) ∧ ∀ p ∈ X.pn ++ pins, p.1 ≠ b) : Inv X pins σ H' s' := by
  obtain ⟨h', g', d', t', o'⟩ := s'
  have e : o' = s.os := ho
  subst e
  exact I.call (g' := g') (t' := t') (d' := d') u hok hg hch
end

/-! ### the judgements -/
/-- an exception: its class, its own dict's address (where it has one), the abstract heap behind it -/
abbrev XK := Value → Option Addr → Hp → Prop
abbrev St := List (Option V)
abbrev VK := V → Hp → Prop
/-- an expression's reading; a test's; an argument list's -/
abbrev TE := St → Hp → VK → Prop
abbrev TT := St → Hp → (Bool → Hp → Prop) → Prop
abbrev TA := St → Hp → (List V → Hp → Prop) → Prop
/-- what is wanted behind a statement -/
structure Ends where
  nx : St → Hp → Prop
  rt : VK
  bk : St → Hp → Prop := fun _ _ => False
  ct : St → Hp → Prop := fun _ _ => False
abbrev TS := Ends → St → Hp → Prop

def EP (X : Cx) (pins : List (Addr × Obj)) (σ : St) (Q : VK) (u : Value) (s' : Shared) : Prop := ∃ v H', Inv X pins σ H' s' ∧ RelV v u ∧ Q v H'
def TP (X : Cx) (pins : List (Addr × Obj)) (σ : St) (Q : Bool → Hp → Prop) (b : Bool) (s' : Shared) : Prop := ∃ H', Inv X pins σ H' s' ∧ Q b H'
def AP (X : Cx) (pins : List (Addr × Obj)) (σ : St) (Q : List V → Hp → Prop) (us : List Value) (s' : Shared) : Prop := ∃ vs H', Inv X pins σ H' s' ∧ Vals vs us ∧ Q vs H'
def SP (X : Cx) (pins : List (Addr × Obj)) (D : Ends) (f : Flow) (s' : Shared) : Prop :=
  match f with
  | .next => ∃ σ' H', Inv X pins σ' H' s' ∧ D.nx σ' H'
  | .brk => ∃ σ' H', Inv X pins σ' H' s' ∧ D.bk σ' H'
  | .cont => ∃ σ' H', Inv X pins σ' H' s' ∧ D.ct σ' H'
  | .ret u => ∃ v σ' H', Inv X pins σ' H' s' ∧ RelV v u ∧ D.rt v H'

def PE (X : Cx) (e : Expr) (t : TE) : Prop :=
  ∀ (pins : List (Addr × Obj)) (s : Shared) (σ : St) (H : Hp) (Q : VK), Inv X pins σ H s → t σ H Q → wpAny (model X.prog X.w) X.A (eval e X.env) (EP X pins σ Q) X.xe s
def PT (X : Cx) (e : Expr) (t : TT) : Prop :=
  ∀ (pins : List (Addr × Obj)) (s : Shared) (σ : St) (H : Hp) (Q : Bool → Hp → Prop), Inv X pins σ H s → t σ H Q → wpAny (model X.prog X.w) X.A (isTrue e X.env (eval e X.env)) (TP X pins σ Q) X.xe s
/-- a test whatever its 'whole' is (and, or) -/
def PW (X : Cx) (e : Expr) (t : TT) : Prop :=
  ∀ (whole : Sem Value) (pins : List (Addr × Obj)) (s : Shared) (σ : St) (H : Hp) (Q : Bool → Hp → Prop), Inv X pins σ H s → t σ H Q → wpAny (model X.prog X.w) X.A (isTrue e X.env whole) (TP X pins σ Q) X.xe s
theorem PW.pt {X : Cx} {e : Expr} {t : TT} (h : PW X e t) : PT X e t := h _
/-- an argument list (no star), from the left -/
def PA (X : Cx) (es : List Expr) (t : TA) : Prop :=
  ∀ (pos : Pos) (pins : List (Addr × Obj)) (s : Shared) (σ : St) (H : Hp) (Q : List V → Hp → Prop), Inv X pins σ H s → t σ H Q → wpAny (model X.prog X.w) X.A (spliced (backTo pos (starEach es X.env))) (AP X pins σ Q) X.xe s
def PS (X : Cx) (st : Stmt) (t : TS) : Prop :=
  ∀ (pins : List (Addr × Obj)) (s : Shared) (σ : St) (H : Hp) (D : Ends), Inv X pins σ H s → t D σ H → wpAny (model X.prog X.w) X.A (exec st X.env) (SP X pins D) X.xe s
def PSs (X : Cx) (st : List Stmt) (t : TS) : Prop :=
  ∀ (pins : List (Addr × Obj)) (s : Shared) (σ : St) (H : Hp) (D : Ends), Inv X pins σ H s → t D σ H → wpAny (model X.prog X.w) X.A (execs st X.env) (SP X pins D) X.xe s
/-- weaken the end -/
theorem thn {α : Type} {t : Sem α} {Q Q' : α → Shared → Prop} {M : Model} {A : Around} {E : Value → Shared → Prop} {s : Shared} (h : wpAny M A t Q E s) (hQ : ∀ a s, Q a s → Q' a s) : wpAny M A t Q' E s := wpAny_mono h hQ fun _ _ x => x
end L2

namespace L2
open PySem PySem.Spec PyProof.Rows
section
variable {X : Cx}


/-! ### names and constants -/
def tVar (i : Nat) : TE := fun σ H Q => ∃ v, σ[i]? = some (some v) ∧ Q v H
def tC (v : V) : TE := fun _ H Q => Q v H
theorem pe_var {i : Nat} {x : Str} {pos : Pos} (hN : X.N[i]? = some x) (hv : Vis X.env.scope x) (hd : (x == ("__debug__" : Str)) = false := by decide) (hcd : (x == ("__classdict__" : Str)) = false := by decide) : PE X (.Name x pos) (tVar i) := by
  intro pins s σ H Q I h
  obtain ⟨v, e, h⟩ := h
  obtain ⟨m, hn, hl⟩ := I.loc
  obtain ⟨u, r, l⟩ := hl i x v hN e hv
  have fin : EP X pins σ Q u s := ⟨v, H, I, r, h⟩
  rcases l with ⟨hk, hm⟩ | ⟨hk, c, hc, hcell⟩
  · exact wpAny_Name (wpAny_loadName_local I.ok.kind hk hn hm fin) hd
  · rcases hk with hk | hk
    · exact wpAny_Name (wpAny_loadName_cell I.ok.kind hk hc hcell fin) hd
    · exact wpAny_Name (wpAny_loadName_free I.ok.kind hk hc hcell fin hcd) hd
theorem pe_int {i j pos} : PE X (.Constant (.int i) j pos) (tC (.int i)) := fun _ _ _ H _ I h => wpAny_Constant_int ⟨.int i, H, I.tok _, ⟨_, rfl⟩, h⟩
theorem pe_bl {b j pos} : PE X (.Constant (.bool b) j pos) (tC (.bl b)) := fun _ _ _ H _ I h => Constant_bool ⟨.bl b, H, I, rfl, h⟩
theorem pe_non {j pos} : PE X (.Constant .none j pos) (tC .non) := fun _ _ _ H _ I h => Constant_none ⟨.non, H, I, rfl, h⟩
theorem pe_str {x j pos} : PE X (.Constant (.str x) j pos) (tC (.str x)) := fun _ _ _ H _ I h => Calls.Constant_str ⟨.str x, H, I.tok _, ⟨_, rfl⟩, h⟩

/-- a global name of the def -/
def Gl (X : Cx) (x : Str) : Prop := X.env.kindOf x = some .globalImplicit
theorem ld_glob {E : Value → Shared → Prop} {pins : List (Addr × Obj)} {s : Shared} {σ : St} {H : Hp} {x : Str} {u : Value} {pos : Pos} {Q : Value → Shared → Prop} (I : Inv X pins σ H s) (hg : Gl X x) (hm : X.mg x = some u) (h : Q u s)
    (hd : (x == ("__debug__" : Str)) = false := by decide) : wpAny (model X.prog X.w) X.A (eval (.Name x pos) X.env) Q E s :=
  Calls.Name_function_global I.ok.kind hg (Calls.loadGlobal_global (by rw [I.ok.glob]; exact I.mod.glob.keeps I.bk) hm h) hd
theorem ld_blt {E : Value → Shared → Prop} {pins : List (Addr × Obj)} {s : Shared} {σ : St} {H : Hp} {x : Str} {u : Value} {pos : Pos} {Q : Value → Shared → Prop} (I : Inv X pins σ H s) (hg : Gl X x) (hm : X.mg x = none) (hv : bootBuiltins x = some u) (h : Q u s)
    (hn : x ≠ "__name__" := by decide) (hd : (x == ("__debug__" : Str)) = false := by decide) : wpAny (model X.prog X.w) X.A (eval (.Name x pos) X.env) Q E s := by
  obtain ⟨mb, h1, h2⟩ := I.mod.blt
  exact Calls.Name_function_global I.ok.kind hg (Calls.loadGlobal_builtin (by rw [I.ok.glob]; exact I.mod.glob.keeps I.bk) hm (by rw [I.ok.blt]; exact h1.keeps I.bk) ((h2 x hn).trans hv) h) hd
/-- a module's constant, a class, a function, as a value -/
theorem pe_glob {x : Str} {v : V} {u : Value} {pos : Pos} (hg : Gl X x) (hm : X.mg x = some u) (r : RelV v u) (hd : (x == ("__debug__" : Str)) = false := by decide) : PE X (.Name x pos) (tC v) :=
  fun _ _ _ H _ I h => ld_glob I hg hm ⟨v, H, I, r, h⟩ hd
theorem pe_bltn {x : Str} {v : V} {u : Value} {pos : Pos} (hg : Gl X x) (hm : X.mg x = none) (hv : bootBuiltins x = some u) (r : RelV v u) (hn : x ≠ "__name__" := by decide) (hd : (x == ("__debug__" : Str)) = false := by decide) : PE X (.Name x pos) (tC v) :=
  fun _ _ _ H _ I h => ld_blt I hg hm hv ⟨v, H, I, r, h⟩ hn hd

/-! ### arithmetic -/
variable {a b : Expr} {ta tb : TE} {pos : Pos}

/-! ### comparisons -/
def PC (X : Cx) (op : CmpOp) (a b : Expr) (t : TE) : Prop :=
  ∀ (pins : List (Addr × Obj)) (s : Shared) (σ : St) (H : Hp) (Q : VK), Inv X pins σ H s → t σ H Q →
    wpAny (model X.prog X.w) X.A (eval a X.env) (fun v s₁ => wpAny (model X.prog X.w) X.A (eval b X.env) (fun u s₂ => wpAny (model X.prog X.w) X.A (compareOp op v u) (EP X pins σ Q) X.xe s₂) X.xe s₁) X.xe s
/-- a comparison as a value, as a test -/
def tB (t : TE) : TT := fun σ H Q => t σ H fun x H1 => ∃ c, x = .bl c ∧ Q c H1
theorem pt_cmp {op : CmpOp} {t : TE} (h : PC X op a b t) (h1 : behindInMarks op b = false := by first | exact nobehind _ (by decide) (by decide) | rfl) : PT X (.Compare a [op] [b] pos) (tB t) := by
  intro pins s σ H Q I hw
  refine wpAny_isTrue_Compare1 (thn (h pins s σ H _ I hw) fun v s1 h1 => thn h1 fun u s2 h2 => thn h2 fun c s3 ⟨x, H1, I1, r1, q1⟩ => ?_) h1
  obtain ⟨d, rfl, q⟩ := q1
  cases r1
  exact wpAny_truthy_bool ⟨H1, I1, q⟩
/-- an expression whose value is a bool, as a test -/
theorem pt_val {e : Expr} {t : TE} (h : PE X e t) (he : ∀ whole, isTrue e X.env whole = (do let v ← whole; standAt e.pos; holding [v] (truthy v)) := by intro _; rfl) : PT X e (tB t) := by
  intro pins s σ H Q I hw
  refine isTrue_plain (thn (h pins s σ H _ I hw) fun v s1 ⟨x, H1, I1, r1, q1⟩ => ?_) (he _)
  obtain ⟨d, rfl, q⟩ := q1
  cases r1
  exact wpAny_truthy_bool ⟨H1, I1, q⟩

/-! ### and, or, not -/
variable {tA tB' : TT} {rest : List Expr}
def tAnd (t u : TT) : TT := fun σ H Q => t σ H fun c H1 => if c = true then u σ H1 Q else Q false H1
def tOr (t u : TT) : TT := fun σ H Q => t σ H fun c H1 => if c = true then Q true H1 else u σ H1 Q
def tNot (t : TT) : TT := fun σ H Q => t σ H fun c H1 => Q (!c) H1
theorem pw_and1 (ha : PT X a tA) : PW X (.BoolOp .And [a] pos) tA := by
  intro wh pins s σ H Q I h
  refine isTrue_and (thn (ha pins s σ H Q I h) fun c s1 e => ?_)
  cases c with
  | true => exact isTrue_and_nil e
  | false => exact e
theorem pw_or1 (ha : PT X a tA) : PW X (.BoolOp .Or [a] pos) tA := by
  intro wh pins s σ H Q I h
  refine isTrue_or (thn (ha pins s σ H Q I h) fun c s1 e => ?_)
  cases c with
  | false => exact isTrue_or_nil e
  | true => exact e
theorem pw_and (ha : PT X a tA) (hb : PW X (.BoolOp .And (b :: rest) pos) tB') : PW X (.BoolOp .And (a :: b :: rest) pos) (tAnd tA tB') := by
  intro wh pins s σ H Q I h
  refine isTrue_and (thn (ha pins s σ H _ I h) fun c s1 ⟨H1, I1, q1⟩ => ?_)
  cases c with
  | true => exact hb wh pins s1 σ H1 Q I1 q1
  | false => exact ⟨H1, I1, q1⟩
theorem pw_or (ha : PT X a tA) (hb : PW X (.BoolOp .Or (b :: rest) pos) tB') : PW X (.BoolOp .Or (a :: b :: rest) pos) (tOr tA tB') := by
  intro wh pins s σ H Q I h
  refine isTrue_or (thn (ha pins s σ H _ I h) fun c s1 ⟨H1, I1, q1⟩ => ?_)
  cases c with
  | true => exact ⟨H1, I1, q1⟩
  | false => exact hb wh pins s1 σ H1 Q I1 q1
theorem pt_not (ha : PT X a tA) : PT X (.UnaryOp .Not a pos) (tNot tA) := by
  intro pins s σ H Q I h
  exact isTrue_not (ha pins s σ H (fun c H1 => Q (!c) H1) I h)
/-- .. as values (bools) -/
def tAndV (ta tb : TE) : TE := fun σ H Q => ta σ H fun x H1 => ∃ c, x = .bl c ∧ if c = true then tb σ H1 Q else Q (.bl false) H1
def tNotV (ta : TE) : TE := fun σ H Q => ta σ H fun x H1 => ∃ c, x = .bl c ∧ Q (.bl (!c)) H1
theorem pe_one {op} {t : TE} (h : PE X a t) : PE X (.BoolOp op [a] pos) t := fun pins s σ H Q I hw => BoolOp_one (h pins s σ H Q I hw)
theorem pe_and (ha : PE X a ta) (hb : PE X (.BoolOp .And (b :: rest) pos) tb) : PE X (.BoolOp .And (a :: b :: rest) pos) (tAndV ta tb) := by
  intro pins s σ H Q I h
  refine BoolOp_and (thn (ha pins s σ H _ I h) fun v s1 ⟨x, H1, I1, r1, q1⟩ => ?_)
  obtain ⟨c, rfl, q1⟩ := q1
  cases r1
  refine wpAny_truthy_bool ?_
  cases c with
  | true => exact hb pins s1 σ H1 Q I1 q1
  | false => exact ⟨.bl false, H1, I1, rfl, q1⟩
theorem pe_not (ha : PE X a ta) : PE X (.UnaryOp .Not a pos) (tNotV ta) := by
  intro pins s σ H Q I h
  refine UnaryOp_ (thn (ha pins s σ H _ I h) fun v s1 ⟨x, H1, I1, r1, q1⟩ => ?_)
  obtain ⟨c, rfl, q1⟩ := q1
  cases r1
  exact not_of (wpAny_truthy_bool ⟨.bl (!c), H1, I1, rfl, q1⟩)
/-- a if t else b -/
def tIf (t : TT) (ta tb : TE) : TE := fun σ H Q => t σ H fun c H1 => if c = true then ta σ H1 Q else tb σ H1 Q
theorem pe_ifExp {c : Expr} (hc : PT X c tA) (ha : PE X a ta) (hb : PE X b tb) : PE X (.IfExp c a b pos) (tIf tA ta tb) := by
  intro pins s σ H Q I h
  refine wpAny_IfExp (thn (hc pins s σ H _ I h) fun d s1 ⟨H1, I1, q1⟩ => ?_)
  cases d with
  | true => exact ha pins s1 σ H1 Q I1 q1
  | false => exact hb pins s1 σ H1 Q I1 q1
end
end L2

namespace L2
open PySem PySem.Spec PyProof.Rows

/-! ### a list, a tuple that is read: tracked, frozen, or an object of the module -/
def SqL (K : PySem.W.Frag) (H : Hp) (a : Addr) (xs : List V) : Prop :=
  Rd H a (.lst xs) ∨
    ∃ (o : Obj) (its : Array Value) (n : Nat), K.lookup a = some o ∧ o.cls = .type "list" ∧ o.dict = none ∧ o.data = .seq its n ∧ its.size ≤ sizeLine ∧ Vals xs its.toList
def SqT (K : PySem.W.Frag) (H : Hp) (a : Addr) (xs : List V) : Prop :=
  Rd H a (.tup xs) ∨
    ∃ (o : Obj) (its : Array Value) (n : Nat), K.lookup a = some o ∧ o.cls = .type "tuple" ∧ o.data = .seq its n ∧ its.size ≤ sizeLine ∧ Vals xs its.toList
def absV : Value → Option V
  | .none => some .non
  | .bool b => some (.bl b)
  | .int i _ => some (.int i)
  | .str x _ => some (.str x)
  | .bytes b _ => some (.byt b)
  | .float b _ => some (.flt b)
  | .ref a => some (.ref a)
  | .type n => some (.ty n)
  | _ => none
theorem RelV.abs {x : V} {u : Value} (r : RelV x u) : absV u = some x := by
  cases x with
  | non => cases r; rfl
  | bl _ => cases r; rfl
  | int _ => obtain ⟨t, rfl⟩ := r; rfl
  | str _ => obtain ⟨t, rfl⟩ := r; rfl
  | byt _ => obtain ⟨t, rfl⟩ := r; rfl
  | flt _ => obtain ⟨t, rfl⟩ := r; rfl
  | ref _ => cases r; rfl
  | ty _ => cases r; rfl
theorem RelV.inj {x y : V} {u : Value} (r : RelV x u) (q : RelV y u) : x = y := Option.some.inj (r.abs.symm.trans q.abs)
theorem Vals.inj : ∀ {xs ys : List V} {us : List Value}, Vals xs us → Vals ys us → xs = ys
  | _, _, _, .nil, .nil => rfl
  | _, _, _, .cons r t, .cons r' t' => by rw [r.inj r', Vals.inj t t']
section
variable {X : Cx} {pins : List (Addr × Obj)} {σ : St} {H : Hp} {s : Shared} {a : Addr} {xs ys : List V}
theorem SqL.of {K : PySem.W.Frag} (h : H a = some (.lst xs)) : SqL K H a xs := .inl (.inl h)
theorem SqT.of {K : PySem.W.Frag} (h : H a = some (.tup xs)) : SqT K H a xs := .inl (.inl h)
theorem Inv.list (I : Inv X pins σ H s) (h : SqL X.K H a xs) : ∃ its : List Value, Vals xs its ∧ PlainL s.heap a its.toArray ∧ xs.length ≤ sizeLine := by
  rcases h with h | ⟨o, its, n, hk, hc, hd, hs, hz, r⟩
  · obtain ⟨z, its, n, r, e⟩ := h.ok I.hok
    exact ⟨its, r, ⟨_, n, e, rfl, rfl, rfl⟩, z⟩
  · refine ⟨its.toList, r, ⟨o, n, I.kIn a o hk, hc, hd, by simpa using hs⟩, ?_⟩
    have e := r.length
    simp only [Array.length_toList] at e
    omega
theorem Inv.tuple (I : Inv X pins σ H s) (h : SqT X.K H a xs) : ∃ its : List Value, Vals xs its ∧ IsTup s.heap a its.toArray ∧ xs.length ≤ sizeLine := by
  rcases h with h | ⟨o, its, n, hk, hc, hs, hz, r⟩
  · obtain ⟨z, its, r, p⟩ := h.ok I.hok
    exact ⟨its, r, p, z⟩
  · refine ⟨its.toList, r, ⟨o, I.kIn a o hk, hc, n, by simpa using hs⟩, ?_⟩
    have e := r.length
    simp only [Array.length_toList] at e
    omega
theorem Inv.list_inj (I : Inv X pins σ H s) (h : SqL X.K H a xs) (h' : SqL X.K H a ys) : xs = ys := by
  obtain ⟨its, r, ⟨o, n, e, _, _, d⟩, _⟩ := I.list h
  obtain ⟨its', r', ⟨o', n', e', _, _, d'⟩, _⟩ := I.list h'
  rw [e] at e'; cases e'
  rw [d] at d'
  injection d' with d1 _
  have : its = its' := by simpa using congrArg Array.toList d1
  subst this
  exact r.inj r'
theorem Inv.tuple_inj (I : Inv X pins σ H s) (h : SqT X.K H a xs) (h' : SqT X.K H a ys) : xs = ys := by
  obtain ⟨its, r, ⟨o, e, _, n, d⟩, _⟩ := I.tuple h
  obtain ⟨its', r', ⟨o', e', _, n', d'⟩, _⟩ := I.tuple h'
  rw [e] at e'; cases e'
  rw [d] at d'
  injection d' with d1 _
  have : its = its' := by simpa using congrArg Array.toList d1
  subst this
  exact r.inj r'
end

/-! ### another wish about exceptions -/
abbrev Cx.wish (X : Cx) (E : Value → Shared → Prop) : Cx := { X with xe := E }
/-- no exception leaves -/
abbrev Cx.nox (X : Cx) : Cx := X.wish fun _ _ => False
theorem Cx.Ok.wish {X : Cx} (ok : X.Ok) (E : Value → Shared → Prop) : (X.wish E).Ok :=
  ⟨ok.mod, ok.kind, ok.glob, ok.blt, ok.above, ok.inj, ok.has, ok.cab, ok.hd, ok.frames, ok.stk, ok.exf, ok.bs, ok.bsz, ok.noex, ok.exfs, ok.funs, ok.frf⟩
theorem Cx.Ok.unwish {X : Cx} {E : Value → Shared → Prop} (ok : (X.wish E).Ok) : X.Ok :=
  ⟨ok.mod, ok.kind, ok.glob, ok.blt, ok.above, ok.inj, ok.has, ok.cab, ok.hd, ok.frames, ok.stk, ok.exf, ok.bs, ok.bsz, ok.noex, ok.exfs, ok.funs, ok.frf⟩
section
variable {X : Cx} {pins : List (Addr × Obj)} {σ : St} {H : Hp} {s : Shared} {E : Value → Shared → Prop}
theorem Inv.wish (I : Inv X pins σ H s) (E : Value → Shared → Prop) : Inv (X.wish E) pins σ H s := ⟨I.ok.wish E, I.os, I.bare, I.base, I.loc, I.cell, I.free, I.freeC, I.pin, I.hok, I.len⟩
theorem Inv.unwish (I : Inv (X.wish E) pins σ H s) : Inv X pins σ H s := ⟨I.ok.unwish, I.os, I.bare, I.base, I.loc, I.cell, I.free, I.freeC, I.pin, I.hok, I.len⟩
theorem SP.unwish {D : Ends} {f : Flow} {s' : Shared} (h : SP (X.wish E) pins D f s') : SP X pins D f s' := by
  cases f with
  | next => obtain ⟨σ', H', I, q⟩ := h; exact ⟨σ', H', I.unwish, q⟩
  | brk => obtain ⟨σ', H', I, q⟩ := h; exact ⟨σ', H', I.unwish, q⟩
  | cont => obtain ⟨σ', H', I, q⟩ := h; exact ⟨σ', H', I.unwish, q⟩
  | ret u => obtain ⟨v, σ', H', I, r, q⟩ := h; exact ⟨v, σ', H', I.unwish, r, q⟩
theorem PSs.nox {st : List Stmt} {t : TS} (h : PSs X.nox st t) : PSs X st t := fun pins s σ H D I hw =>
  wpAny_mono (h pins s σ H D (I.wish _) hw) (fun _ _ q => q.unwish) fun _ _ z => False.elim z
end

/-! ### blocks and small statements -/
section
variable {X : Cx} {st : Stmt} {rest : List Stmt} {t u : TS} {e : Expr} {te : TE} {pos : Pos}
def tNext : TS := fun D σ H => D.nx σ H
def tSeq (t u : TS) : TS := fun D σ H => t { D with nx := u D } σ H
theorem pss_nil : PSs X [] tNext := fun _ _ σ H _ I h => wpAny_execs_nil ⟨σ, H, I, h⟩
theorem pss_cons (h1 : PS X st t) (h2 : PSs X rest u) : PSs X (st :: rest) (tSeq t u) := by
  intro pins s σ H D I h
  refine wpAny_execs_cons (thn (h1 pins s σ H { D with nx := u D } I h) fun f s1 q => ?_)
  cases f with
  | next =>
    obtain ⟨σ', H', I', q⟩ := q
    exact h2 pins s1 σ' H' D I' q
  | ret v => exact q
  | brk => exact q
  | cont => exact q
theorem pss_one (h1 : PS X st t) : PSs X [st] t := by
  intro pins s σ H D I h
  refine wpAny_execs_cons (thn (h1 pins s σ H D I h) fun f s1 q => ?_)
  cases f with
  | next => exact wpAny_execs_nil q
  | ret v => exact q
  | brk => exact q
  | cont => exact q
/-- in a def's body nothing is shown -/
theorem Inv.quiet {pins : List (Addr × Obj)} {σ : St} {H : Hp} {s : Shared} (I : Inv X pins σ H s) : interactive X.env = false := by simp [interactive, I.ok.kind]
/-- an expression whose value is dropped -/
def tDrop (te : TE) : TS := fun D σ H => te σ H fun _ H1 => D.nx σ H1
theorem ps_expr (he : PE X e te) (hs : swapsWith e none pos.line X.env = pure false := by rfl) : PS X (.Expr e pos) (tDrop te) := by
  intro pins s σ H D I h
  exact wpAny_Expr_any (thn (he pins s σ H _ I h) fun v s1 ⟨x, H1, I1, r1, q1⟩ => ⟨σ, H1, I1, q1⟩) I.quiet hs
def tRet (te : TE) : TS := fun D σ H => te σ H D.rt
theorem ps_ret (he : PE X e te) : PS X (.Return (some e) pos) (tRet te) := by
  intro pins s σ H D I h
  exact wpAny_Return_some (thn (he pins s σ H _ I h) fun v s1 ⟨x, H1, I1, r1, q1⟩ => ⟨x, σ, H1, I1, r1, q1⟩)
def tIfS (c : TT) (t u : TS) : TS := fun D σ H => c σ H fun b H1 => if b = true then t D σ H1 else u D σ H1
theorem ps_if {c : Expr} {a b : List Stmt} {tc : TT} (hc : PT X c tc) (ha : PSs X a t) (hb : PSs X b u) : PS X (.If c a b pos) (tIfS tc t u) := by
  intro pins s σ H D I h
  refine wpAny_If (thn (hc pins s σ H _ I h) fun d s1 ⟨H1, I1, q1⟩ => ?_)
  cases d with
  | true => exact ha pins s1 σ H1 D I1 q1
  | false => exact hb pins s1 σ H1 D I1 q1
end

/-! ### targets -/
abbrev TG := V → St → Hp → (St → Hp → Prop) → Prop
abbrev TGs := List V → St → Hp → (St → Hp → Prop) → Prop
def PG (X : Cx) (target : Expr) (t : TG) : Prop :=
  ∀ (pins : List (Addr × Obj)) (s : Shared) (σ : St) (H : Hp) (v : V) (u : Value) (Q : St → Hp → Prop), Inv X pins σ H s → RelV v u → t v σ H Q →
    wpAny (model X.prog X.w) X.A (assign target X.env u) (fun _ s' => ∃ σ' H', Inv X pins σ' H' s' ∧ Q σ' H') X.xe s
/-- several targets, one after another -/
def PGs (X : Cx) (ts : List Expr) (t : TGs) : Prop :=
  ∀ (pins : List (Addr × Obj)) (s : Shared) (σ : St) (H : Hp) (vs : List V) (us : List Value) (Q : St → Hp → Prop), Inv X pins σ H s → Vals vs us → t vs σ H Q →
    wpAny (model X.prog X.w) X.A (assignInOrder ((assignEach ts X.env).map (·.2)) us) (fun _ s' => ∃ σ' H', Inv X pins σ' H' s' ∧ Q σ' H') X.xe s
/-- o[i] = v, by values -/
abbrev TSet := V → V → V → Hp → (Hp → Prop) → Prop
def PSet (X : Cx) (t : TSet) : Prop :=
  ∀ (pins : List (Addr × Obj)) (s : Shared) (σ : St) (H : Hp) (o i v : V) (ov iv u : Value) (Q : Hp → Prop), Inv X pins σ H s → RelV o ov → RelV i iv → RelV v u → t o i v H Q →
    wpAny (model X.prog X.w) X.A (setItem ov iv u) (fun _ s' => ∃ H', Inv X pins σ H' s' ∧ Q H') X.xe s
/-- a op= b, by values -/
abbrev TIp := V → V → Hp → VK → Prop
def PIp (X : Cx) (op : Operator) (t : TIp) : Prop :=
  ∀ (pins : List (Addr × Obj)) (s : Shared) (σ : St) (H : Hp) (x y : V) (v u : Value) (Q : VK), Inv X pins σ H s → RelV x v → RelV y u → t x y H Q →
    wpAny (model X.prog X.w) X.A (inplaceOp op v u) (EP X pins σ Q) X.xe s
section
variable {X : Cx} {pos : Pos}
def gName (i : Nat) : TG := fun v σ H Q => Q (σ.set i (some v)) H
theorem pg_name {i : Nat} {x : Str} (hN : X.N.Nodup) (hi : X.N[i]? = some x) (hx : Loc X.env.scope x) (hf : X.fn x = true ∨ X.env.scope.names.lookup x = some .local := by first | exact .inl rfl | exact .inr rfl | assumption) : PG X (.Name x pos) (gName i) := by
  intro pins s σ H v u Q I r h
  exact wpAny_assign_Name (store_ok I hN hi hx r (fun s' I' => ⟨_, H, I', h⟩) hf)
def gNil : TGs := fun vs σ H Q => vs = [] ∧ Q σ H
def gCons (t : TG) (u : TGs) : TGs := fun vs σ H Q => ∃ v r, vs = v :: r ∧ t v σ H fun σ' H' => u r σ' H' Q
theorem pgs_nil : PGs X [] gNil := by
  intro pins s σ H vs us Q I r h
  obtain ⟨e, h⟩ := h
  subst e
  cases r
  exact assignInOrder_nil ⟨σ, H, I, h⟩
theorem pgs_cons {e : Expr} {es : List Expr} {t : TG} {u : TGs} (h1 : PG X e t) (h2 : PGs X es u)
    (hs : (assignEach (e :: es) X.env).map (·.2) = assign e X.env :: (assignEach es X.env).map (·.2) := by rfl) : PGs X (e :: es) (gCons t u) := by
  intro pins s σ H vs us Q I r h
  obtain ⟨v, vr, e1, h⟩ := h
  subst e1
  cases r with
  | cons r rr =>
    rw [hs]
    refine assignInOrder_cons (thn (h1 pins s σ H _ _ _ I r h) fun _ s1 ⟨σ1, H1, I1, q1⟩ => ?_)
    exact h2 pins s1 σ1 H1 _ _ Q I1 rr q1
/-- (a, b, ..) = a tuple of that length -/
def gTup (K : PySem.W.Frag) (n : Nat) (t : TGs) : TG := fun v σ H Q => ∃ a xs, v = .ref a ∧ SqT K H a xs ∧ xs.length = n ∧ t xs σ H Q
theorem pg_tup {es : List Expr} {k : Nat} {t : TGs} {n : Nat} (hc : X.calm = true) (h : PGs X es t)
    (hn : (assignEach es X.env).length = n := by rfl) (hst : (assignEach es X.env).findIdx? (·.1) = none := by rfl) : PG X (.Tuple es k pos) (gTup X.K n t) := by
  intro pins s σ H v u Q I r hw
  obtain ⟨a, xs, e1, hq, hl, hw⟩ := hw
  subst e1
  cases r
  obtain ⟨its, rv, ht, hz⟩ := I.tuple hq
  refine assign_Tuple_tuple (I.ok.hd hc) ht (by simp [hn, ← hl, rv.length]) hst fun h' hx => ?_
  have I1 : Inv X pins σ H { s with heap := h' } := I.kept (t' := s.toks) fun b o e => hx b o (Nat.ne_of_lt (Heap.lt_size e)) e
  exact h pins _ σ H xs _ Q I1 (by simpa using rv) hw
/-- o[i] = .. -/
def gSub (to ti : TE) (t : TSet) : TG := fun v σ H Q => to σ H fun o H1 => ti σ H1 fun i H2 => t o i v H2 fun H3 => Q σ H3
theorem pg_sub {o i : Expr} {to ti : TE} {t : TSet} (ho : PE X o to) (hi : PE X i ti) (hs : PSet X t)
    (ha : ∀ v, assign (.Subscript o i pos) X.env v = (do
      let ov ← holding [v] (eval o X.env)
      let iv ← holding [v, ov] (eval i X.env)
      standAt pos
      holding [v, ov, iv] (setItem ov iv v)
      release [v, ov, iv] []) := by intro _; rfl) : PG X (.Subscript o i pos) (gSub to ti t) := by
  intro pins s σ H v u Q I r h
  rw [ha]
  refine wpAny_bind (wpAny_holding (thn (ho pins s σ H _ I h) fun ov s1 ⟨x, H1, I1, r1, q1⟩ => ?_))
  refine wpAny_bind (wpAny_holding (thn (hi pins s1 σ H1 _ I1 q1) fun iv s2 ⟨y, H2, I2, r2, q2⟩ => ?_))
  refine wpAny_bind (wpAny_standAt (wpAny_bind (wpAny_holding (thn (hs pins s2 σ H2 x y v ov iv u _ I2 r1 r2 r q2) fun _ s3 ⟨H3, I3, q3⟩ => ?_))))
  exact wpAny_release ⟨σ, H3, I3, q3⟩
/-- target = value -/
def tAsg (te : TE) (g : TG) : TS := fun D σ H => te σ H fun x H1 => g x σ H1 D.nx
theorem ps_asg {tg e : Expr} {te : TE} {g : TG} (he : PE X e te) (hg : PG X tg g) (hs : swapsWithSole [tg] e pos.line X.env = pure false := by rfl) (hw : swappedStores [tg] e X.env = pure none := by rfl)
    (h1 : (assignEach [tg] X.env).map (·.2) = [assign tg X.env] := by rfl) : PS X (.Assign [tg] e pos) (tAsg te g) := by
  intro pins s σ H D I h
  refine wpAny_Assign_stores (thn (he pins s σ H _ I h) fun v s1 ⟨x, H1, I1, r1, q1⟩ => ?_) hs hw
  rw [h1]
  exact thn (hg pins s1 σ H1 x v _ I1 r1 q1) fun _ s2 q => q
/-- name = value -/
theorem ps_set {i : Nat} {x : Str} {e : Expr} {te : TE} {pos' : Pos} (hN : X.N.Nodup) (hi : X.N[i]? = some x) (hx : Loc X.env.scope x) (he : PE X e te) (hs : swapsWith e (some (.Name x pos')) pos.line X.env = pure false := by rfl) (hf : X.fn x = true ∨ X.env.scope.names.lookup x = some .local := by first | exact .inl rfl | exact .inr rfl | assumption) :
    PS X (.Assign [.Name x pos'] e pos) (tAsg te (gName i)) := by
  intro pins s σ H D I h
  refine wpAny_Assign_Name (thn (he pins s σ H _ I h) fun v s1 ⟨y, H1, I1, r1, q1⟩ => ?_) hs
  exact store_ok I1 hN hi hx r1 (fun s2 I2 => ⟨_, H1, I2, q1⟩) hf
/-- o[i], by values -/
def PGet (X : Cx) (t : V → V → Hp → VK → Prop) : Prop :=
  ∀ (pins : List (Addr × Obj)) (s : Shared) (σ : St) (H : Hp) (o i : V) (ov iv : Value) (Q : VK), Inv X pins σ H s → RelV o ov → RelV i iv → t o i H Q →
    wpAny (model X.prog X.w) X.A (getItem ov iv) (EP X pins σ Q) X.xe s
end

/-! ### while -/
section
variable {X : Cx} {pos : Pos}
end

/-! ### what a loop or a comprehension walks -/
/-- at turn i: it yields x (the heap may grow), or it stops -/
structure It where
  go : Nat → Hp → Prop
  yld : Nat → Hp → V → Hp → Prop
  stop : Nat → Hp → Prop
/-- the iterator's own objects may turn: they are not the frame's, not pinned, younger than the entry (or a comprehension's own) -/
def FpOk (X : Cx) (pins : List (Addr × Obj)) (H : Hp) (b : Addr) : Prop :=
  H b = none ∧ b ≠ X.env.locals ∧ b ∉ X.fs ∧ (b ∈ X.ex ∨ X.s₀.heap.objs.size ≤ b) ∧ (∀ x c, X.env.cells.lookup x = some c → c ≠ b) ∧ ∀ p ∈ X.pn ++ pins, p.1 ≠ b
theorem Inv.fpOk {X : Cx} {pins : List (Addr × Obj)} {σ : St} {H H' : Hp} {s : Shared} {b : Addr} (I : Inv X pins σ H s) (hb : s.heap.objs.size ≤ b) (hn : H' b = none) : FpOk X pins H' b := by
  refine ⟨hn, Nat.ne_of_gt (Nat.lt_of_lt_of_le I.lt hb), I.nofs hb, .inr (Nat.le_trans I.sz hb), fun x c e z => ?_, fun p hp z => ?_⟩
  · obtain ⟨v, q⟩ := I.cell x c e
    exact absurd (Nat.lt_of_lt_of_le q.lt (by rw [z]; exact hb)) (Nat.lt_irrefl _)
  · exact absurd (Nat.lt_of_lt_of_le (Heap.lt_size (I.pin p hp).1) (by rw [z]; exact hb)) (Nat.lt_irrefl _)
structure Turn (P : Program) (w : World) (K : PySem.W.Frag) (tg : Expr) (J : It) (fp : List Addr) (it : Addr) (tn : Nat → Heap → Prop) : Prop where
  mem : it ∈ fp
  obj : ∀ i h, tn i h → ∀ b ∈ fp, ∃ o, h.get? b = some o ∧ ∀ v, o.data ≠ .cell v
  keep : ∀ i h h', tn i h → (∀ b ∈ fp, ∀ o, h.get? b = some o → h'.get? b = some o) → tn i h'
  item : ∀ (X : Cx), X.prog = P → X.w = w → X.K = K → X.calm = true → ∀ (i : Nat) (pins : List (Addr × Obj)) (s : Shared) (σ : St) (H : Hp) (E : Value → Shared → Prop), Inv X pins σ H s → (∀ b ∈ fp, FpOk X pins H b) → tn i s.heap → J.go i H →
    wpAny (model P w) X.A (pyNext (.ref it)) (fun r s1 => ∃ u, r = some u ∧
      wpAny (model P w) X.A (letOwnedTupleGo tg (.ref it) u) (fun _ s2 => ∃ x H', Inv X pins σ H' s2 ∧ RelV x u ∧ J.yld i H x H' ∧ tn (i + 1) s2.heap ∧ ∀ b ∈ fp, H' b = none) E s1) E s
  done : ∀ (X : Cx), X.prog = P → X.w = w → X.K = K → X.calm = true → ∀ (i : Nat) (pins : List (Addr × Obj)) (s : Shared) (σ : St) (H : Hp) (E : Value → Shared → Prop), Inv X pins σ H s → (∀ b ∈ fp, FpOk X pins H b) → tn i s.heap → J.stop i H →
    wpAny (model P w) X.A (pyNext (.ref it)) (fun r s1 => r = none ∧ Inv X pins σ H s1) E s
  self : ∀ (A : Around) (i : Nat) (s : Shared) (Q : Value → Shared → Prop) (E : Value → Shared → Prop), tn i s.heap → Q (.ref it) s → wpAny (model P w) A (pyIter (.ref it)) Q E s
abbrev TI := St → Hp → (It → Hp → Prop) → Prop
/-- an iterator has come -/
def PIE (X : Cx) (pins : List (Addr × Obj)) (σ : St) (tg : Expr) (R : It → Hp → Prop) (itv : Value) (s2 : Shared) : Prop :=
  ∃ (it : Addr) (fp : List Addr) (tn : Nat → Heap → Prop) (J : It) (H' : Hp), itv = .ref it ∧ Inv X pins σ H' s2 ∧ Turn X.prog X.w X.K tg J fp it tn ∧ tn 0 s2.heap ∧ (∀ b ∈ fp, FpOk X pins H' b) ∧ R J H'
def PI (X : Cx) (tg iter : Expr) (wi : TI) : Prop :=
  ∀ (pins : List (Addr × Obj)) (s : Shared) (σ : St) (H : Hp) (R : It → Hp → Prop), Inv X pins σ H s → wi σ H R →
    wpAny (model X.prog X.w) X.A (eval iter X.env) (fun v s1 => wpAny (model X.prog X.w) X.A (pyIter v) (PIE X pins σ tg R) X.xe s1) X.xe s

/-- the step ahead of the store is nothing for an iterator that keeps no tuple -/
theorem go_of {M : Model} {A : Around} {E : Value → Shared → Prop} {s : Shared} {tg : Expr} {it : Addr} {u : Value} {o : Obj} {n : String} {vs : Array Value} {Q : Unit → Shared → Prop} (ho : s.heap.get? it = some o) (hc : o.cls = .type n) (hd : o.data = .fields vs)
    (hn : ["enumerate", "zip", "dict_itemiterator", "dict_reverseitemiterator", "odict_iterator", "itertools.zip_longest", "itertools.pairwise"].contains n = false) (hQ : Q () s) : wpAny M A (letOwnedTupleGo tg (.ref it) u) Q E s := by
  unfold letOwnedTupleGo
  cases tg <;> first
    | exact wpAny_pure hQ
    | (cases u <;> first
        | exact wpAny_pure hQ
        | (refine wpAny_bind (wpAny_load ho ?_)
           rw [hc, hd]
           show wpAny M A (if (["enumerate", "zip", "dict_itemiterator", "dict_reverseitemiterator", "odict_iterator", "itertools.zip_longest", "itertools.pairwise"].contains n && vs[0]? == some (rawInt _)) = true then _ else _) Q E s
           rw [if_neg (by intro h; rw [hn, Bool.false_and] at h; cases h)]
           exact wpAny_pure hQ))

/-- the list at a, as it stands at each turn (a loop may append to it) -/
def Itl (K : PySem.W.Frag) (a : Addr) : It :=
  ⟨fun i H => ∃ xs x, SqL K H a xs ∧ xs[i]? = some x, fun i H x H' => H' = H ∧ ∀ xs, SqL K H a xs → xs[i]? = some x, fun i H => ∃ xs, SqL K H a xs ∧ xs.length ≤ i⟩
def Itt (K : PySem.W.Frag) (a : Addr) : It :=
  ⟨fun i H => ∃ xs x, SqT K H a xs ∧ xs[i]? = some x, fun i H x H' => H' = H ∧ ∀ xs, SqT K H a xs → xs[i]? = some x, fun i H => ∃ xs, SqT K H a xs ∧ xs.length ≤ i⟩
/-- lo, lo + 1, .. (n of them) -/
def Itr (lo : Int) (n : Nat) : It := ⟨fun i _ => i < n, fun i H x H' => H' = H ∧ x = .int (lo + i), fun i _ => n ≤ i⟩
theorem turn_list {P : Program} {w : World} {K : PySem.W.Frag} {tg : Expr} (a it : Addr) : Turn P w K tg (Itl K a) [it] it (fun i h => h.IsListIter it a i) where
  mem := by simp
  obj := fun i h st b hb => by
    have e : b = it := by simpa using hb
    subst e
    obtain ⟨o, e, c, d⟩ := st
    exact ⟨o, e, fun v z => by rw [d] at z; cases z⟩
  keep := fun i h h' st k => st.at fun o e => k it (by simp) o e
  item := by
    intro X hP hw hK hc i pins s σ H E I hf st hg
    subst hP hw hK
    obtain ⟨xs, x, hq, hx⟩ := hg
    obtain ⟨its, rv, p, hz⟩ := I.list hq
    obtain ⟨u, hu, ru⟩ := rv.get hx
    obtain ⟨f0, f1, f2, f3, f4, f5⟩ := hf it (by simp)
    refine wpAny_pyNext_list_item st p.isList (x := u) (by simpa using hu) fun h' st' sb => ?_
    have I1 : Inv X pins σ H { s with heap := h' } := I.turned (t' := s.toks) (fun b o hb e => (sb.2 b hb).trans e) f0 f1 f3 f4 f5
    obtain ⟨o, e, c, d⟩ := id st'
    exact ⟨u, rfl, go_of (s := { s with heap := h' }) e c d (by decide) ⟨x, H, I1, ru, ⟨rfl, fun ys hy => by rw [I.list_inj hy hq]; exact hx⟩, st', fun b hb => (hf b hb).1⟩⟩
  done := by
    intro X hP hw hK hc i pins s σ H E I hf st hg
    subst hP hw hK
    obtain ⟨xs, hq, hx⟩ := hg
    obtain ⟨its, rv, p, hz⟩ := I.list hq
    obtain ⟨f0, f1, f2, f3, f4, f5⟩ := hf it (by simp)
    have hl := rv.length
    exact wpAny_pyNext_list_end (I.ok.hd hc) st p.isList (by simp; omega) fun h' eb => ⟨rfl, I.turned (t' := s.toks) (fun b o hb e => eb b o hb e) f0 f1 f3 f4 f5⟩
  self := fun _ _ _ _ _ st h => wpAny_pyIter_listiter st h
theorem turn_tuple {P : Program} {w : World} {K : PySem.W.Frag} {tg : Expr} (a it : Addr) : Turn P w K tg (Itt K a) [it] it (fun i h => h.IsTupleIter it a i) where
  mem := by simp
  obj := fun i h st b hb => by
    have e : b = it := by simpa using hb
    subst e
    obtain ⟨o, e, c, d⟩ := st
    exact ⟨o, e, fun v z => by rw [d] at z; cases z⟩
  keep := fun i h h' st k => st.at fun o e => k it (by simp) o e
  item := by
    intro X hP hw hK hc i pins s σ H E I hf st hg
    subst hP hw hK
    obtain ⟨xs, x, hq, hx⟩ := hg
    obtain ⟨its, rv, p, hz⟩ := I.tuple hq
    obtain ⟨u, hu, ru⟩ := rv.get hx
    obtain ⟨f0, f1, f2, f3, f4, f5⟩ := hf it (by simp)
    refine wpAny_pyNext_tuple_item st (show s.heap.IsTuple a its.toArray from p) (x := u) (by simpa using hu) fun h' st' sb => ?_
    have I1 : Inv X pins σ H { s with heap := h' } := I.turned (t' := s.toks) (fun b o hb e => (sb.2 b hb).trans e) f0 f1 f3 f4 f5
    obtain ⟨o, e, c, d⟩ := id st'
    exact ⟨u, rfl, go_of (s := { s with heap := h' }) e c d (by decide) ⟨x, H, I1, ru, ⟨rfl, fun ys hy => by rw [I.tuple_inj hy hq]; exact hx⟩, st', fun b hb => (hf b hb).1⟩⟩
  done := by
    intro X hP hw hK hc i pins s σ H E I hf st hg
    subst hP hw hK
    obtain ⟨xs, hq, hx⟩ := hg
    obtain ⟨its, rv, p, hz⟩ := I.tuple hq
    obtain ⟨f0, f1, f2, f3, f4, f5⟩ := hf it (by simp)
    have hl := rv.length
    exact wpAny_pyNext_tuple_end (I.ok.hd hc) st (show s.heap.IsTuple a its.toArray from p) (by simp; omega) fun h' eb => ⟨rfl, I.turned (t' := s.toks) (fun b o hb e => eb b o hb e) f0 f1 f3 f4 f5⟩
  self := fun _ _ _ _ _ st h => wpAny_pyIter_tupleiter st h
theorem turn_range {P : Program} {w : World} {K : PySem.W.Frag} {tg : Expr} (it : Addr) (lo : Int) (n : Nat) : Turn P w K tg (Itr lo n) [it] it (fun i h => IsRangeIter h it (lo + (i : Nat) * 1) ((n : Int) - (i : Nat)) 1) where
  mem := by simp
  obj := fun i h st b hb => by
    have e : b = it := by simpa using hb
    subst e
    exact ⟨_, st, fun v z => by
      have z' : Data.fields _ = Data.cell v := z
      cases z'⟩
  keep := fun i h h' st k => k it (by simp) _ st
  item := by
    intro X hP hw hK hc i pins s σ H E I hf st hg
    subst hP hw hK
    obtain ⟨f0, f1, f2, f3, f4, f5⟩ := hf it (by simp)
    have W := Walks.range (prog := X.prog) (w := X.w) (I.ok.hd hc) it lo 1 n
    refine W.item i s _ _ hg st fun v h' tk hv st' kk => ?_
    obtain ⟨t, rfl⟩ := hv
    have I1 : Inv X pins σ H { s with heap := h', toks := tk } := I.turned (fun b o hb e => kk b o (by simpa using hb) e) f0 f1 f3 f4 f5
    refine ⟨_, rfl, go_of (s := { s with heap := h', toks := tk }) (n := "range_iterator") st' rfl rfl (by decide) ⟨.int (lo + i), H, I1, ⟨t, ?_⟩, ⟨rfl, rfl⟩, st', fun b hb => (hf b hb).1⟩⟩
    rw [Int.mul_one]
  done := by
    intro X hP hw hK hc i pins s σ H E I hf st hg
    subst hP hw hK
    obtain ⟨f0, f1, f2, f3, f4, f5⟩ := hf it (by simp)
    exact wpAny_pyNext_range_end (I.ok.hd hc) st (by have : n ≤ i := hg; omega) fun h' eb => ⟨rfl, I.turned (t' := s.toks) (fun b o hb e => eb b o hb e) f0 f1 f3 f4 f5⟩
  self := fun _ _ _ _ _ st h => wpAny_pyIter_rangeiter st h
end L2

namespace L2
open PySem PySem.Spec PyProof.Rows
section
variable {X : Cx} {tg : Expr}
def iList (K : PySem.W.Frag) (tl : TE) : TI := fun σ H R => tl σ H fun x H1 => ∃ a, x = .ref a ∧ (∃ xs, SqL K H1 a xs) ∧ R (Itl K a) H1
def iTup (K : PySem.W.Frag) (tl : TE) : TI := fun σ H R => tl σ H fun x H1 => ∃ a, x = .ref a ∧ (∃ xs, SqT K H1 a xs) ∧ R (Itt K a) H1
theorem pi_list {l : Expr} {tl : TE} (hl : PE X l tl) : PI X tg l (iList X.K tl) := by
  intro pins s σ H R I h
  refine thn (hl pins s σ H _ I h) fun v s1 ⟨x, H1, I1, r1, q1⟩ => ?_
  obtain ⟨a, e, ⟨xs, hq⟩, q⟩ := q1
  subst e
  cases r1
  obtain ⟨its, rv, p, hz⟩ := I1.list hq
  refine wpAny_pyIter_list p.isList ?_
  refine ⟨s1.heap.objs.size, [s1.heap.objs.size], _, _, H1, rfl, I1.kept (t' := s1.toks) fun b o e => Heap.get?_push_of_some _ e, turn_list a _, ⟨_, Heap.get?_push_size _ rfl, rfl, rfl⟩, fun b hb => ?_, q⟩
  have e : b = s1.heap.objs.size := by simpa using hb
  subst e
  exact I1.fpOk (Nat.le_refl _) (I1.hok.fresh (Nat.le_refl _))
theorem pi_tup {l : Expr} {tl : TE} (hl : PE X l tl) : PI X tg l (iTup X.K tl) := by
  intro pins s σ H R I h
  refine thn (hl pins s σ H _ I h) fun v s1 ⟨x, H1, I1, r1, q1⟩ => ?_
  obtain ⟨a, e, ⟨xs, hq⟩, q⟩ := q1
  subst e
  cases r1
  obtain ⟨its, rv, p, hz⟩ := I1.tuple hq
  refine wpAny_pyIter_tuple (show s1.heap.IsTuple a its.toArray from p) ?_
  refine ⟨s1.heap.objs.size, [s1.heap.objs.size], _, _, H1, rfl, I1.kept (t' := s1.toks) fun b o e => Heap.get?_push_of_some _ e, turn_tuple a _, ⟨_, Heap.get?_push_size _ rfl, rfl, rfl⟩, fun b hb => ?_, q⟩
  have e : b = s1.heap.objs.size := by simpa using hb
  subst e
  exact I1.fpOk (Nat.le_refl _) (I1.hok.fresh (Nat.le_refl _))
/-- a range object just made, walked -/
theorem range_it {pins : List (Addr × Obj)} {σ : St} {H : Hp} {s : Shared} {R : It → Hp → Prop} {E : Value → Shared → Prop} {lo hi : Int} {t u v : Tok} {tk : Nat} (I : Inv X pins σ H s) (h1 : -(2 ^ 62) ≤ lo) (h2 : lo < 2 ^ 62) (h3 : -(2 ^ 62) ≤ hi) (h4 : hi < 2 ^ 62)
    (q : R (Itr lo (hi - lo).toNat) H) : wpAny (model X.prog X.w) X.A (pyIter (.ref s.heap.objs.size)) (PIE X pins σ tg R) E { s with heap := s.heap.push { cls := .type "range", data := .fields #[.int lo t, .int hi u, .int 1 v] }, toks := tk } := by
  refine wpAny_pyIter_range (IsRange.new ..) (small_one h1 h2 h3 h4) ?_
  have I1 : Inv X pins σ H { s with heap := s.heap.push { cls := .type "range", data := .fields #[.int lo t, .int hi u, .int 1 v] }, toks := tk } := I.kept fun b o e => Heap.get?_push_of_some _ e
  refine ⟨(s.heap.push { cls := .type "range", data := .fields #[.int lo t, .int hi u, .int 1 v] }).objs.size, [(s.heap.push { cls := .type "range", data := .fields #[.int lo t, .int hi u, .int 1 v] }).objs.size], _, _, H, rfl,
    I1.kept (t' := tk) fun b o e => Heap.get?_push_of_some _ e, turn_range _ lo (hi - lo).toNat, ?_, fun b hb => ?_, q⟩
  · have e1 : lo + ((0 : Nat) : Int) * 1 = lo := by simp
    have e2 : (((hi - lo).toNat : Nat) : Int) - ((0 : Nat) : Int) = Builtin.Range.rangeSize lo hi 1 := by rw [rangeSize_one]; split <;> omega
    show IsRangeIter _ _ (lo + ((0 : Nat) : Int) * 1) ((((hi - lo).toNat : Nat) : Int) - ((0 : Nat) : Int)) 1
    rw [e1, e2]
    exact Heap.get?_push_size _ rfl
  · have e : b = (s.heap.push { cls := .type "range", data := .fields #[.int lo t, .int hi u, .int 1 v] }).objs.size := by simpa using hb
    subst e
    exact I1.fpOk (Nat.le_refl _) (I1.hok.fresh (Nat.le_refl _))
def iRng1 (ta : TA) : TI := fun σ H R => ta σ H fun vs H1 => ∃ j : Int, vs = [.int j] ∧ -(2 ^ 62) ≤ j ∧ j < 2 ^ 62 ∧ R (Itr 0 j.toNat) H1
theorem pi_range1 {a : Expr} {ta : TA} {p pos : Pos} (hg : Gl X "range") (hm : X.mg "range" = none) (ha : PA X [a] ta) (hs : starEach [a] X.env = [(false, eval a X.env)] := by rfl) : PI X tg (.Call (.Name "range" p) [a] [] pos) (iRng1 ta) := by
  intro pins s σ H R I h
  refine Call_ (ld_blt I hg hm boot_range (PyProof.Rows.callWith_type1 (thn (ha pos pins s σ H _ I h) fun us s1 ⟨vs, H1, I1, r1, q1⟩ => ?_) hs rfl))
  obtain ⟨j, e, q1, q2, q⟩ := q1
  subst e
  cases r1 with
  | cons r rr =>
    cases rr
    obtain ⟨t, rfl⟩ := r
    exact call_range_1 (range_it I1 (by omega) (by omega) q1 q2 (by simpa using q))

/-! ### for -/
/-- W: the invariant by the turn and a measure; N: what the body is to reach -/
def tFor (wi : TI) (g : TG) (tb : TS) : TS := fun D σ H => wi σ H fun J H1 => ∃ W : Nat → Nat → St → Hp → Prop, (∃ m, W 0 m σ H1) ∧ ∀ i m σ H, W i m σ H →
  (J.stop i H ∧ D.nx σ H) ∨ (J.go i H ∧ ∃ N : St → Hp → Prop, (∀ σ' H', N σ' H' → ∃ m', m' < m ∧ W (i + 1) m' σ' H') ∧ ∀ x H', J.yld i H x H' → g x σ H' fun σ2 H2 => tb { D with nx := N, ct := N, bk := D.nx } σ2 H2)
/-- the records at fp as they stand -/
def pinsAt (fp : List Addr) (h : Heap) : List (Addr × Obj) := fp.filterMap fun b => (h.get? b).map fun o => (b, o)
theorem mem_pinsAt {fp : List Addr} {h : Heap} {b : Addr} {o : Obj} (hb : b ∈ fp) (e : h.get? b = some o) : (b, o) ∈ pinsAt fp h := List.mem_filterMap.mpr ⟨b, hb, by rw [e]; rfl⟩
theorem of_pinsAt {fp : List Addr} {h : Heap} {p : Addr × Obj} (hp : p ∈ pinsAt fp h) : p.1 ∈ fp ∧ h.get? p.1 = some p.2 := by
  obtain ⟨b, hb, e⟩ := List.mem_filterMap.mp hp
  cases q : h.get? b with
  | none => rw [q] at e; cases e
  | some o =>
    rw [q] at e
    have e' : (b, o) = p := Option.some.inj e
    subst e'
    exact ⟨hb, q⟩
theorem Inv.pinned {pins : List (Addr × Obj)} {σ : St} {H : Hp} {s : Shared} {fp : List Addr} (I : Inv X pins σ H s) (hf : ∀ b ∈ fp, FpOk X pins H b) (ho : ∀ b ∈ fp, ∃ o, s.heap.get? b = some o ∧ ∀ v, o.data ≠ .cell v) : Inv X (pins ++ pinsAt fp s.heap) σ H s :=
  I.pins_of fun p hp => (List.mem_append.mp hp).elim (fun z => I.pin p (List.mem_append_right _ z)) fun z => by
    obtain ⟨hb, e⟩ := of_pinsAt z
    obtain ⟨f0, f1, f2, _⟩ := hf p.1 hb
    obtain ⟨o, e', d⟩ := ho p.1 hb
    rw [e] at e'; cases e'
    exact ⟨e, f0, f1, f2, d⟩
theorem Inv.unpinned {pins pl : List (Addr × Obj)} {σ : St} {H : Hp} {s : Shared} (I : Inv X (pins ++ pl) σ H s) : Inv X pins σ H s := I.pins_of fun p hp => I.pin p (List.mem_append_right _ (List.mem_append_left _ hp))
theorem ps_for {iter : Expr} {body : List Stmt} {wi : TI} {g : TG} {tb : TS} {pos : Pos} (hp : PassesOwn (model X.prog X.w) X.A X.env X.xe) (hc : X.calm = true) (hi : PI X tg iter wi) (hg : PG X tg g) (hb : PSs X body tb)
    (hs : ∀ x, foldedSetIterable iter X.env x = pure x := by intro _; rfl) : PS X (.For tg iter body [] pos) (tFor wi g tb) := by
  intro pins s σ H D I h
  refine wpAny_For (thn (hi pins s σ H _ I h) fun v s1 h1 => thn h1 fun itv s2 h2 => ?_) hs
  obtain ⟨it, fp, tn, J, H2, e, I2, T, st2, f2, W, ⟨m0, w0⟩, turn⟩ := h2
  subst e
  -- what stays true of the iterator's objects through the loop
  have stat : ∀ {H' : Hp}, (∀ b ∈ fp, H' b = none) → ∀ b ∈ fp, FpOk X pins H' b := fun hn b hb => ⟨hn b hb, (f2 b hb).2⟩
  refine codeAny_forLoop_any (fun n s' => ∃ i σ' H', Inv X pins σ' H' s' ∧ tn i s'.heap ∧ (∀ b ∈ fp, H' b = none) ∧ W i n σ' H') ?_ m0 ⟨0, σ, H2, I2, st2, fun b hb => (f2 b hb).1, w0⟩
  rintro n s3 ⟨i, σ3, H3, I3, st3, fr3, w3⟩
  rcases turn i n σ3 H3 w3 with ⟨stop, qn⟩ | ⟨go, N, hN, step⟩
  · refine wpAny_passesOwn hp (thn (T.done X rfl rfl rfl hc i pins s3 σ3 H3 X.xe I3 (stat fr3) st3 stop) fun r s4 ⟨hr, I4⟩ => ?_)
    subst hr
    exact wpAny_execs_nil ⟨σ3, H3, I4, qn⟩
  · refine wpAny_passesOwn hp (thn (T.item X rfl rfl rfl hc i pins s3 σ3 H3 X.xe I3 (stat fr3) st3 go) fun r s4 ⟨u, hr, h4⟩ => ?_)
    subst hr
    refine wpAny_passesOwn hp (thn h4 fun _ s5 ⟨x, H5, I5, r5, y5, st5, fr5⟩ => ?_)
    have I5' := I5.pinned (stat fr5) (T.obj _ _ st5)
    refine wpAny_passesOwn hp (thn (hg _ s5 σ3 H5 x u _ I5' r5 (step x H5 y5)) fun _ s6 ⟨σ6, H6, I6, q6⟩ => ?_)
    refine wpAny_passesOwn hp (thn (hb _ s6 σ6 H6 _ I6 q6) fun f s7 q7 => ?_)
    have again : ∀ {σ7 : St} {H7 : Hp}, Inv X (pins ++ pinsAt fp s5.heap) σ7 H7 s7 → N σ7 H7 → ∃ m, m < n ∧ ∃ i σ' H', Inv X pins σ' H' s7 ∧ tn i s7.heap ∧ (∀ b ∈ fp, H' b = none) ∧ W i m σ' H' := fun {σ7 H7} I7 n7 => by
      obtain ⟨m', hm, w7⟩ := hN σ7 H7 n7
      refine ⟨m', hm, i + 1, σ7, H7, I7.unpinned, T.keep _ _ _ st5 fun b hb o e => (I7.pin (b, o) (List.mem_append_right _ (List.mem_append_right _ (mem_pinsAt hb e)))).1, fun b hb => ?_, w7⟩
      obtain ⟨o, e, d⟩ := T.obj _ _ st5 b hb
      exact (I7.pin (b, o) (List.mem_append_right _ (List.mem_append_right _ (mem_pinsAt hb e)))).2.1
    cases f with
    | next => obtain ⟨σ7, H7, I7, n7⟩ := q7; exact again I7 n7
    | cont => obtain ⟨σ7, H7, I7, n7⟩ := q7; exact again I7 n7
    | brk => obtain ⟨σ7, H7, I7, q7⟩ := q7; exact ⟨σ7, H7, I7.unpinned, q7⟩
    | ret v => obtain ⟨x7, σ7, H7, I7, r7, q7⟩ := q7; exact ⟨x7, σ7, H7, I7.unpinned, r7, q7⟩
end

/-! ### the forms one uses -/
theorem for_range {lo : Int} {n : Nat} {g : TG} {tb : TS} {D : Ends} {σ : St} {H : Hp} (Pv : Nat → St → Hp → Prop) (h0 : Pv 0 σ H)
    (hs : ∀ i σ H, i < n → Pv i σ H → g (.int (lo + i)) σ H fun σ2 H2 => tb { D with nx := Pv (i + 1), ct := Pv (i + 1), bk := D.nx } σ2 H2) (hd : ∀ σ H, Pv n σ H → D.nx σ H) :
    ∃ W : Nat → Nat → St → Hp → Prop, (∃ m, W 0 m σ H) ∧ ∀ i m σ H, W i m σ H →
      ((Itr lo n).stop i H ∧ D.nx σ H) ∨ ((Itr lo n).go i H ∧ ∃ N : St → Hp → Prop, (∀ σ' H', N σ' H' → ∃ m', m' < m ∧ W (i + 1) m' σ' H') ∧ ∀ x H', (Itr lo n).yld i H x H' → g x σ H' fun σ2 H2 => tb { D with nx := N, ct := N, bk := D.nx } σ2 H2) := by
  refine ⟨fun i m σ H => m = n - i ∧ i ≤ n ∧ Pv i σ H, ⟨n, by simp, Nat.zero_le _, h0⟩, ?_⟩
  rintro i m σ H ⟨rfl, hi, p⟩
  by_cases hlt : i < n
  · refine .inr ⟨hlt, Pv (i + 1), fun σ' H' p' => ⟨n - (i + 1), by omega, rfl, hlt, p'⟩, fun x H' y => ?_⟩
    obtain ⟨e, y⟩ := y
    subst e y
    exact hs i σ _ hlt p
  · have e : i = n := by omega
    subst e
    exact .inl ⟨Nat.le_refl _, hd σ H p⟩
end L2

namespace L2
open PySem PySem.Spec PyProof.Rows

abbrev R2 := V → V → Hp → VK → Prop
/-- a two-place operation on values: f is binaryOp op, inplaceOp op or compareOp op -/
def OpR (X : Cx) (f : Value → Value → Sem Value) (r : R2) : Prop :=
  ∀ (pins : List (Addr × Obj)) (s : Shared) (σ : St) (H : Hp) (x y : V) (v u : Value) (Q : VK), Inv X pins σ H s → RelV x v → RelV y u → r x y H Q →
    wpAny (model X.prog X.w) X.A (f v u) (EP X pins σ Q) X.xe s
/-- a one-place operation -/
def UnR (X : Cx) (f : Value → Sem Value) (r : V → Hp → VK → Prop) : Prop :=
  ∀ (pins : List (Addr × Obj)) (s : Shared) (σ : St) (H : Hp) (x : V) (v : Value) (Q : VK), Inv X pins σ H s → RelV x v → r x H Q →
    wpAny (model X.prog X.w) X.A (f v) (EP X pins σ Q) X.xe s
/-- a call of a value that is known (a builtin, a type) with values -/
def CallR (X : Cx) (f : Value) (r : List V → Hp → VK → Prop) : Prop :=
  ∀ (pins : List (Addr × Obj)) (s : Shared) (σ : St) (H : Hp) (xs : List V) (us : List Value) (Q : VK), Inv X pins σ H s → Vals xs us → r xs H Q →
    wpAny (model X.prog X.w) X.A (call f us) (EP X pins σ Q) X.xe s

def tOp (r : R2) (ta tb : TE) : TE := fun σ H Q => ta σ H fun x H1 => tb σ H1 fun y H2 => r x y H2 Q
def tUn (r : V → Hp → VK → Prop) (ta : TE) : TE := fun σ H Q => ta σ H fun x H1 => r x H1 Q
/-- ints in, under C, and a value out -/
def rI (C : Int → Int → Prop) (g : Int → Int → V) : R2 := fun x y H Q => ∃ i j, x = .int i ∧ y = .int j ∧ C i j ∧ Q (g i j) H
def rI0 (g : Int → Int → V) : R2 := fun x y H Q => ∃ i j, x = .int i ∧ y = .int j ∧ Q (g i j) H
def rU (g : Int → V) : V → Hp → VK → Prop := fun x H Q => ∃ i, x = .int i ∧ Q (g i) H

section
variable {X : Cx} {a b c : Expr} {ta tb tc : TE} {pos : Pos}

theorem binT (ha : PE X a ta) (hb : PE X b tb) {pins : List (Addr × Obj)} {s : Shared} {σ : St} {H : Hp} {R : V → V → Hp → Prop} (I : Inv X pins σ H s)
    (h : ta σ H fun x H1 => tb σ H1 fun y H2 => R x y H2) {Q : Value → Shared → Prop} {f : Value → Value → Sem Value}
    (hf : ∀ v u s2 x y H2, Inv X pins σ H2 s2 → RelV x v → RelV y u → R x y H2 → wpAny (model X.prog X.w) X.A (f v u) Q X.xe s2) :
    wpAny (model X.prog X.w) X.A (eval a X.env) (fun v s₁ => wpAny (model X.prog X.w) X.A (eval b X.env) (fun u s₂ => wpAny (model X.prog X.w) X.A (f v u) Q X.xe s₂) X.xe s₁) X.xe s := by
  refine thn (ha pins s σ H _ I h) fun v s1 ⟨x, H1, I1, r1, q1⟩ => ?_
  refine thn (hb pins s1 σ H1 _ I1 q1) fun u s2 ⟨y, H2, I2, r2, q2⟩ => ?_
  exact hf v u s2 x y H2 I2 r1 r2 q2

theorem pe_op {op : Operator} {r : R2} (ho : OpR X (binaryOp op) r) (ha : PE X a ta) (hb : PE X b tb) : PE X (.BinOp a op b pos) (tOp r ta tb) := by
  intro pins s σ H Q I h
  exact wpAny_BinOp (binT ha hb I h fun v u s2 x y H2 I2 rx ry q => ho pins s2 σ H2 x y v u Q I2 rx ry q)
theorem pe_un {op : UnaryOp} {r : V → Hp → VK → Prop} (ho : UnR X (unaryOp op) r) (ha : PE X a ta) : PE X (.UnaryOp op a pos) (tUn r ta) := by
  intro pins s σ H Q I h
  exact UnaryOp_ (thn (ha pins s σ H _ I h) fun v s1 ⟨x, H1, I1, r1, q1⟩ => ho pins s1 σ H1 x v Q I1 r1 q1)

/-! ### ints -/
theorem opI {f : Value → Value → Sem Value} {C : Int → Int → Prop} {g : Int → Int → Int}
    (rule : ∀ (i j : Int) (t u : Tok) (s : Shared) (Q : Value → Shared → Prop) (E : Value → Shared → Prop), C i j → Q (.int (g i j) s.toks) { s with toks := s.toks + 1 } → wpAny (model X.prog X.w) X.A (f (.int i t) (.int j u)) Q E s) :
    OpR X f (rI C fun i j => .int (g i j)) := by
  intro pins s σ H x y v u Q I rx ry h
  obtain ⟨i, j, rfl, rfl, hc, q⟩ := h
  obtain ⟨t, rfl⟩ := rx
  obtain ⟨t', rfl⟩ := ry
  exact rule i j t t' s _ _ hc ⟨.int (g i j), H, I.tok _, ⟨_, rfl⟩, q⟩
theorem opI0 {f : Value → Value → Sem Value} {g : Int → Int → Int}
    (rule : ∀ (i j : Int) (t u : Tok) (s : Shared) (Q : Value → Shared → Prop) (E : Value → Shared → Prop), Q (.int (g i j) s.toks) { s with toks := s.toks + 1 } → wpAny (model X.prog X.w) X.A (f (.int i t) (.int j u)) Q E s) :
    OpR X f (rI0 fun i j => .int (g i j)) := by
  intro pins s σ H x y v u Q I rx ry h
  obtain ⟨i, j, rfl, rfl, q⟩ := h
  obtain ⟨t, rfl⟩ := rx
  obtain ⟨t', rfl⟩ := ry
  exact rule i j t t' s _ _ ⟨.int (g i j), H, I.tok _, ⟨_, rfl⟩, q⟩
theorem opB0 {f : Value → Value → Sem Value} {g : Int → Int → Bool}
    (rule : ∀ (i j : Int) (t u : Tok) (s : Shared) (Q : Value → Shared → Prop) (E : Value → Shared → Prop), Q (.bool (g i j)) s → wpAny (model X.prog X.w) X.A (f (.int i t) (.int j u)) Q E s) :
    OpR X f (rI0 fun i j => .bl (g i j)) := by
  intro pins s σ H x y v u Q I rx ry h
  obtain ⟨i, j, rfl, rfl, q⟩ := h
  obtain ⟨t, rfl⟩ := rx
  obtain ⟨t', rfl⟩ := ry
  exact rule i j t t' s _ _ ⟨.bl (g i j), H, I, rfl, q⟩

def CDiv (i j : Int) : Prop := 0 < j ∧ j < 1073741824
def CMul (i j : Int) : Prop := (-(2 ^ 64) < i ∧ i < 2 ^ 64) ∨ (-(2 ^ 64) < j ∧ j < 2 ^ 64)
theorem CMul.ok {i j : Int} (h : CMul i j) : IntMulOk i j := by
  rcases h with ⟨h1, h2⟩ | ⟨h1, h2⟩
  · exact .of_left (intBits_le_64 h1 h2)
  · exact .of_right (intBits_le_64 h1 h2)

theorem op_add : OpR X (binaryOp .Add) (rI0 fun i j => .int (i + j)) := opI0 fun _ _ _ _ _ _ _ q => add_int q
theorem op_sub : OpR X (binaryOp .Sub) (rI0 fun i j => .int (i - j)) := opI0 fun _ _ _ _ _ _ _ q => sub_int q
theorem op_mul : OpR X (binaryOp .Mult) (rI CMul fun i j => .int (i * j)) := opI fun _ _ _ _ _ _ _ hc q => mul_int q hc.ok
/-- // by a positive divisor -/
theorem op_fdiv : OpR X (binaryOp .FloorDiv) (rI CDiv fun i j => .int (i / j)) := opI fun i j _ _ _ _ _ hc q => by
  have h1 : (0 : Int) < j := hc.1
  have h2 : j < 1073741824 := hc.2
  exact floordiv_int (by omega) (by rw [Int.fdiv_eq_ediv_of_nonneg i (by omega)]; exact q) (.inl (PyProof.noPylong_small (by omega)))
/-- % by a positive divisor of any size -/
theorem op_mod : OpR X (binaryOp .Mod) (rI (fun _ j => 0 < j) fun i j => .int (i % j)) := opI fun i j _ _ _ _ _ hc q => by
  have h1 : (0 : Int) < j := hc
  exact mod_int' (by omega) (by rw [Int.fmod_eq_emod_of_nonneg i (by omega)]; exact q)


theorem unI {f : Value → Sem Value} {g : Int → Int}
    (rule : ∀ (i : Int) (t : Tok) (s : Shared) (Q : Value → Shared → Prop) (E : Value → Shared → Prop), Q (.int (g i) s.toks) { s with toks := s.toks + 1 } → wpAny (model X.prog X.w) X.A (f (.int i t)) Q E s) :
    UnR X f (rU fun i => .int (g i)) := by
  intro pins s σ H x v Q I rx h
  obtain ⟨i, rfl, q⟩ := h
  obtain ⟨t, rfl⟩ := rx
  exact rule i t s _ _ ⟨.int (g i), H, I.tok _, ⟨_, rfl⟩, q⟩
theorem un_neg : UnR X (unaryOp .USub) (rU fun i => .int (-i)) := unI fun _ _ _ _ _ q => neg_int q

/-! ### bools among ints: n += (a < b) -/
end

/-! ### comparisons -/
/-- the scalars that == tells apart as data does -/
def scal : V → V → Bool
  | .non, .non => true | .non, .int _ => true | .int _, .non => true | .non, .bl _ => true | .bl _, .non => true | .non, .str _ => true | .str _, .non => true
  | .int _, .int _ => true | .bl _, .bl _ => true | .str _, .str _ => true | .byt _, .byt _ => true
  | .int _, .str _ => true | .str _, .int _ => true | .bl _, .str _ => true | .str _, .bl _ => true
  | _, _ => false
def rEq : R2 := fun x y H Q => scal x y = true ∧ Q (.bl (decide (x = y))) H
def rNe : R2 := fun x y H Q => scal x y = true ∧ Q (.bl (!decide (x = y))) H

theorem dec_int {i j : Int} : decide (V.int i = V.int j) = (i == j) := by
  rw [Bool.eq_iff_iff]
  simp
theorem dec_bl {i j : Bool} : decide (V.bl i = V.bl j) = (i == j) := by
  rw [Bool.eq_iff_iff]
  simp
theorem dec_str {i j : Str} : decide (V.str i = V.str j) = (i == j) := by
  rw [Bool.eq_iff_iff]
  simp
theorem dec_byt {i j : Array UInt8} : decide (V.byt i = V.byt j) = (i.toList == j.toList) := by
  rw [Bool.eq_iff_iff]
  cases i
  cases j
  simp

section
variable {X : Cx} {a b c : Expr} {ta tb tc : TE} {pos : Pos}
theorem fin_bl {pins : List (Addr × Obj)} {σ : St} {H : Hp} {s : Shared} {Q : VK} {k k' : Bool} (I : Inv X pins σ H s) (q : Q (.bl k) H) (e : k = k') : EP X pins σ Q (.bool k') s := by
  subst e
  exact ⟨.bl k, H, I, rfl, q⟩
theorem op_eq : OpR X (compareOp .Eq) rEq := by
  intro pins s σ H x y v u Q I rx ry h
  obtain ⟨hs, q⟩ := h
  cases x with
  | non =>
    cases rx
    cases y with
    | non => cases ry; exact PySem.EqNone.eq_none_none (fin_bl I q (by simp))
    | bl j => cases ry; exact PySem.EqNone.eq_none_bool (fin_bl I q (by simp))
    | int j => obtain ⟨t', rfl⟩ := ry; exact PySem.EqNone.eq_none_int (fin_bl I q (by simp))
    | str j => obtain ⟨t', rfl⟩ := ry; exact PySem.EqNone.eq_none_str (fin_bl I q (by simp))
    | _ => exact absurd (show false = true from hs) Bool.false_ne_true
  | bl i =>
    cases rx
    cases y with
    | non => cases ry; exact PySem.EqNone.eq_bool_none (fin_bl I q (by simp))
    | bl j => cases ry; exact eq_bool (fin_bl I q dec_bl)
    | str j => obtain ⟨t', rfl⟩ := ry; exact PySem.EqMixed.eq_bool_str (fin_bl I q (by simp))
    | _ => exact absurd (show false = true from hs) Bool.false_ne_true
  | int i =>
    obtain ⟨t, rfl⟩ := rx
    cases y with
    | non => cases ry; exact PySem.EqNone.eq_int_none (fin_bl I q (by simp))
    | int j => obtain ⟨t', rfl⟩ := ry; exact eq_int (fin_bl I q dec_int)
    | str j => obtain ⟨t', rfl⟩ := ry; exact PySem.EqMixed.eq_int_str (fin_bl I q (by simp))
    | _ => exact absurd (show false = true from hs) Bool.false_ne_true
  | str i =>
    obtain ⟨t, rfl⟩ := rx
    cases y with
    | non => cases ry; exact PySem.EqNone.eq_str_none (fin_bl I q (by simp))
    | bl j => cases ry; exact PySem.EqMixed.eq_str_bool (fin_bl I q (by simp))
    | int j => obtain ⟨t', rfl⟩ := ry; exact PySem.EqMixed.eq_str_int (fin_bl I q (by simp))
    | str j => obtain ⟨t', rfl⟩ := ry; exact eq_str (fin_bl I q dec_str)
    | _ => exact absurd (show false = true from hs) Bool.false_ne_true
  | byt i =>
    obtain ⟨t, rfl⟩ := rx
    cases y with
    | byt j => obtain ⟨t', rfl⟩ := ry; exact PySem.W.eq_bytes (fin_bl I q dec_byt)
    | _ => exact absurd (show false = true from hs) Bool.false_ne_true
  | _ => cases y <;> exact absurd (show false = true from hs) Bool.false_ne_true
theorem op_ne : OpR X (compareOp .NotEq) rNe := by
  intro pins s σ H x y v u Q I rx ry h
  obtain ⟨hs, q⟩ := h
  cases x with
  | non =>
    cases rx
    cases y with
    | non => cases ry; exact PySem.EqNone.ne_none_none (fin_bl I q (by simp))
    | bl j => cases ry; exact PySem.EqNone.ne_none_bool (fin_bl I q (by simp))
    | int j => obtain ⟨t', rfl⟩ := ry; exact PySem.EqNone.ne_none_int (fin_bl I q (by simp))
    | str j => obtain ⟨t', rfl⟩ := ry; exact PySem.EqNone.ne_none_str (fin_bl I q (by simp))
    | _ => exact absurd (show false = true from hs) Bool.false_ne_true
  | bl i =>
    cases rx
    cases y with
    | non => cases ry; exact PySem.EqNone.ne_bool_none (fin_bl I q (by simp))
    | bl j => cases ry; exact ne_bool (fin_bl I q (congrArg not dec_bl))
    | str j => obtain ⟨t', rfl⟩ := ry; exact PySem.EqMixed.ne_bool_str (fin_bl I q (by simp))
    | _ => exact absurd (show false = true from hs) Bool.false_ne_true
  | int i =>
    obtain ⟨t, rfl⟩ := rx
    cases y with
    | non => cases ry; exact PySem.EqNone.ne_int_none (fin_bl I q (by simp))
    | int j => obtain ⟨t', rfl⟩ := ry; exact ne_int (fin_bl I q (congrArg not dec_int))
    | str j => obtain ⟨t', rfl⟩ := ry; exact PySem.EqMixed.ne_int_str (fin_bl I q (by simp))
    | _ => exact absurd (show false = true from hs) Bool.false_ne_true
  | str i =>
    obtain ⟨t, rfl⟩ := rx
    cases y with
    | non => cases ry; exact PySem.EqNone.ne_str_none (fin_bl I q (by simp))
    | bl j => cases ry; exact PySem.EqMixed.ne_str_bool (fin_bl I q (by simp))
    | int j => obtain ⟨t', rfl⟩ := ry; exact PySem.EqMixed.ne_str_int (fin_bl I q (by simp))
    | str j => obtain ⟨t', rfl⟩ := ry; exact ne_str (fin_bl I q (congrArg not dec_str))
    | _ => exact absurd (show false = true from hs) Bool.false_ne_true
  | byt i =>
    obtain ⟨t, rfl⟩ := rx
    cases y with
    | byt j => obtain ⟨t', rfl⟩ := ry; exact PySem.W.ne_bytes (fin_bl I q (congrArg not dec_byt))
    | _ => exact absurd (show false = true from hs) Bool.false_ne_true
  | _ => cases y <;> exact absurd (show false = true from hs) Bool.false_ne_true

theorem op_lt : OpR X (compareOp .Lt) (rI0 fun i j => .bl (decide (i < j))) := opB0 fun _ _ _ _ _ _ _ q => lt_int q
theorem op_le : OpR X (compareOp .LtE) (rI0 fun i j => .bl (decide (i ≤ j))) := opB0 fun _ _ _ _ _ _ _ q => le_int q

/-- is None, is not None: the right side a value none -/
theorem op_isN : OpR X (compareOp .Is) (fun x y H Q => y = .non ∧ Q (.bl (decide (x = .non))) H) := by
  intro pins s σ H x y v u Q I rx ry h
  obtain ⟨rfl, q⟩ := h
  cases ry
  refine is_none_gen (fin_bl I q ?_)
  cases x <;> first
    | (cases rx; rfl)
    | (obtain ⟨t, rfl⟩ := rx; rfl)
theorem op_notN : OpR X (compareOp .IsNot) (fun x y H Q => y = .non ∧ Q (.bl (!decide (x = .non))) H) := by
  intro pins s σ H x y v u Q I rx ry h
  obtain ⟨rfl, q⟩ := h
  cases ry
  refine isnot_none_gen (fin_bl I q ?_)
  cases x <;> first
    | (cases rx; rfl)
    | (obtain ⟨t, rfl⟩ := rx; rfl)



theorem nomark (b : Expr) {op : CmpOp} (h : op ≠ .In := by decide) (h2 : op ≠ .NotIn := by decide) : behindInMarks op b = false := by
  have e1 : (op == CmpOp.In) = false := by cases op <;> first | rfl | exact absurd rfl h
  have e2 : (op == CmpOp.NotIn) = false := by cases op <;> first | rfl | exact absurd rfl h2
  cases b <;> simp [behindInMarks, e1, e2]
/-- a comparison as a value; hm: nomark b, or (for in, not in) by with_unfolding_all rfl -/
theorem pe_cmpR {op : CmpOp} {r : R2} (ho : OpR X (compareOp op) r) (ha : PE X a ta) (hb : PE X b tb) (hm : behindInMarks op b = false) : PE X (.Compare a [op] [b] pos) (tOp r ta tb) := by
  intro pins s σ H Q I h
  exact wpAny_Compare1 (binT ha hb I h fun v u s2 x y H2 I2 rx ry q => ho pins s2 σ H2 x y v u Q I2 rx ry q) hm
/-- a reading of a value as a test -/
def tTest (t : TE) : TT := fun σ H Q => t σ H fun x H' => ∃ k, x = .bl k ∧ Q k H'
theorem pt_cmpR {op : CmpOp} {r : R2} (ho : OpR X (compareOp op) r) (ha : PE X a ta) (hb : PE X b tb) (hm : behindInMarks op b = false) : PT X (.Compare a [op] [b] pos) (tTest (tOp r ta tb)) := by
  intro pins s σ H Q I h
  refine wpAny_isTrue_Compare1 (thn (ha pins s σ H _ I h) fun v s1 ⟨x, H1, I1, r1, q1⟩ => thn (hb pins s1 σ H1 _ I1 q1) fun u s2 ⟨y, H2, I2, r2, q2⟩ =>
    thn (ho pins s2 σ H2 x y v u _ I2 r1 r2 q2) fun c s3 ⟨z, H3, I3, r3, k, e, q3⟩ => ?_) hm
  subst e
  cases r3
  exact wpAny_truthy_bool ⟨H3, I3, q3⟩
/-- a op1 b op2 c -/
def tChain (r r' : R2) (ta tb tc : TE) : TE := fun σ H Q => ta σ H fun x H1 => tb σ H1 fun y H2 => r x y H2 fun z H3 => ∃ k, z = .bl k ∧
  (if k = true then tc σ H3 fun w' H4 => r' y w' H4 Q else Q (.bl false) H3)
theorem pe_chain {op op' : CmpOp} {r r' : R2} (ho : OpR X (compareOp op) r) (ho' : OpR X (compareOp op') r') (ha : PE X a ta) (hb : PE X b tb) (hc : PE X c tc)
    (hm : lastMarks [op, op'] [b, c] = false := by with_unfolding_all rfl) : PE X (.Compare a [op, op'] [b, c] pos) (tChain r r' ta tb tc) := by
  intro pins s σ H Q I h
  refine Compare_chain (thn (ha pins s σ H _ I h) fun v s1 ⟨x, H1, I1, r1, q1⟩ => chain_link (thn (hb pins s1 σ H1 _ I1 q1) fun u s2 ⟨y, H2, I2, r2, q2⟩ =>
    thn (ho pins s2 σ H2 x y v u _ I2 r1 r2 q2) fun d s3 ⟨z, H3, I3, r3, k, e, q3⟩ => ?_)) hm
  subst e
  cases r3
  refine wpAny_truthy_bool ?_
  cases k with
  | false => exact ite_ff ⟨.bl false, H3, I3, rfl, q3⟩
  | true => exact ite_tt (chain_last (thn (hc pins s3 σ H3 _ I3 q3) fun w' s4 ⟨z', H4, I4, r4, q4⟩ => ho' pins s4 σ H4 y z' u w' Q I4 r2 r4 q4))

/-! ### truth -/
theorem line63 : (sizeLine : Nat) < 2 ^ 63 := by rw [sizeLine_eq]; decide

/-! ### strs and bytes -/


/-! ### scalar builtins, by CallR -/
theorem vals1 {x : V} {us : List Value} (r : Vals [x] us) : ∃ u, us = [u] ∧ RelV x u := by
  cases r with
  | cons r1 r2 => cases r2; exact ⟨_, rfl, r1⟩
end
end L2

namespace L2
open PySem PySem.Spec PyProof.Rows

/-! ### an instance, its attributes a map -/
structure ObjM (h : Heap) (x dx C : Addr) (mA : Str → Option Value) : Prop where
  obj : h.get? x = some (PySem.W.instObj C dx)
  ns : h.Ns1 dx mA
  ne : dx ≠ x

theorem lookIn_ns {h : Heap} {dx : Addr} {mA : Str → Option Value} (n : h.Ns1 dx mA) : ∃ od, h.get? dx = some od ∧ ∀ name, PySem.W.lookIn name od = some (mA name) := by
  obtain ⟨o, es, ep, ho, hd, hk, _, hm⟩ := n
  refine ⟨o, ho, fun name => ?_⟩
  have e := hm name
  unfold nsFind findBy at e
  rw [← Array.find?_toList] at e
  unfold PySem.W.lookIn
  rw [hd]
  dsimp only
  split
  · rename_i y q
    rw [q] at e
    exact congrArg some e
  · rename_i q
    rw [q] at e
    have a : es.toList.any (·.refKey) = false := by
      rw [List.any_eq_false]
      intro y hy
      obtain ⟨z, t, hkey⟩ := hk y (Array.mem_toList_iff.mp hy)
      simp [DictEntry.refKey, hkey]
    have a' : ¬ es.toList.any (·.refKey) = true := by rw [a]; exact Bool.false_ne_true
    rw [if_neg a']
    exact congrArg some e

theorem ObjM.look {h : Heap} {x dx C : Addr} {mA : Str → Option Value} (I : ObjM h x dx C mA) : ∃ od, PySem.W.InstAt h x (PySem.W.instObj C dx) C (some od) ∧ ∀ name, PySem.W.lookIn name od = some (mA name) :=
  let ⟨od, ho, hl⟩ := lookIn_ns I.ns
  ⟨od, ⟨I.obj, rfl, rfl, ho⟩, hl⟩

section
variable {prog : Program} {w : World} {A : Around} {E : Value → Shared → Prop} {s : Shared} {K : PySem.W.Frag} {x dx C f : Addr} {mA : Str → Option Value} {name : Str} {v : Value}

theorem get_map {expr : Bool} {Q : Value → Shared → Prop} (X : K.In s.heap) (I : ObjM s.heap x dx C mA) (hg : PySem.W.plainGet K C name = true) (hh : PySem.W.hasDictIn K C = true)
    (ha : PySem.W.findIn K (.ref C) name = some none) (hv : mA name = some v) (hv' : PySem.W.handedIn v = true) (h : Q v { s with toks := s.toks + 1 }) :
    wpAny (model prog w) A (getAttr (.ref x) name expr) Q E s := by
  obtain ⟨od, J, hl⟩ := I.look
  exact PySem.W.get_value X J (PySem.W.plainGet_of hg).1 (PySem.W.findObj_own hh ha rfl (by rw [hl, hv])) hv' h


theorem get_meth {pl : Sem Bool} {Q : Value × List Value → Shared → Prop} (X : K.In s.heap) (I : ObjM s.heap x dx C mA) (hg : PySem.W.plainGet K C name = true)
    (hf : PySem.W.findIn K (.ref C) name = some (some (.ref f))) (ht : PySem.W.isFn K (.ref f) = true) (hv : mA name = none) (h : Q (.ref f, [.ref x]) s) :
    wpAny (model prog w) A (getMethod (.ref x) name pl) Q E s := by
  obtain ⟨od, J, hl⟩ := I.look
  exact PySem.W.method_fn X J (PySem.W.plainGet_of hg).1 (PySem.W.plainGet_of hg).2 hf (beq_iff_eq.mp ht) (by show (PySem.W.lookIn name od).map (·.isSome) = some false; rw [hl, hv]; rfl) h

theorem set_map {ns : List Str} {Q : Unit → Shared → Prop} (X : K.In s.heap) (I : ObjM s.heap x dx C mA)
    (hs : PySem.W.findIn K (.ref C) "__setattr__" = some (some (.builtin "object.__setattr__"))) (hp : PySem.W.plainOver K C = true) (ht : PySem.W.takerIn K C name = some none) (hh : PySem.W.hasDictIn K C = true)
    (hw : PySem.Within mA ns) (hsz : ns.length ≤ sizeLine)
    (h : ∀ h', ObjM h' x dx C (fun y => if y = name then some v else mA y) → Heap.SameBut dx s.heap h' → Q () { s with heap := h', toks := s.toks + 2 }) :
    wpAny (model prog w) A (setAttr (.ref x) name v) Q E s := by
  obtain ⟨od, J, hl⟩ := I.look
  refine PySem.W.set_plain X J hs (PySem.W.osa_open (s := { s with toks := s.toks + 1 }) (r := none) X J hp ht fun b => ?_)
  obtain ⟨cd, hc, hd'⟩ := PySem.W.any_some hh
  have hx : s.heap.get? x = some ⟨.ref C, some dx, .plain, #[]⟩ := I.obj
  refine wpAny_bind (wpAny_pure (wpAny_bind (wpAny_bind (wpAny_loadPart hx (wpAny_bind (PySem.W.Looks.here (s := { s with toks := s.toks + 1 }) (PySem.W.looks_clsIn X hc) ?_))))))
  rw [hd']
  refine wpAny_pure (a := some dx) (wpAny_bind (wpAny_pure (wpAny_bind ?_)))
  refine wpAny_nsSet1 (s := { s with toks := s.toks + 1 }) I.ns fun h' hn2 hs2 => ?_
  obtain ⟨oD, esD, epD, hoD, hdD, hcD⟩ := hn2.count (PySem.Within.cons name v hw)
  refine wpAny_bind (wpAny_lookBehind hoD (by rw [hdD]; exact pastItsLine_dict (Nat.le_trans hcD (by rw [List.length_cons]; omega))) ?_)
  exact wpAny_pure (h _ ⟨(hs2.2 _ (Ne.symm I.ne)).trans I.obj, hn2, I.ne⟩ hs2)

/-- C(..): the dict at the heap's end, the instance behind it; then its __init__ -/
theorem make_map {R : Result → Shared → Prop} {vs : List Value} {kw : List (Str × Value)} (X : K.In s.heap) (hm : PySem.W.makesIn K C = true)
    (hi : PySem.W.findIn K (.ref C) "__init__" = some (some (.ref f))) (hf : PySem.W.typeIn K (.ref f) = some (.type "function"))
    (h : codeAny (model prog w) (A.under (.builtin "type.__call__" ⟨.ref C :: vs, kw⟩)) (.call (.ref f) ⟨.ref (s.heap.objs.size + 1) :: vs, kw⟩) (PySem.W.InitBack (s.heap.objs.size + 1) R)
      { s with heap := (s.heap.push PySem.W.emptyDict).push (PySem.W.instObj C s.heap.objs.size) }) :
    codeAny (model prog w) A (.call (.ref C) ⟨vs, kw⟩) R s := by
  obtain ⟨hh, g, d, t, os⟩ := s
  exact PySem.W.make_core (PySem.W.makes_of X hm) (PySem.W.looks_findIn X hi) (fun self => PySem.W.bind_fn X self hf) (.inl rfl) h
end

/-! ### the attributes as a list of pairs -/
def putF (f : Str) (v : V) : List (Str × V) → List (Str × V)
  | [] => [(f, v)]
  | (g, x) :: r => if g = f then (g, v) :: r else (g, x) :: putF f v r
theorem lookup_putF (f g : Str) (v : V) : ∀ fs : List (Str × V), (putF f v fs).lookup g = if g = f then some v else fs.lookup g
  | [] => by
    show List.lookup g [(f, v)] = _
    by_cases h : g = f
    · have hb : (g == f) = true := beq_iff_eq.mpr h
      simp only [List.lookup, hb, if_pos h]
    · have hb : (g == f) = false := beq_eq_false_iff_ne.mpr h
      simp only [List.lookup, hb, if_neg h]
  | (k, x) :: r => by
    have ih := lookup_putF f g v r
    rw [show putF f v ((k, x) :: r) = (if k = f then (k, v) :: r else (k, x) :: putF f v r) from rfl]
    by_cases hk : k = f
    · rw [if_pos hk]
      by_cases h : g = k
      · have hb : (g == k) = true := beq_iff_eq.mpr h
        simp only [List.lookup, hb, if_pos (h.trans hk)]
      · have hb : (g == k) = false := beq_eq_false_iff_ne.mpr h
        simp only [List.lookup, hb, if_neg (fun e : g = f => h (e.trans hk.symm))]
    · rw [if_neg hk]
      by_cases h : g = k
      · have hb : (g == k) = true := beq_iff_eq.mpr h
        simp only [List.lookup, hb, if_neg (fun e : g = f => hk (h.symm.trans e))]
      · have hb : (g == k) = false := beq_eq_false_iff_ne.mpr h
        simp only [List.lookup, hb]
        exact ih
theorem keys_putF (f : Str) (v : V) : ∀ fs : List (Str × V), f ∈ (putF f v fs).map (·.1) ∧ ∀ g, g ∈ fs.map (·.1) → g ∈ (putF f v fs).map (·.1)
  | [] => ⟨by simp [putF], fun g h => by simp at h⟩
  | (k, x) :: r => by
    obtain ⟨i1, i2⟩ := keys_putF f v r
    rw [show putF f v ((k, x) :: r) = (if k = f then (k, v) :: r else (k, x) :: putF f v r) from rfl]
    by_cases hk : k = f
    · rw [if_pos hk]
      subst hk
      exact ⟨by simp, fun g h => by simpa using h⟩
    · rw [if_neg hk]
      refine ⟨?_, fun g h => ?_⟩
      · rw [List.map_cons]
        exact List.mem_cons_of_mem _ i1
      · rw [List.map_cons] at h ⊢
        rcases List.mem_cons.mp h with e | e
        · exact List.mem_cons.mpr (.inl e)
        · exact List.mem_cons_of_mem _ (i2 g e)
theorem length_putF (f : Str) (v : V) : ∀ fs : List (Str × V), (putF f v fs).length ≤ fs.length + 1
  | [] => by simp [putF]
  | (k, x) :: r => by
    have ih := length_putF f v r
    rw [show putF f v ((k, x) :: r) = (if k = f then (k, v) :: r else (k, x) :: putF f v r) from rfl]
    by_cases hk : k = f
    · rw [if_pos hk, List.length_cons, List.length_cons]; omega
    · rw [if_neg hk, List.length_cons, List.length_cons]; omega

theorem RelO.some_of {v : V} {o : Option Value} (r : RelO (some v) o) : ∃ u, o = some u ∧ RelV v u := by
  cases o with
  | none => exact (show False from r).elim
  | some u => exact ⟨u, rfl, r⟩
theorem RelO.none_of {o : Option Value} (r : RelO none o) : o = none := by
  cases o with
  | none => rfl
  | some u => exact (show False from r).elim
theorem handed_of {v : V} {u : Value} (r : RelV v u) : PySem.W.handedIn u = true := by
  cases v with
  | non => cases (show u = Value.none from r); rfl
  | bl b => cases (show u = Value.bool b from r); rfl
  | int i => obtain ⟨t, e⟩ := (show ∃ t, u = Value.int i t from r); cases e; rfl
  | str x => obtain ⟨t, e⟩ := (show ∃ t, u = Value.str x t from r); cases e; rfl
  | byt b => obtain ⟨t, e⟩ := (show ∃ t, u = Value.bytes b t from r); cases e; rfl
  | flt b => obtain ⟨t, e⟩ := (show ∃ t, u = Value.float b t from r); cases e; rfl
  | ref a => cases (show u = Value.ref a from r); rfl
  | ty n => cases (show u = Value.type n from r); rfl

section
variable {P : Program} {w : World} {H H' : Hp} {h h' : Heap} {a C dx : Addr} {fs fs' : List (Str × V)}
theorem ins_get (hok : HOk P w H h) (e : H a = some (.ins C dx fs)) : ∃ mA, ObjM h a dx C mA ∧ (∀ f, RelO (fs.lookup f) (mA f)) ∧ PySem.Within mA (fs.map (·.1)) ∧ fs.length ≤ 1000 ∧ H dx = some (.own a) := by
  obtain ⟨d, z, ne, ob, mA, n, r, q⟩ := (show ObjOk P w H h a (.ins C dx fs) from hok a _ e)
  exact ⟨mA, ⟨ob, n, ne⟩, r, q, z, d⟩
end

/-! ### what of the text a class must have -/
structure Cls (K : PySem.W.Frag) (C : Addr) : Prop where
  pg : PySem.W.plainGet K C Str.empty = true
  hd : PySem.W.hasDictIn K C = true
  po : PySem.W.plainOver K C = true
  sa : PySem.W.findIn K (.ref C) "__setattr__" = some (some (.builtin "object.__setattr__"))
theorem Cls.get {K : PySem.W.Frag} {C : Addr} (c : Cls K C) (f : Str) : PySem.W.plainGet K C f = true := c.pg
/-- no class of it has the name -/
def NoAttr (K : PySem.W.Frag) (C : Addr) (f : Str) : Prop := PySem.W.findIn K (.ref C) f = some none
theorem NoAttr.taker {K : PySem.W.Frag} {C : Addr} {f : Str} (n : NoAttr K C f) : PySem.W.takerIn K C f = some none := by
  unfold PySem.W.takerIn
  rw [show PySem.W.findIn K (.ref C) f = some none from n]
  rfl
/-- a method: a plain def of the class or of one above it -/
structure Meth (K : PySem.W.Frag) (C : Addr) (m : Str) (f : Addr) : Prop where
  at_ : PySem.W.findIn K (.ref C) m = some (some (.ref f))
  fn : PySem.W.isFn K (.ref f) = true
  kp : PySem.W.keepIn K (.ref f) = true

section
variable {X : Cx} {pins : List (Addr × Obj)} {σ : St} {H : Hp} {s : Shared} {a C dx : Addr} {fs : List (Str × V)} {f : Str} {v : V} {A : Around} {E : Value → Shared → Prop}

theorem getattr_ok {b : Bool} {Q : Value → Shared → Prop} (I : Inv X pins σ H s) (e : H a = some (.ins C dx fs)) (c : Cls X.K C) (n : NoAttr X.K C f) (l : fs.lookup f = some v)
    (h : ∀ u s', Inv X pins σ H s' → RelV v u → Q u s') : wpAny (model X.prog X.w) A (getAttr (.ref a) f b) Q E s := by
  obtain ⟨mA, O, r, _, _, _⟩ := ins_get I.hok e
  obtain ⟨u, hu, ru⟩ := RelO.some_of (v := v) (o := mA f) (by rw [← l]; exact r f)
  exact get_map I.kIn O (c.get f) c.hd n hu (handed_of ru) (h u _ (I.tok _) ru)


theorem getmeth_ok {m : Str} {g : Addr} {pl : Sem Bool} {Q : Value × List Value → Shared → Prop} (I : Inv X pins σ H s) (e : H a = some (.ins C dx fs)) (c : Cls X.K C) (k : Meth X.K C m g) (l : fs.lookup m = none)
    (h : Q (.ref g, [.ref a]) s) : wpAny (model X.prog X.w) A (getMethod (.ref a) m pl) Q E s := by
  obtain ⟨mA, O, r, _, _, _⟩ := ins_get I.hok e
  have hn : mA m = none := RelO.none_of (by rw [← l]; exact r m)
  exact get_meth I.kIn O (c.get m) k.at_ k.fn hn h

theorem setattr_ok {y : V} {u : Value} {Q : Unit → Shared → Prop} (I : Inv X pins σ H s) (e : H a = some (.ins C dx fs)) (c : Cls X.K C) (n : NoAttr X.K C f) (hl : fs.length < 1000) (ry : RelV y u)
    (h : ∀ s', Inv X pins σ (upd H a (.ins C dx (putF f y fs))) s' → Q () s') : wpAny (model X.prog X.w) A (setAttr (.ref a) f u) Q E s := by
  obtain ⟨mA, O, r, wi, _, ho⟩ := ins_get I.hok e
  have hz : (fs.map (·.1)).length ≤ sizeLine := by rw [List.length_map, sizeLine_eq]; omega
  refine set_map I.kIn O c.sa c.po n.taker c.hd wi hz fun h' O' sb => h _ ?_
  have hd : ∃ o, h'.get? dx = some o := let ⟨o, _, _, e', _⟩ := O'.ns; ⟨o, e'⟩
  refine I.write (x := a) (e := dx) (by rw [e]; exact True.intro) (.inr ho) (fun b q hb z => (sb.2 b hb).trans z) hd ?_
  refine ⟨by rw [upd_ne O.ne]; exact ho, ?_, O.ne, O'.obj, _, O'.ns, fun g => ?_, fun g hg => ?_⟩
  · have := length_putF f y fs; omega
  · show RelO ((putF f y fs).lookup g) (if g = f then some u else mA g)
    rw [lookup_putF]
    by_cases q : g = f
    · rw [if_pos q, if_pos q]; exact ry
    · rw [if_neg q, if_neg q]; exact r g
  · by_cases q : g = f
    · rw [q]; exact (keys_putF f y fs).1
    · refine (keys_putF f y fs).2 g (wi g fun z => hg ?_)
      show (if g = f then some u else mA g) = none
      rw [if_neg q]; exact z

/-- a new instance, tracked, without attributes -/
theorem Inv.made (I : Inv X pins σ H s) : Inv X pins σ (upd (upd H s.heap.objs.size (.own (s.heap.objs.size + 1))) (s.heap.objs.size + 1) (.ins C s.heap.objs.size []))
    { s with heap := (s.heap.push PySem.W.emptyDict).push (PySem.W.instObj C s.heap.objs.size) } := by
  have e1 : (s.heap.push PySem.W.emptyDict).get? s.heap.objs.size = some PySem.W.emptyDict := Heap.get?_push_size s.heap rfl
  have e2 : ((s.heap.push PySem.W.emptyDict).push (PySem.W.instObj C s.heap.objs.size)).get? (s.heap.objs.size + 1) = some (PySem.W.instObj C s.heap.objs.size) := by
    have := Heap.get?_push_size (s.heap.push PySem.W.emptyDict) (o := PySem.W.instObj C s.heap.objs.size) rfl
    rwa [Heap.size_push] at this
  have e3 : (s.heap.push PySem.W.emptyDict).Ns s.heap.objs.size (fun _ => none) := ⟨PySem.W.emptyDict, #[], _, e1, rfl, (fun e he => absurd he (by simp)), fun _ => rfl⟩
  have I1 := I.laid (a := s.heap.objs.size) (o := .own (s.heap.objs.size + 1)) (h' := s.heap.push PySem.W.emptyDict) (t' := s.toks) (fun b u q => Heap.get?_push_of_some _ q) (Nat.le_refl _) ⟨_, e1⟩
  refine I1.laid (a := s.heap.objs.size + 1) (o := .ins C s.heap.objs.size []) (t' := s.toks) (fun b u q => Heap.get?_push_of_some _ q) (Nat.le_of_eq (Heap.size_push _ _)) ?_
  have ne : s.heap.objs.size ≠ s.heap.objs.size + 1 := Nat.ne_of_lt (Nat.lt_succ_self _)
  refine ⟨by rw [upd_ne ne, upd_same], Nat.zero_le _, ne, e2, fun _ => none, (Heap.Ns1.of_empty e3).at fun o q => Heap.get?_push_of_some _ q, fun _ => True.intro, fun y hy => absurd rfl hy⟩

/-- e.f where nothing but the object is asked: through attributeBase (super) and the last hold -/
theorem attr_of {prog : Program} {w : World} {env : Env} {e : Expr} {f : Str} {pos : Pos} {s : Shared} {Q : Value → Shared → Prop} (hb : attributeBase e f env (eval e env) = eval e env)
    (h : wpAny (model prog w) A (eval e env) (fun o s₁ => wpAny (model prog w) A (getAttr o f true) Q E s₁) E s) : wpAny (model prog w) A (eval (.Attribute e f pos) env) Q E s :=
  Attribute_any_ h (by rw [arm_eval_Attribute, hb])
end

/-! ### readings and rules -/
/-- e.f, an attribute of the instance -/
def tFld (K : PySem.W.Frag) (ta : TE) (f : Str) : TE := fun σ H Q => ta σ H fun x H1 => ∃ a C dx fs v, x = .ref a ∧ H1 a = some (.ins C dx fs) ∧ Cls K C ∧ NoAttr K C f ∧ fs.lookup f = some v ∧ Q v H1
/-- e.f = value -/
def sFld (K : PySem.W.Frag) (ta tv : TE) (f : Str) : TS := fun D σ H => tv σ H fun y H1 => ta σ H1 fun x H2 => ∃ a C dx fs, x = .ref a ∧ H2 a = some (.ins C dx fs) ∧ Cls K C ∧ NoAttr K C f ∧ fs.length < 1000 ∧
  D.nx σ (upd H2 a (.ins C dx (putF f y fs)))
/-- an augmented operator on two values -/
def InOp (X : Cx) (op : Operator) (rd : V → V → Hp → VK → Prop) : Prop :=
  ∀ (pins : List (Addr × Obj)) (s : Shared) (σ : St) (H : Hp) (x y : V) (u v : Value) (Q : VK), Inv X pins σ H s → RelV x u → RelV y v → rd x y H Q → wpAny (model X.prog X.w) X.A (inplaceOp op u v) (EP X pins σ Q) X.xe s
/-- e.f op= value -/
def sFldAug (K : PySem.W.Frag) (ta tv : TE) (rd : V → V → Hp → VK → Prop) (f : Str) : TS := fun D σ H => ta σ H fun x H1 => ∃ a C dx fs v, x = .ref a ∧ H1 a = some (.ins C dx fs) ∧ Cls K C ∧ NoAttr K C f ∧ fs.lookup f = some v ∧
  tv σ H1 fun y H2 => rd v y H2 fun z H3 => ∃ dx' fs', H3 a = some (.ins C dx' fs') ∧ fs'.length < 1000 ∧ D.nx σ (upd H3 a (.ins C dx' (putF f z fs')))

section
variable {X : Cx} {o e value : Expr} {f : Str} {pos pos' tpos : Pos} {ta tv : TE}
theorem pe_fld (he : PE X e ta) (hb : attributeBase e f X.env (eval e X.env) = eval e X.env) : PE X (.Attribute e f pos) (tFld X.K ta f) := by
  intro pins s σ H Q I h
  refine attr_of hb (thn (he pins s σ H _ I h) fun u s1 ⟨x, H1, I1, rx, a, C, dx, fs, v, ex, ea, c, n, l, q⟩ => ?_)
  subst ex
  obtain rfl : u = Value.ref a := rx
  exact getattr_ok I1 ea c n l fun u' s2 I2 ru => ⟨v, H1, I2, ru, q⟩
theorem ps_fld (ha : PE X o ta) (hv : PE X value tv) (hs : swapsWith value (some (.Attribute o f pos')) pos.line X.env = pure false) : PS X (.Assign [.Attribute o f pos'] value pos) (sFld X.K ta tv f) := by
  intro pins s σ H D I h
  refine plainObj_wpAny_Assign_Attribute (thn (hv pins s σ H _ I h) fun u s1 ⟨y, H1, I1, ry, q⟩ => thn (ha pins s1 σ H1 _ I1 q) fun ov s2 ⟨x, H2, I2, rx, a, C, dx, fs, ex, ea, c, n, l, q2⟩ => ?_) hs
  subst ex
  obtain rfl : ov = Value.ref a := rx
  exact setattr_ok I2 ea c n l ry fun s3 I3 => ⟨σ, _, I3, q2⟩
theorem ps_fldaug {op : Operator} {rd : V → V → Hp → VK → Prop} (ha : PE X o ta) (hv : PE X value tv) (hop : InOp X op rd) : PS X (.AugAssign (.Attribute o f tpos) op value pos) (sFldAug X.K ta tv rd f) := by
  intro pins s σ H D I h
  refine wpAny_AugAssign_AttributeAny (thn (ha pins s σ H _ I h) fun ov s1 ⟨x, H1, I1, rx, a, C, dx, fs, v, ex, ea, c, n, l, q⟩ => ?_)
  subst ex
  obtain rfl : ov = Value.ref a := rx
  refine getattr_ok I1 ea c n l fun u s2 I2 ru => thn (hv pins s2 σ H1 _ I2 q) fun w3 s3 ⟨y, H2, I3, ry, q3⟩ => thn (hop pins s3 σ H2 v y u w3 _ I3 ru ry q3) fun w4 s4 ⟨z, H3, I4, rz, dx', fs', ea', l', q4⟩ => ?_
  exact setattr_ok I4 ea' c n l' rz fun s5 I5 => ⟨σ, _, I5, q4⟩
def rAdd : V → V → Hp → VK → Prop := fun x y H Q => ∃ i j, x = .int i ∧ y = .int j ∧ Q (.int (i + j)) H
theorem in_add : InOp X .Add rAdd := by
  rintro pins s σ H x y u v Q I rx ry ⟨i, j, rfl, rfl, q⟩
  obtain ⟨t, rfl⟩ := (show ∃ t, u = Value.int i t from rx)
  obtain ⟨t', rfl⟩ := (show ∃ t', v = Value.int j t' from ry)
  exact PyProof.Rows.iadd_int ⟨.int (i + j), H, I.tok _, ⟨_, rfl⟩, q⟩

end

/-! ### isinstance -/
section
variable {X : Cx} {pins : List (Addr × Obj)} {σ : St} {H : Hp} {s : Shared} {A : Around} {E : Value → Shared → Prop} {Q : Value → Shared → Prop} {c : Value} {b : Bool}
/-- the type of a value, as the fragment's deciders take it; for an instance its class -/
inductive TyOf (K : PySem.W.Frag) (H : Hp) : V → Value → Prop where
  | non : TyOf K H .non (.type "NoneType")
  | bl (x : Bool) : TyOf K H (.bl x) (.type "bool")
  | int (i : Int) : TyOf K H (.int i) (.type "int")
  | str (x : Str) : TyOf K H (.str x) (.type "str")
  | flt (x : UInt64) : TyOf K H (.flt x) (.type "float")
  | lst {a : Addr} {xs : List V} (e : H a = some (.lst xs)) : TyOf K H (.ref a) (.type "list")
  | frz {a : Addr} {o : Obj} {xs : List V} (e : H a = some (.frz o (.lst xs))) : TyOf K H (.ref a) (.type "list")
  | tup {a : Addr} {xs : List V} (e : H a = some (.tup xs)) : TyOf K H (.ref a) (.type "tuple")
  | dK {a : Addr} {kvs : List (Key × V)} (e : H a = some (.dK kvs)) : TyOf K H (.ref a) (.type "dict")
  | dT {a : Addr} {kvs : List (List Key × V)} (e : H a = some (.dT kvs)) : TyOf K H (.ref a) (.type "dict")
  | ins {a C dx : Addr} {fs : List (Str × V)} (e : H a = some (.ins C dx fs)) (cl : Cls K C) (ha : PySem.W.findIn K (.ref C) "__class__" = some (some (.builtin "object.__class__")))
      (hn : PySem.W.specialIn K (.builtin "object.__class__") "__get__" = some (some (.builtin "getset_descriptor.__get__"))) (htk : PySem.W.takesIn K (.builtin "object.__class__") = some true)
      (hm : PySem.W.mroIn K C (.type "object") = some true) : TyOf K H (.ref a) (.ref C)
/-- isinstance(x, c) for one class c, a built-in or an own one: kitOne's answer -/
theorem isinst_ok {x : V} {u t : Value} (I : Inv X pins σ H s) (rx : RelV x u) (ty : TyOf X.K H x t) (e : PySem.W.kitOne X.K t c = some b) (h : ∀ tk, Q (.bool b) { s with toks := tk }) :
    wpAny (model X.prog X.w) A (call (.builtin "isinstance") [u, c]) Q E s := by
  cases ty with
  | non => cases (show u = Value.none from rx); exact PySem.W.kia_one PySem.W.kitx_none I.kIn True.intro e (fun z => nomatch z) h
  | bl y => cases (show u = Value.bool y from rx); exact PySem.W.kia_one PySem.W.kitx_bool I.kIn True.intro e (fun z => nomatch z) h
  | int i => obtain ⟨t, q⟩ := (show ∃ t, u = Value.int i t from rx); cases q; exact PySem.W.kia_one PySem.W.kitx_int I.kIn True.intro e (fun z => nomatch z) h
  | str y => obtain ⟨t, q⟩ := (show ∃ t, u = Value.str y t from rx); cases q; exact PySem.W.kia_one PySem.W.kitx_str I.kIn True.intro e (fun z => nomatch z) h
  | flt y => obtain ⟨t, q⟩ := (show ∃ t, u = Value.float y t from rx); cases q; exact PySem.W.kia_one PySem.W.kitx_float I.kIn True.intro e (fun z => nomatch z) h
  | @lst a xs ea =>
    cases (show u = Value.ref a from rx)
    obtain ⟨_, _, n, _, h1⟩ := (show ObjOk X.prog X.w H s.heap a (.lst xs) from I.hok a _ ea)
    exact PySem.W.kia_one PySem.W.kitx_list I.kIn ⟨_, h1, rfl⟩ e (fun z => nomatch z) h
  | @frz a ob xs ea =>
    cases (show u = Value.ref a from rx)
    obtain ⟨_, _, _, n, _, h1⟩ := (show ObjOk X.prog X.w H s.heap a (.frz ob (.lst xs)) from I.hok a _ ea)
    exact PySem.W.kia_one PySem.W.kitx_list I.kIn ⟨_, h1, rfl⟩ e (fun z => nomatch z) h
  | @tup a xs ea =>
    cases (show u = Value.ref a from rx)
    obtain ⟨_, _, _, p⟩ := (show ObjOk X.prog X.w H s.heap a (.tup xs) from I.hok a _ ea)
    obtain ⟨o, h1, h2, _⟩ := p
    exact PySem.W.kia_one PySem.W.kitx_tuple I.kIn ⟨o, h1, h2⟩ e (fun z => nomatch z) h
  | @dK a kvs ea =>
    cases (show u = Value.ref a from rx)
    obtain ⟨_, _, vs, _, p⟩ := (show ObjOk X.prog X.w H s.heap a (.dK kvs) from I.hok a _ ea)
    obtain ⟨o, es, ep, h1, h2, _⟩ := p
    exact PySem.W.kia_one PySem.W.kitx_dict I.kIn ⟨o, h1, h2.1⟩ e (fun z => nomatch z) h
  | @dT a kvs ea =>
    cases (show u = Value.ref a from rx)
    obtain ⟨_, _, xs, _, o, es, ep, h1, h2, _⟩ := (show ObjOk X.prog X.w H s.heap a (.dT kvs) from I.hok a _ ea)
    exact PySem.W.kia_one PySem.W.kitx_dict I.kIn ⟨o, h1, h2.1⟩ e (fun z => nomatch z) h
  | @ins a C dx fs ea cl ha hn htk hm =>
    cases (show u = Value.ref a from rx)
    obtain ⟨mA, O, _⟩ := ins_get I.hok ea
    obtain ⟨od, J, _⟩ := O.look
    exact PySem.W.kia_one (PySem.W.kitx_own (cl.get _) cl.hd ha hn htk hm) I.kIn J e (fun z => nomatch z) h
end
end L2

namespace L2
open PySem PySem.Spec PyProof.Rows

/-! ### room -/
structure Room (k : Nat) (A : Around) : Prop where
  hd : A.handled = none
  dp : A.depth + 3 * k + 5 < recursionLimit
  un : A.units + 16 * k + 200 < cLine
theorem Room.mono {j k : Nat} {A : Around} (r : Room k A) (h : j ≤ k) : Room j A := ⟨r.hd, by have := r.dp; omega, by have := r.un; omega⟩
theorem Room.deeper {k : Nat} {A : Around} (r : Room (k + 1) A) (env : Env) : Room k (A.deeper env) :=
  ⟨r.hd, by have := r.dp; show A.depth + 1 + 3 * k + 5 < _; omega, by have := r.un; show A.units + 3 + 16 * k + 200 < _; omega⟩
theorem make_depth {A : Around} {C : Addr} {us : List Value} {kw : List (Str × Value)} : (A.under (.builtin "type.__call__" ⟨.ref C :: us, kw⟩)).depth = A.depth + 1 := by
  first | rfl | simp [Around.under, Code.weight, Code.isCreation, Code.isGuard, Code.isCaller, Code.frames, Code.isFrame, guardIds]
theorem make_units {A : Around} {C : Addr} {us : List Value} {kw : List (Str × Value)} : (A.under (.builtin "type.__call__" ⟨.ref C :: us, kw⟩)).units = A.units + 1 := by
  first | rfl | simp [Around.under, Code.cUnits, Code.frames, Code.isFrame]
theorem Room.make {k : Nat} {A : Around} (r : Room (k + 1) A) (C : Addr) (us : List Value) (kw : List (Str × Value)) : Room k (A.under (.builtin "type.__call__" ⟨.ref C :: us, kw⟩)) :=
  ⟨r.hd, by have := r.dp; rw [make_depth]; omega, by have := r.un; rw [make_units]; omega⟩
theorem Room.depth {k : Nat} {A : Around} (r : Room k A) : A.depth < recursionLimit := by have := r.dp; omega
theorem Room.units {k : Nat} {A : Around} (r : Room k A) : A.units + 64 < cLine := by have := r.un; omega
theorem Room.units0 {k : Nat} {A : Around} (r : Room k A) : A.units < cLine := by have := r.un; omega

/-! ### argument lists and displays -/
def tNil : TA := fun _ H Q => Q [] H
def tCons (ta : TE) (tr : TA) : TA := fun σ H Q => ta σ H fun x H1 => tr σ H1 fun xs H2 => Q (x :: xs) H2
section
variable {X : Cx} {e : Expr} {es : List Expr} {te : TE} {t : TA} {pos : Pos}
theorem pa_nil : PA X [] tNil := fun _ _ _ _ H Q I h => Calls.spliced_nil ⟨[], H, I, .nil, h⟩
theorem pa_cons (ha : PE X e te) (hr : PA X es t) (hs : starEach (e :: es) X.env = (false, eval e X.env) :: starEach es X.env := by rfl) : PA X (e :: es) (tCons te t) := by
  intro pos pins s σ H Q I h
  rw [hs]
  show wpAny _ _ (spliced ((false, eval e X.env) :: backTo pos (starEach es X.env))) _ _ s
  refine Calls.spliced_cons (thn (ha pins s σ H _ I h) fun u s1 ⟨x, H1, I1, r1, q1⟩ => ?_)
  exact thn (hr pos pins s1 σ H1 _ I1 q1) fun us s2 ⟨xs, H2, I2, r2, q2⟩ => ⟨x :: xs, H2, I2, .cons r1 r2, q2⟩

/-- a tuple, a list of written items -/
def tTup (t : TA) : TE := fun σ H Q => t σ H fun xs H1 => xs.length ≤ sizeLine ∧ ∀ p, H1 p = none → Q (.ref p) (upd H1 p (.tup xs))
def tLst (t : TA) : TE := fun σ H Q => t σ H fun xs H1 => xs.length ≤ sizeLine ∧ ∀ p, H1 p = none → Q (.ref p) (upd H1 p (.lst xs))
theorem pe_tup {x1} (h : PA X es t) : PE X (.Tuple es x1 pos) (tTup t) := by
  intro pins s σ H Q I hq
  refine wpAny_Tuple_spliced (thn (h pos pins s σ H _ I hq) fun us s1 ⟨xs, H1, I1, r, z, q⟩ => ⟨by rw [← r.length]; exact z, ?_⟩)
  have hf : H1 s1.heap.objs.size = none := I1.hok.fresh (Nat.le_refl _)
  refine ⟨.ref s1.heap.objs.size, upd H1 s1.heap.objs.size (.tup xs), I1.laid (t' := s1.toks) (fun b u e => Heap.get?_push_of_some _ e) (Nat.le_refl _) ?_, rfl, q _ hf⟩
  exact ⟨z, us, r, ⟨_, Heap.get?_push_size _ rfl, rfl, _, rfl⟩⟩
theorem pe_lst (h : PA X es t) : PE X (.List es pos) (tLst t) := by
  intro pins s σ H Q I hq
  refine wpAny_List_spliced (thn (h pos pins s σ H _ I hq) fun us s1 ⟨xs, H1, I1, r, z, q⟩ => ⟨by rw [← r.length]; exact z, ?_⟩)
  have hf : H1 s1.heap.objs.size = none := I1.hok.fresh (Nat.le_refl _)
  refine ⟨.ref s1.heap.objs.size, upd H1 s1.heap.objs.size (.lst xs), I1.laid (t' := s1.toks) (fun b u e => Heap.get?_push_of_some _ e) (Nat.le_refl _) ?_, rfl, q _ hf⟩
  exact ⟨z, us, 0, r, Heap.get?_push_size _ rfl⟩
end

/-! ### what a def promises -/
/-- a def's promise: the bound arguments in the parameters' order, the heap, the wanted end, the wanted exception -/
abbrev Sp := List V → Hp → VK → XK → Prop
/-- how an exception lies behind a call (file 08 gives it): the callers' frames, abstract heap and state ahead of the call, the wish, the exception, the state -/
abbrev CXT := List Env → Hp → Shared → XK → Value → Shared → Prop

/-- the state at a call -/
structure Env0 (P : Program) (w : World) (K : PySem.W.Frag) (mg : Str → Option Value) (base : Heap) (A : Around) (outer : List Env) (s : Shared) (H : Hp) : Prop where
  frames : A.frames = some outer
  mod : Mod K mg base
  bs : ∀ b o, base.get? b = some o → s.heap.get? b = some o ∧ H b = none
  bsz : base.objs.size ≤ s.heap.objs.size
  funs : s.heap.FunFrames base outer
  frf : ∀ b ∈ frs outer, H b = none
  hok : HOk P w H s.heap
  bare : AllBare s.gens
/-- a call's end -/
def CE (outer : List Env) (P : Program) (w : World) (H : Hp) (s : Shared) (Q : VK) (u : Value) (s' : Shared) : Prop :=
  ∃ v H', s'.os = s.os ∧ AllBare s'.gens ∧ Un (frs outer) [] H H' s.heap s'.heap ∧ HOk P w H' s'.heap ∧ RelV v u ∧ Q v H'
def CR (CX : CXT) (outer : List Env) (P : Program) (w : World) (H : Hp) (s : Shared) (Q : VK) (E : XK) (r : Result) (s' : Shared) : Prop :=
  match r with
  | .ok (.ret u) => CE outer P w H s Q u s'
  | .ok _ => False
  | .error e => CX outer H s E e s'
structure FnOk (P : Program) (w : World) (K : PySem.W.Frag) (mg : Str → Option Value) (base : Heap) (CX : CXT) (k : Nat) (f : Addr) (fd : FuncData) (ps : List Str) (sp : Sp) : Prop where
  len : ∀ vs H Q E, sp vs H Q E → vs.length = ps.length
  run : ∀ (A : Around) (outer : List Env) (s : Shared) (H : Hp) (args : Args) (us : List Value) (vs : List V) (Q : VK) (E : XK), Room k A → Env0 P w K mg base A outer s H → BindsTo s fd args (ps.zip us) → Vals vs us → sp vs H Q E →
    codeAny (model P w) A (.call (.ref f) args) (CR CX outer P w H s Q E) s

theorem Env0.make {P : Program} {w : World} {K : PySem.W.Frag} {mg : Str → Option Value} {base : Heap} {A : Around} {outer : List Env} {s : Shared} {H : Hp} (e : Env0 P w K mg base A outer s H) (C : Addr) (us : List Value) (kw : List (Str × Value)) :
    Env0 P w K mg base (A.under (.builtin "type.__call__" ⟨.ref C :: us, kw⟩)) outer s H := ⟨by first | exact e.frames | (simpa [Around.under, Code.envs, Code.isFrame, pushEnvs] using e.frames), e.mod, e.bs, e.bsz, e.funs, e.frf, e.hok, e.bare⟩

section
variable {X : Cx} {pins : List (Addr × Obj)} {σ : St} {H : Hp} {s s' : Shared}
/-- from a body: what a callee wants -/
theorem Inv.env0 (I : Inv X pins σ H s) : Env0 X.prog X.w X.K X.mg X.base X.A X.stack s H :=
  ⟨I.ok.frames, I.ok.mod, I.bs, Nat.le_trans I.ok.bsz I.sz, I.stack, I.stkFree, I.hok, I.bare⟩
/-- behind a call -/
theorem Inv.after {Q : VK} {u : Value} (I : Inv X pins σ H s) (h : CE X.stack X.prog X.w H s Q u s') : EP X pins σ Q u s' := by
  obtain ⟨v, H', os, bare, un, hok, r, q⟩ := h
  obtain ⟨hh, g, d, t, os'⟩ := s'
  obtain rfl : os' = s.os := os
  exact ⟨v, H', I.call (h' := hh) (g' := g) (d' := d) (t' := t) (ch := []) un hok bare (fun b z => absurd z (by simp)), r, q⟩
end

/-! ### calls -/
/-- f(..): the written arguments, then the defaults dvs; E: what is wanted of an exception -/
def tCall (sp : Sp) (dvs : List V) (E : XK) (t : TA) : TE := fun σ H Q => t σ H fun vs H1 => sp (vs ++ dvs) H1 Q E
/-- o.m(..) of an instance of the class at C -/
def tMeth (C : Addr) (m : Str) (sp : Sp) (dvs : List V) (E : XK) (ta : TE) (t : TA) : TE := fun σ H Q => ta σ H fun x H1 => ∃ a dx fs, x = .ref a ∧ H1 a = some (.ins C dx fs) ∧ fs.lookup m = none ∧
  t σ H1 fun vs H2 => sp (x :: (vs ++ dvs)) H2 Q E
/-- C(..): a new instance and its dict, then __init__ -/
def tMake (C : Addr) (sp : Sp) (dvs : List V) (E : XK) (t : TA) : TE := fun σ H Q => t σ H fun vs H1 => ∀ x dx, H1 x = none → H1 dx = none → dx ≠ x →
  sp (.ref x :: (vs ++ dvs)) (upd (upd H1 dx (.own x)) x (.ins C dx [])) (fun v H2 => v = .non ∧ Q (.ref x) H2) E

/-- how the parameters are bound: us the positional arguments, kw the keywords' values by name, ds the defaults that fill up -/
def Binds (K : PySem.W.Frag) (fd : FuncData) (ps : List Str) (ds : List Value) : Prop :=
  ∀ (s : Shared) (us : List Value), K.In s.heap → (us ++ ds).length = ps.length → BindsTo s fd ⟨us, []⟩ (ps.zip (us ++ ds))
/-- every parameter is given -/
theorem Binds.all {K : PySem.W.Frag} {fd : FuncData} {ps : List Str} (h : ∀ us : List Value, us.length = ps.length → bindArgs fd ⟨us, []⟩ = pure (ps.zip us)) : Binds K fd ps [] := fun s us _ hl => by
  rw [List.append_nil] at hl ⊢
  exact .of_eq (h us hl)

/-- an exception of a callee reaches what this body wants of exceptions -/
def Passes (CX : CXT) (X : Cx) (E : XK) : Prop := ∀ (pins : List (Addr × Obj)) (σ : St) (H : Hp) (s : Shared) (e : Value) (s' : Shared), Inv X pins σ H s → CX X.stack H s E e s' → X.xe e s'

section
variable {X : Cx} {CX : CXT} {k : Nat} {f C : Addr} {fd : FuncData} {ps : List Str} {sp : Sp} {dvs : List V} {ds : List Value} {E : XK} {x m : Str} {p pos apos : Pos} {e o : Expr} {es : List Expr} {ta : TE} {t : TA}

/-- the callee runs -/
theorem run_fn {pins : List (Addr × Obj)} {σ : St} {H : Hp} {s : Shared} {Q : VK} {us : List Value} {vs : List V} (F : FnOk X.prog X.w X.K X.mg X.base CX k f fd ps sp) (hr : Room k X.A) (hb : Binds X.K fd ps ds) (hd : Vals dvs ds) (hx : Passes CX X E)
    (I : Inv X pins σ H s) (r : Vals vs us) (h : sp (vs ++ dvs) H Q E) : wpAny (model X.prog X.w) X.A (call (.ref f) us) (EP X pins σ Q) X.xe s := by
  have r2 : Vals (vs ++ dvs) (us ++ ds) := r.append hd
  have hl : (us ++ ds).length = ps.length := by rw [← r2.length]; exact F.len _ _ _ _ h
  refine wpAny_call (codeAny_mono (F.run X.A X.stack s H ⟨us, []⟩ (us ++ ds) (vs ++ dvs) Q E hr I.env0 (hb s us I.kIn hl) r2 h) fun r s' hq => ?_)
  cases r with
  | error e => exact hx pins σ H s e s' I hq
  | ok fl =>
    cases fl with
    | ret u => exact I.after hq
    | next => exact False.elim hq
    | brk => exact False.elim hq
    | cont => exact False.elim hq

theorem pe_call (F : FnOk X.prog X.w X.K X.mg X.base CX k f fd ps sp) (hr : Room k X.A) (hg : Gl X x) (hm : X.mg x = some (.ref f)) (hk : PySem.W.keepIn X.K (.ref f) = true) (hb : Binds X.K fd ps ds) (hd : Vals dvs ds) (hx : Passes CX X E)
    (ha : PA X (e :: es) t) (hdb : (x == ("__debug__" : Str)) = false := by decide) (he : starEach (e :: es) X.env = (false, eval e X.env) :: starEach es X.env := by rfl) (hpl : (backTo pos (starEach es X.env)).any (·.1) = false := by rfl) :
    PE X (.Call (.Name x p) (e :: es) [] pos) (tCall sp dvs E t) := by
  intro pins s σ H Q I h
  refine wpAny_Call_Name_kw (ld_glob I hg hm ?_ hdb)
  refine PySem.W.callWith_K (h₀ := X.base) I.ok.mod.kin hk (thn (ha pos pins s σ H _ I h) fun us s1 ⟨vs, H1, I1, r, q⟩ => ⟨I1.kIn, ?_⟩) he hpl
  exact run_fn F hr hb hd hx I1 r q

/-- o.m(e, ..) -/
theorem pe_meth {pl : Sem Bool} (he : PE X o ta) (c : Cls X.K C) (hm : Meth X.K C m f) (F : FnOk X.prog X.w X.K X.mg X.base CX k f fd ps sp) (hr : Room k X.A) (hb : Binds X.K fd ps ds) (hd : Vals dvs ds) (hx : Passes CX X E) (ha : PA X (e :: es) t)
    (hst : starEach (e :: es) X.env = (false, eval e X.env) :: starEach es X.env := by rfl) (hpl : (backTo pos (starEach es X.env)).any (·.1) = false := by rfl)
    (ht : eval (.Call (.Attribute o m apos) (e :: es) [] pos) X.env = (do
      let ov ← eval o X.env
      standAt apos.atName
      let (f, first) ← holding [ov] (getMethod ov m pl)
      callWith pos f first (backTo pos (starEach (e :: es) X.env)) (backToKw pos (keywordEach [] X.env))) := by rfl) :
    PE X (.Call (.Attribute o m apos) (e :: es) [] pos) (tMeth C m sp dvs E ta t) := by
  intro pins s σ H Q I h
  refine PySem.W.methodCall_KW (pl := pl) (thn (he pins s σ H _ I h) fun u s1 ⟨x, H1, I1, rx, a, dx, fs, ex, ea, l, q⟩ => ?_) ht
  subst ex
  obtain rfl : u = Value.ref a := rx
  refine getmeth_ok I1 ea c hm l ?_
  refine PySem.W.callWith_K (first := [.ref a]) (h₀ := X.base) I.ok.mod.kin hm.kp (thn (ha pos pins s1 σ H1 _ I1 q) fun us s2 ⟨vs, H2, I2, r, q2⟩ => ⟨I2.kIn, ?_⟩) hst hpl
  exact run_fn (us := .ref a :: us) (vs := .ref a :: vs) F hr hb hd hx I2 (.cons rfl r) q2
/-- o.m() -/
theorem pe_meth0 {pl : Sem Bool} (he : PE X o ta) (c : Cls X.K C) (hm : Meth X.K C m f) (F : FnOk X.prog X.w X.K X.mg X.base CX k f fd ps sp) (hr : Room k X.A) (hb : Binds X.K fd ps ds) (hd : Vals dvs ds) (hx : Passes CX X E)
    (ht : eval (.Call (.Attribute o m apos) [] [] pos) X.env = (do
      let ov ← eval o X.env
      standAt apos.atName
      let (f, first) ← holding [ov] (getMethod ov m pl)
      callWith pos f first (backTo pos (starEach [] X.env)) (backToKw pos (keywordEach [] X.env))) := by rfl) :
    PE X (.Call (.Attribute o m apos) [] [] pos) (tMeth C m sp dvs E ta tNil) := by
  intro pins s σ H Q I h
  refine PySem.W.methodCall_KW (pl := pl) (thn (he pins s σ H _ I h) fun u s1 ⟨x, H1, I1, rx, a, dx, fs, ex, ea, l, q⟩ => ?_) ht
  subst ex
  obtain rfl : u = Value.ref a := rx
  refine getmeth_ok I1 ea c hm l ?_
  exact PySem.W.callWith_K0 (first := [.ref a]) I1.kIn hm.kp (run_fn (us := [.ref a]) (vs := [.ref a]) F hr hb hd hx I1 (.cons rfl .nil) q)

/-- what a class must have to be made -/
structure Mk (K : PySem.W.Frag) (C f : Addr) : Prop where
  makes : PySem.W.makesIn K C = true
  init : PySem.W.findIn K (.ref C) "__init__" = some (some (.ref f))
  fn : PySem.W.isFn K (.ref f) = true
  kp : PySem.W.keepIn K (.ref C) = true

theorem run_make {pins : List (Addr × Obj)} {σ : St} {H : Hp} {s : Shared} {Q : VK} {us : List Value} {vs : List V} (M : Mk X.K C f) (F : FnOk X.prog X.w X.K X.mg X.base CX k f fd ps sp) (hr : Room (k + 1) X.A) (hb : Binds X.K fd ps ds) (hd : Vals dvs ds)
    (hx : Passes CX X E) (I : Inv X pins σ H s) (r : Vals vs us)
    (h : ∀ x dx, H x = none → H dx = none → dx ≠ x → sp (.ref x :: (vs ++ dvs)) (upd (upd H dx (.own x)) x (.ins C dx [])) (fun v H2 => v = .non ∧ Q (.ref x) H2) E) :
    wpAny (model X.prog X.w) X.A (call (.ref C) us) (EP X pins σ Q) X.xe s := by
  have hq := h (s.heap.objs.size + 1) s.heap.objs.size (I.hok.fresh (Nat.le_succ _)) (I.hok.fresh (Nat.le_refl _)) (Nat.ne_of_lt (Nat.lt_succ_self _))
  have I2 := Inv.made (C := C) I
  have r2 : Vals (V.ref (s.heap.objs.size + 1) :: (vs ++ dvs)) (Value.ref (s.heap.objs.size + 1) :: (us ++ ds)) := .cons rfl (r.append hd)
  have hl : (Value.ref (s.heap.objs.size + 1) :: us ++ ds).length = ps.length := by
    have e := r2.length
    rw [F.len _ _ _ _ hq] at e
    exact e.symm
  refine wpAny_call (make_map (f := f) I.kIn M.makes M.init (beq_iff_eq.mp M.fn) (codeAny_mono (F.run _ X.stack _ _ ⟨Value.ref (s.heap.objs.size + 1) :: us, []⟩ (Value.ref (s.heap.objs.size + 1) :: (us ++ ds)) _ _ E (hr.make C us [])
    (I2.env0.make C us []) (hb _ (Value.ref (s.heap.objs.size + 1) :: us) I2.kIn hl) r2 hq) fun r s' hq' => ?_))
  cases r with
  | error e => exact hx pins σ _ _ e s' I2 hq'
  | ok fl =>
    cases fl with
    | ret u =>
      obtain ⟨v, H', I3, rv, ev, q3⟩ := I2.after hq'
      subst ev
      exact ⟨rv, ⟨V.ref (s.heap.objs.size + 1), H', I3, rfl, q3⟩⟩
    | next => exact False.elim hq'
    | brk => exact False.elim hq'
    | cont => exact False.elim hq'
theorem pe_make (M : Mk X.K C f) (F : FnOk X.prog X.w X.K X.mg X.base CX k f fd ps sp) (hr : Room (k + 1) X.A) (hg : Gl X x) (hm : X.mg x = some (.ref C)) (hb : Binds X.K fd ps ds) (hd : Vals dvs ds) (hx : Passes CX X E)
    (ha : PA X (e :: es) t) (hdb : (x == ("__debug__" : Str)) = false := by decide) (he : starEach (e :: es) X.env = (false, eval e X.env) :: starEach es X.env := by rfl) (hpl : (backTo pos (starEach es X.env)).any (·.1) = false := by rfl) :
    PE X (.Call (.Name x p) (e :: es) [] pos) (tMake C sp dvs E t) := by
  intro pins s σ H Q I h
  refine wpAny_Call_Name_kw (ld_glob I hg hm ?_ hdb)
  refine PySem.W.callWith_K (h₀ := X.base) I.ok.mod.kin M.kp (thn (ha pos pins s σ H _ I h) fun us s1 ⟨vs, H1, I1, r, q⟩ => ⟨I1.kIn, ?_⟩) he hpl
  exact run_make M F hr hb hd hx I1 r q
end

/-! ### keywords -/
/-- the values of the keywords, from the left -/
def PK (X : Cx) (kws : List Keyword) (t : TA) : Prop :=
  ∀ (pos : Pos) (pins : List (Addr × Obj)) (s : Shared) (σ : St) (H : Hp) (Q : List V → Hp → Prop), Inv X pins σ H s → t σ H Q → wpAny (model X.prog X.w) X.A (evalAll ((backToKw pos (keywordEach kws X.env)).map (·.2))) (AP X pins σ Q) X.xe s
section
variable {X : Cx} {CX : CXT} {k : Nat} {f C : Addr} {fd : FuncData} {ps ks : List Str} {sp : Sp} {E : XK} {x m : Str} {p pos apos kpos : Pos} {e o : Expr} {es : List Expr} {kws : List Keyword} {te ta : TE} {t tk : TA} {nm : Option Str}

variable {g : List Value → List Value → List Value} {gV : List V → List V → List V}
end

/-! ### a def's body keeps its promise -/
/-- names: the parameters first -/
structure FnScope (N P : List Str) (sc : Scope) : Prop where
  kind : sc.kind = .function
  co : sc.isCoroutine = false
  gen : sc.isGenerator = false
  nd : N.Nodup
  pre : N.take P.length = P
  par : ∀ x ∈ P, sc.names.lookup x = some .local ∨ sc.names.lookup x = some .cell
  nofree : ∀ y ∈ sc.names, y.2 ≠ .free

theorem bindL_out {kindOf : Str → Option NameKind} {x : Str} : ∀ {binds : List (Str × Value)} {m : Str → Option Value}, (∀ v, (x, v) ∉ binds) → bindL kindOf binds m x = m x
  | [], _, _ => rfl
  | (n, v) :: r, m, h => by
    unfold bindL
    rw [bindL_out fun w hw => h w (List.mem_cons_of_mem _ hw)]
    split
    · have : x ≠ n := by rintro rfl; exact h v List.mem_cons_self
      simp [this]
    · rfl
theorem bindC_out {kindOf : Str → Option NameKind} {x : Str} : ∀ {binds : List (Str × Value)} {m : Str → Option Value}, (∀ v, (x, v) ∉ binds) → bindC kindOf binds m x = m x
  | [], _, _ => rfl
  | (n, v) :: r, m, h => by
    unfold bindC
    rw [bindC_out fun w hw => h w (List.mem_cons_of_mem _ hw)]
    split
    · rfl
    · have : x ≠ n := by rintro rfl; exact h v List.mem_cons_self
      simp [this]
theorem bindL_get {kindOf : Str → Option NameKind} {x : Str} {v : Value} : ∀ {P : List Str} {vs : List Value} {i : Nat} {m : Str → Option Value}, P.Nodup → P[i]? = some x → vs[i]? = some v → kindOf x = some .local →
    bindL kindOf (P.zip vs) m x = some v
  | [], _, _, _, _, h, _, _ => by simp at h
  | _ :: _, [], _, _, _, _, h, _ => by simp at h
  | p :: P, w :: vs, 0, m, nd, h1, h2, hk => by
    simp at h1 h2; subst h1; subst h2
    show bindL kindOf ((p, w) :: P.zip vs) m p = _
    unfold bindL
    rw [bindL_out fun v hv => (List.nodup_cons.mp nd).1 (List.of_mem_zip hv).1, if_pos hk]
    simp
  | p :: P, w :: vs, i + 1, m, nd, h1, h2, hk => by
    show bindL kindOf ((p, w) :: P.zip vs) m x = _
    unfold bindL
    exact bindL_get (i := i) (List.nodup_cons.mp nd).2 (by simpa using h1) (by simpa using h2) hk
theorem bindC_get {kindOf : Str → Option NameKind} {x : Str} {v : Value} : ∀ {P : List Str} {vs : List Value} {i : Nat} {m : Str → Option Value}, P.Nodup → P[i]? = some x → vs[i]? = some v → kindOf x ≠ some .local →
    bindC kindOf (P.zip vs) m x = some v
  | [], _, _, _, _, h, _, _ => by simp at h
  | _ :: _, [], _, _, _, _, h, _ => by simp at h
  | p :: P, w :: vs, 0, m, nd, h1, h2, hk => by
    simp at h1 h2; subst h1; subst h2
    show bindC kindOf ((p, w) :: P.zip vs) m p = _
    unfold bindC
    rw [bindC_out fun v hv => (List.nodup_cons.mp nd).1 (List.of_mem_zip hv).1, if_neg hk]
    simp
  | p :: P, w :: vs, i + 1, m, nd, h1, h2, hk => by
    show bindC kindOf ((p, w) :: P.zip vs) m x = _
    unfold bindC
    exact bindC_get (i := i) (List.nodup_cons.mp nd).2 (by simpa using h1) (by simpa using h2) hk

/-- the names' values at the entry -/
def start (N : List Str) (vs : List V) : St := vs.map some ++ List.replicate (N.length - vs.length) none

/-- the context of a def's body, at its entry; an exception leaves the frame, then lies as CX says -/
def cxOf (CX : CXT) (P : Program) (w : World) (K : PySem.W.Frag) (mg : Str → Option Value) (base : Heap) (N : List Str) (qual : Str) (scope : Scope) (f : Addr) (cd : Value) (A : Around) (outer : List Env) (s : Shared) (H : Hp) (E : XK) : Cx where
  prog := P
  w := w
  K := K
  mg := mg
  base := base
  A := A.deeper (envOfC qual scope s.heap.objs.size f cd)
  N := N
  s₀ := s
  H₀ := H
  env := envOfC qual scope s.heap.objs.size f cd
  outer := outer
  stack := envOfC qual scope s.heap.objs.size f cd :: outer
  ex := []
  calm := true
  fn := fun _ => true
  pn := []
  xe := fun e s' => wpAny (model P w) (A.deeper (envOfC qual scope s.heap.objs.size f cd)) (leaving (envOfC qual scope s.heap.objs.size f cd) e) (fun _ s'' => CX outer H s E e s'') (fun e' s'' => CX outer H s E e' s'') s'

theorem cell_has {sc : Scope} {n : Nat} {x : Str} (h : sc.names.lookup x = some .cell) : ∃ c, (cellsFrom n sc.names []).lookup x = some c := by
  have q := PySem.W.cellsFrom_some sc.names n [] (.inl h)
  exact Option.isSome_iff_exists.mp q

theorem inv_start {CX : CXT} {P : Program} {w : World} {K : PySem.W.Frag} {mg : Str → Option Value} {base : Heap} {N ps : List Str} {qual : Str} {scope : Scope} {f : Addr} {cd : Value} {A : Around} {outer : List Env} {s s1 : Shared} {H : Hp} {E : XK} {us : List Value} {vs : List V}
    (S : FnScope N ps scope) (hd : A.handled = none) (e0 : Env0 P w K mg base A outer s H) (hl : vs.length = ps.length) (r : Vals vs us)
    (x : InCallC s s.heap.objs.size (bindL (envOfC qual scope s.heap.objs.size f cd).kindOf (ps.zip us) fun _ => none) (cellsFrom (s.heap.objs.size + 1) scope.names []) (bindC (envOfC qual scope s.heap.objs.size f cd).kindOf (ps.zip us) fun _ => none) s1) :
    Inv (cxOf CX P w K mg base N qual scope f cd A outer s H E) [] (start N vs) H s1 := by
  have hpl : ps.length ≤ N.length := by have := congrArg List.length S.pre; rw [List.length_take] at this; omega
  obtain ⟨h1, tk, rfl, hk⟩ := x.done
  have noA : ∀ b : Addr, b ∉ (cxOf CX P w K mg base N qual scope f cd A outer s H E).ex := fun b z => absurd (show b ∈ ([] : List Addr) from z) (by simp)
  refine ⟨⟨e0.mod, S.kind, rfl, rfl, Nat.le_refl _, fun y z c h1 h2 => ?_, fun y hy => ?_, fun y c _ h => ?_, fun _ => hd, Around.frames_deeper e0.frames, .inr ⟨rfl, rfl⟩, fun b z => absurd z (noA b), e0.bs, e0.bsz, fun b _ _ => noA b, fun b z => absurd z (noA b), e0.funs, e0.frf⟩,
    rfl, e0.bare, Un.kept hk, ⟨_, x.toInCall.ns, fun i y v h1 h2 h3 => ?_⟩, fun y c h => ⟨_, x.cell y c h⟩, e0.hok.fresh (Nat.le_refl _), fun y c h => ?_, fun p hp => absurd (show p ∈ ([] : List (Addr × Obj)) from hp) (by simp), e0.hok.kept hk, ?_⟩
  · exact name_of_addr x.apart (PySem.mem_of_lookup h1) (PySem.mem_of_lookup h2)
  · have hy : scope.names.lookup y = some .cell ∨ scope.names.lookup y = some .free := hy
    rcases hy with hy | hy
    · exact cell_has hy
    · exact absurd rfl (S.nofree _ (PySem.mem_of_lookup hy))
  · exact Nat.le_of_lt (x.above y c (PySem.mem_of_lookup h))
  · have hi : i < vs.length := by
      unfold start at h2
      by_cases hi : i < vs.length
      · exact hi
      · rw [List.getElem?_append_right (by simpa using hi)] at h2
        rw [List.getElem?_replicate] at h2
        split at h2 <;> cases h2
    have ha : vs[i]? = some v := by
      unfold start at h2
      rw [List.getElem?_append_left (by simpa using hi), List.getElem?_map] at h2
      cases e : vs[i]? with
      | none => rw [e] at h2; cases h2
      | some a => rw [e] at h2; cases h2; rfl
    obtain ⟨u, hu, rv⟩ := r.get ha
    have hp : ps[i]? = some y := by
      rw [← S.pre, List.getElem?_take_of_lt (by omega)]; exact h1
    have ndP : ps.Nodup := by rw [← S.pre]; exact S.nd.sublist (List.take_sublist _ _)
    refine ⟨u, rv, ?_⟩
    rcases S.par y (List.mem_of_getElem? hp) with k | k
    · exact .inl ⟨k, bindL_get ndP hp hu k⟩
    · obtain ⟨c, e⟩ := cell_has (n := s.heap.objs.size + 1) k
      refine .inr ⟨.inl k, c, e, ?_⟩
      have q := x.cell y c e
      rw [bindC_get ndP hp hu (by show scope.names.lookup y ≠ _; rw [k]; decide)] at q
      exact q
  · exact e0.hok.fresh (Nat.le_of_lt (x.above y c (PySem.mem_of_lookup h)))
  · unfold start
    show _ = N.length
    rw [List.length_append, List.length_map, List.length_replicate]
    omega

/-- THE RULE: a def (or a method) of the text, by its body. The body's reading t is chosen for each entry; it is run at the parameters' values -/
theorem fn_of {CX : CXT} {P : Program} {w : World} {K : PySem.W.Frag} {mg : Str → Option Value} {base : Heap} {k : Nat} {f : Addr} {name qual : Str} {params : Arguments} {body : List Stmt} {scope : Scope} {dV kV doc pm cdv ct oc : Value} {an od : Option Addr}
    {osl : Array (Option Value)} {N ps : List Str} {sp : Sp} (lk : K.lookup f = some ⟨oc, od, .func (PySem.W.fnOf name qual params body scope dV kV doc pm an cdv ct), osl⟩) (hcd : PySem.W.codeIn K cdv qual = true) (S : FnScope N ps scope)
    (len : ∀ vs H Q E, sp vs H Q E → vs.length = ps.length)
    (hbody : ∀ (A : Around) (outer : List Env) (s : Shared) (H : Hp) (vs : List V) (Q : VK) (E : XK), Room k (A.deeper (envOfC qual scope s.heap.objs.size f cdv)) → sp vs H Q E →
      ∃ t, PSs (cxOf CX P w K mg base N qual scope f cdv A outer s H E) body t ∧ t { nx := fun _ H' => Q .non H', rt := Q } (start N vs) H) :
    FnOk P w K mg base CX (k + 1) f (PySem.W.fnOf name qual params body scope dV kV doc pm an cdv ct) ps sp := by
  refine ⟨len, fun A outer s H args us vs Q E hr e0 hb r hsp => ?_⟩
  have hl := len _ _ _ _ hsp
  have KX : K.In s.heap := e0.mod.kin.keeps fun b o e => (e0.bs b o e).1
  have lim : s.heap.NoLimit := e0.mod.nolimit.keeps fun b o e => (e0.bs b o e).1
  have hkind : ∀ y ∈ ps.zip us, scope.names.lookup y.1 = some .local ∨ (scope.names.lookup y.1 = some .cell ∧ ((cellsFrom (s.heap.objs.size + 1) scope.names []).lookup y.1).isSome = true) := fun ⟨n, v⟩ hy => by
    rcases S.par n (List.of_mem_zip hy).1 with q | q
    · exact .inl q
    · exact .inr ⟨q, PySem.W.cellsFrom_some _ _ _ (.inl q)⟩
  refine codeAny_call_function hr.depth (KX _ _ lk) rfl S.co S.gen rfl (PySem.W.codeRec_of KX hcd) (hb _ _ _ _ ?_)
  refine wpAny_newFunctionEnv_cells S.kind hkind fun env he s1 x => ?_
  subst he
  refine ⟨lim.keeps x.toInCall.keep, codeAny_func ?_⟩
  obtain ⟨t, ht, hq⟩ := hbody A outer s H vs Q E (hr.deeper _) hsp
  have I : Inv (cxOf CX P w K mg base N qual scope f cdv A outer s H E) [] (start N vs) H s1 := inv_start S hr.hd e0 hl r x
  refine wpAny_mono (ht [] s1 (start N vs) H _ I hq) (fun fl s' hs => ?_) fun e s' hs => hs
  have fin : ∀ {σ' : St} {H' : Hp} {v : V} {u : Value}, Inv (cxOf CX P w K mg base N qual scope f cdv A outer s H E) [] σ' H' s' → RelV v u → Q v H' → CE outer P w H s Q u s' :=
    fun {σ' H' v u} J rv q => ⟨v, H', J.os, J.bare, J.base, J.hok, rv, q⟩
  cases fl with
  | ret u =>
    obtain ⟨v, σ', H', J, rv, q⟩ := hs
    exact fin J rv q
  | next =>
    obtain ⟨σ', H', J, q⟩ := hs
    exact fin (v := V.non) (u := Value.none) J rfl q
  | brk =>
    obtain ⟨_, _, _, q⟩ := hs
    exact False.elim q
  | cont =>
    obtain ⟨_, _, _, q⟩ := hs
    exact False.elim q
end L2

namespace L2
open PySem PySem.Spec PyProof.Rows
section
variable {X : Cx} {x : Str} {p pos : Pos} {e : Expr} {es : List Expr} {t : TA} {id T : String} {r : List V → Hp → VK → Prop}

def tCB (r : List V → Hp → VK → Prop) (t : TA) : TE := fun σ H Q => t σ H fun vs H1 => r vs H1 Q
/-- f(e, ..), f a built-in function -/
theorem pe_callB (hc : CallR X (.builtin id) r) (hg : Gl X x) (hm : X.mg x = none) (hv : bootBuiltins x = some (.builtin id)) (ha : PA X (e :: es) t) (hn : x ≠ "__name__" := by decide) (hdb : (x == ("__debug__" : Str)) = false := by decide)
    (he : starEach (e :: es) X.env = (false, eval e X.env) :: starEach es X.env := by rfl) (hpl : (backTo pos (starEach es X.env)).any (·.1) = false := by rfl) : PE X (.Call (.Name x p) (e :: es) [] pos) (tCB r t) := by
  intro pins s σ H Q I h
  refine wpAny_Call_Name_kw (ld_blt I hg hm hv ?_ hn hdb)
  exact PyProof.Rows.callWith_builtin1 (thn (ha pos pins s σ H _ I h) fun us s1 ⟨vs, H1, I1, r1, q1⟩ => hc pins s1 σ H1 vs us Q I1 r1 q1) he hpl
/-- T(e, ..), T a built-in type -/
theorem pe_callTy (hc : CallR X (.type T) r) (hg : Gl X x) (hm : X.mg x = none) (hv : bootBuiltins x = some (.type T)) (ha : PA X (e :: es) t) (hn : x ≠ "__name__" := by decide) (hdb : (x == ("__debug__" : Str)) = false := by decide)
    (he : starEach (e :: es) X.env = (false, eval e X.env) :: starEach es X.env := by rfl) (hpl : (backTo pos (starEach es X.env)).any (·.1) = false := by rfl) : PE X (.Call (.Name x p) (e :: es) [] pos) (tCB r t) := by
  intro pins s σ H Q I h
  refine wpAny_Call_Name_kw (ld_blt I hg hm hv ?_ hn hdb)
  exact PyProof.Rows.callWith_type1 (thn (ha pos pins s σ H _ I h) fun us s1 ⟨vs, H1, I1, r1, q1⟩ => hc pins s1 σ H1 vs us Q I1 r1 q1) he hpl
end
end L2

namespace HT
open PySem PyProof.Rows



section
open PySem.SeqAt
open PySem.AutoSeq1 (wpAny_loadPart')
open PySem.MeetsSeq PySem.MeetsSeq2 PySem.MeetsSeq3

end

section
variable {prog : Program} {w : World} {A : Around} {E : Value → Shared → Prop} {s : Shared}


/-- t + u, t not empty -/
theorem cat_tup {t b : Addr} {vs ws : List Value} {Q : Value → Shared → Prop} (ht : IsTup s.heap t vs.toArray) (hb : IsTup s.heap b ws.toArray) (hv : vs ≠ [])
    (h1 : ws = [] → Q (.ref t) s) (h2 : ws ≠ [] → Q (.ref s.heap.objs.size) { s with heap := s.heap.push { cls := .type "tuple", data := .seq (vs ++ ws).toArray } })
    (hsz : vs.length + ws.length ≤ sizeLine) : wpAny (model prog w) A (binaryOp .Add (.ref t) (.ref b)) Q E s := by
  obtain ⟨⟨cls, dd, data, sl⟩, ho, hc, n, hd⟩ := id ht
  obtain ⟨⟨cls2, dd2, data2, sl2⟩, ho2, hc2, n2, hd2⟩ := id hb
  simp only at hc hd hc2 hd2
  subst hc hd hc2 hd2
  have e : vs.toArray ++ ws.toArray = (vs ++ ws).toArray := by simp
  by_cases hw : ws = []
  · exact concat_meets ⟨_, ho, rfl⟩ ⟨_, ho2, rfl⟩ noFill_tuple_add seq_tuple_add PySem.F.slot_tuple_add PySem.F.entry_tuple_add (PySem.F.args_tuple_add_2 _ _)
      (tuple_addW1 t b vs.toArray ws.toArray n n2 dd dd2 sl sl2 (by simpa using hv) (by simp [hw])) ⟨ho, ho2, h1 hw⟩
  · refine concat_meets ⟨_, ho, rfl⟩ ⟨_, ho2, rfl⟩ noFill_tuple_add seq_tuple_add PySem.F.slot_tuple_add PySem.F.entry_tuple_add (PySem.F.args_tuple_add_2 _ _)
      (tuple_addW2 t b vs.toArray ws.toArray n n2 dd dd2 sl sl2 (by simpa using hv) (by simpa using hw) (by rw [List.size_toArray, List.size_toArray]; exact hsz)) ⟨ho, ho2, ?_⟩
    rw [e]
    exact h2 hw

/-! ### t[a:b], not the whole -/
/-- a slice's bound as a place among n (d where it is left out) -/
def sIx (n d : Nat) : Option Int → Nat
  | none => d
  | some v => if v < 0 then (v + (n : Int)).toNat else min v.toNat n
theorem sIx_nat (n d k : Nat) : sIx n d (some (k : Int)) = min k n := by
  show (if (k : Int) < 0 then ((k : Int) + (n : Int)).toNat else min (k : Int).toNat n) = min k n
  rw [if_neg (by omega), Int.toNat_natCast]
theorem sIx_le (n d : Nat) (hd : d ≤ n) (o : Option Int) : sIx n d o ≤ n := by
  cases o with
  | none => exact hd
  | some v =>
    show (if v < 0 then (v + (n : Int)).toNat else min v.toNat n) ≤ n
    by_cases hv : v < 0
    · rw [if_pos hv]; omega
    · rw [if_neg hv]; exact Nat.min_le_right _ _
theorem clip_eq (v : Int) (n d : Nat) : (if v < 0 then max (v + (n : Int)) 0 else min v (n : Int)) = ((sIx n d (some v) : Nat) : Int) := by
  show (if v < 0 then max (v + (n : Int)) 0 else min v (n : Int)) = (((if v < 0 then (v + (n : Int)).toNat else min v.toNat n) : Nat) : Int)
  by_cases hv : v < 0
  · simp only [if_pos hv]; omega
  · simp only [if_neg hv]; omega
theorem adjust_gen (lo hi : Option Int) (n : Nat) : Builtin.Slice.sliceAdjust lo hi 1 (n : Int) = (((sIx n 0 lo : Nat) : Int), ((sIx n n hi : Nat) : Int)) := by
  have h1 : ¬ ((1 : Int) < 0) := by omega
  unfold Builtin.Slice.sliceAdjust
  simp only [h1, if_false]
  refine Prod.ext ?_ ?_
  · cases lo with
    | none => rfl
    | some v => exact clip_eq v n 0
  · cases hi with
    | none => rfl
    | some v => exact clip_eq v n n
theorem places_gen (i j : Nat) : Builtin.Slice.slicePlaces (i : Int) (j : Int) 1 = j - i := by
  unfold Builtin.Slice.slicePlaces
  have h1 : (1 : Int) > 0 := by omega
  simp only [h1, if_true, Int.ediv_one]
  split <;> omega
theorem slicePart_ {v : Value} {o : Option Int} {Q : Option Int → Shared → Prop} (p : IsPart v o) (h : Q o s) : wpAny (model prog w) A (Builtin.Slice.slicePartIndex v) Q E s := by
  cases p with
  | none => exact slicePart_none h
  | int i t => exact slicePart_int h
theorem sliceApplied_gen {sl : Addr} {vl vu : Value} {lo hi : Option Int} {n : Nat} {Q : Int × Int × Nat → Shared → Prop} (hs : s.heap.IsSliceOf sl vl vu .none) (pl : IsPart vl lo) (pu : IsPart vu hi)
    (h : Q (((sIx n 0 lo : Nat) : Int), 1, sIx n n hi - sIx n 0 lo) s) : wpAny (model prog w) A (Builtin.Slice.sliceApplied (.ref sl) (pure (n : Int))) Q E s := by
  obtain ⟨os, hos, hcs, hds⟩ := id hs
  unfold Builtin.Slice.sliceApplied Builtin.Slice.sliceFields
  refine wpAny_bind (wpAny_bind (wpAny_field hos hds (x := vl) rfl (wpAny_bind (wpAny_field hos hds (x := vu) rfl (wpAny_bind (wpAny_field hos hds (x := .none) rfl (wpAny_pure ?_)))))))
  refine wpAny_bind (slicePart_none ?_)
  show wpAny _ _ (if ((1 : Int) == 0) = true then _ else _) _ _ s
  rw [if_neg (by decide)]
  refine wpAny_bind (slicePart_ pl (wpAny_bind (slicePart_ pu (wpAny_bind (wpAny_pure ?_)))))
  show wpAny _ _ (match Builtin.Slice.sliceAdjust lo hi 1 (n : Int) with | (lo, hi) => pure (lo, (1 : Int), Builtin.Slice.slicePlaces lo hi 1)) _ _ s
  rw [adjust_gen lo hi n]
  show wpAny _ _ (pure (((sIx n 0 lo : Nat) : Int), (1 : Int), Builtin.Slice.slicePlaces ((sIx n 0 lo : Nat) : Int) ((sIx n n hi : Nat) : Int) 1)) _ _ s
  rw [places_gen]
  exact wpAny_pure h
theorem pick_gen (xs : Array Value) (i k : Nat) : ((List.range k).filterMap fun (m : Nat) => xs[((i : Int) + (m : Int) * 1).toNat]?).toArray = ((xs.toList.drop i).take k).toArray := by
  have e : (fun (m : Nat) => xs[((i : Int) + (m : Int) * 1).toNat]?) = fun m => xs[i + m]? := by
    funext m
    have : ((i : Int) + (m : Int) * 1).toNat = i + m := by omega
    rw [this]
  rw [e]
  have := pick_run xs i k
  rw [List.filterMap_map] at this
  have e2 : ((fun x => xs[x]?) ∘ fun x => i + x) = fun m => xs[i + m]? := rfl
  rw [e2] at this
  rw [this]

theorem getItem_tuple_cut {t sl : Addr} {items : Array Value} {vl vu : Value} {lo hi : Option Int} {Q : Value → Shared → Prop} (ht : IsTup s.heap t items) (hs : s.heap.IsSliceOf sl vl vu .none) (pl : IsPart vl lo) (pu : IsPart vu hi)
    (hw : ¬ (sIx items.size 0 lo = 0 ∧ sIx items.size items.size hi = items.size))
    (h : Q (.ref s.heap.objs.size) { s with heap := s.heap.push { cls := .type "tuple", data := .seq ((items.toList.drop (sIx items.size 0 lo)).take (sIx items.size items.size hi - sIx items.size 0 lo)).toArray } })
    (hsz : items.size ≤ sizeLine) : wpAny (model prog w) A (getItem (.ref t) (.ref sl)) Q E s := by
  have htake : sizeOk (.seq ((items.toList.drop (sIx items.size 0 lo)).take (sIx items.size items.size hi - sIx items.size 0 lo)).toArray) := by
    show ((items.toList.drop (sIx items.size 0 lo)).take (sIx items.size items.size hi - sIx items.size 0 lo)).toArray.size ≤ sizeLine
    rw [List.size_toArray, List.length_take, List.length_drop, Array.length_toList]
    omega
  have hj : sIx items.size items.size hi ≤ items.size := sIx_le _ _ (Nat.le_refl _) hi
  obtain ⟨os, hos, hcs, hds⟩ := id hs
  have hTs : s.TypeIs (.ref sl) "slice" := ⟨os, hos, hcs⟩
  unfold getItem
  try with_reducible refine wpAny_holding ?_
  first | refine wpAny_bind (wpAny_pure ?_) | skip
  refine wpAny_bind (wpAny_sequenceKey ht.typeIs (by decide) ?_)
  refine wpAny_bind (wpAny_callSpecial?_slot (name := Str.ofString "__getitem__") ht.typeIs PyProof.Rows.slot_tuple_getitem
    (wpAny_call_entry PyProof.Rows.slot_tuple_getitem ht.typeIs entry_tuple_getitem ?_ (args_tuple_getitem _ _)))
  show wpAny _ _ (Builtin.Tuple.tupleItemsOf (.ref t) >>= _) _ _ s
  refine wpAny_bind (tupleItemsOf_ ht ?_)
  refine wpAny_bind (wpAny_typeOf hTs ?_)
  rw [if_pos (by decide)]
  refine wpAny_bind (sliceApplied_gen hs pl pu ?_)
  have hno : ¬ ((((sIx items.size 0 lo : Nat) : Int) == 0 && (1 : Int) == 1 && (sIx items.size items.size hi - sIx items.size 0 lo) == items.size) = true) := by
    intro q
    rw [Bool.and_eq_true, Bool.and_eq_true] at q
    have q1 : ((sIx items.size 0 lo : Nat) : Int) = 0 := eq_of_beq q.1.1
    have q2 : sIx items.size items.size hi - sIx items.size 0 lo = items.size := eq_of_beq q.2
    exact hw ⟨by omega, by omega⟩
  show wpAny _ _ (if (((sIx items.size 0 lo : Nat) : Int) == 0 && (1 : Int) == 1 && (sIx items.size items.size hi - sIx items.size 0 lo) == items.size) = true then _ else _) _ _ s
  rw [if_neg hno, pick_gen]
  first
    | exact wpAny_bind (m := Builtin.Tuple.tupleExact _) (wpAny_newObj_type (wpAny_pure ⟨_, rfl, wpAny_pure h⟩) htake)
    | exact wpAny_bind (m := Builtin.Tuple.tupleExact _) (wpAny_newObj_type (wpAny_bind (wpAny_pure (wpAny_pure ⟨_, rfl, wpAny_pure h⟩))) htake)
    | exact wpAny_bind (wpAny_bind (m := Builtin.Tuple.tupleExact _) (wpAny_newObj_type (wpAny_pure (wpAny_pure ⟨_, rfl, wpAny_pure h⟩)) htake))
    | exact wpAny_bind (wpAny_bind (m := Builtin.Tuple.tupleExact _) (wpAny_newObj_type (wpAny_pure ⟨_, rfl, wpAny_pure h⟩) htake))
end
end HT

namespace L2
open PySem PySem.Spec PyProof.Rows

/-! ### the parts of a slice -/
abbrev TO := St → Hp → (Option Int → Hp → Prop) → Prop
/-- a slice's part (left out, or an int) -/
def PO (X : Cx) (e : Option Expr) (t : TO) : Prop :=
  ∀ (pins : List (Addr × Obj)) (s : Shared) (σ : St) (H : Hp) (Q : Option Int → Hp → Prop), Inv X pins σ H s → t σ H Q →
    wpAny (model X.prog X.w) X.A (evalPart e X.env) (fun u s' => ∃ o H', Inv X pins σ H' s' ∧ IsPart u o ∧ Q o H') X.xe s
def tNoPart : TO := fun _ H Q => Q none H
def tPart (t : TE) : TO := fun σ H Q => t σ H fun x H1 => ∃ i, x = .int i ∧ Q (some i) H1


section
variable {X : Cx} {e : Expr} {te : TE} {lo hi : Option Expr} {tl th : TO} {pos p2 : Pos}

theorem po_none : PO X none tNoPart := by
  intro pins s σ H Q I h
  rw [evalPart_none]
  exact wpAny_pure ⟨none, H, I, .none, h⟩
theorem po_some (h : PE X e te) : PO X (some e) (tPart te) := by
  intro pins s σ H Q I hw
  rw [evalPart_some]
  refine thn (h pins s σ H _ I hw) fun u s1 ⟨x, H1, I1, r1, q1⟩ => ?_
  obtain ⟨i, rfl, q⟩ := q1
  obtain ⟨t, rfl⟩ := r1
  exact ⟨some i, H1, I1, .int i t, q⟩

/-- what a slice of a value is, by values: the slice object stands at sl -/
def SlR (X : Cx) (r : V → Option Int → Option Int → Hp → VK → Prop) : Prop :=
  ∀ (pins : List (Addr × Obj)) (s : Shared) (σ : St) (H : Hp) (x : V) (v vl vu : Value) (lo hi : Option Int) (sl : Addr) (Q : VK), Inv X pins σ H s → RelV x v → s.heap.IsSliceOf sl vl vu .none → IsPart vl lo → IsPart vu hi → r x lo hi H Q →
    ∃ T id, typeLookup (.type T) "__getitem__" = pure (some (.builtin id)) ∧ s.TypeIs v T ∧ wpAny (model X.prog X.w) X.A (getItem v (.ref sl)) (EP X pins σ Q) X.xe s
def tSl (r : V → Option Int → Option Int → Hp → VK → Prop) (te : TE) (tl th : TO) : TE := fun σ H Q => te σ H fun x H1 => tl σ H1 fun l H2 => th σ H2 fun u H3 => r x l u H3 Q
/-- a[lo:hi], any a -/
theorem pe_slice {r : V → Option Int → Option Int → Hp → VK → Prop} (hr : SlR X r) (he : PE X e te) (hl : PO X lo tl) (hu : PO X hi th) : PE X (.Subscript e (.Slice lo hi none p2) pos) (tSl r te tl th) := by
  intro pins s σ H Q I h
  refine Subscript_ (thn (he pins s σ H _ I h) fun v s1 ⟨x, H1, I1, r1, q1⟩ => ?_)
  refine wpAny_Slice (thn (hl pins s1 σ H1 _ I1 q1) fun vl s2 ⟨l, H2, I2, pl, q2⟩ => thn (hu pins s2 σ H2 _ I2 q2) fun vu s3 ⟨u, H3, I3, pu, q3⟩ => ?_)
  rw [evalPart_none]
  refine wpAny_pure ?_
  have I4 : Inv X pins σ H3 { s3 with heap := s3.heap.push { cls := .type "slice", data := .fields #[vl, vu, .none] } } := I3.kept (t' := s3.toks) fun b ob q => Heap.get?_push_of_some _ q
  obtain ⟨T, id, hT, ht, hg⟩ := hr pins { s3 with heap := s3.heap.push { cls := .type "slice", data := .fields #[vl, vu, .none] } } σ H3 x v vl vu l u s3.heap.objs.size Q I4 r1 (Heap.IsSliceOf.new ..) pl pu q3
  show wpAny (model X.prog X.w) X.A (subscriptTail e (.Slice lo hi none p2) v (.ref s3.heap.objs.size)) (EP X pins σ Q) X.xe { s3 with heap := s3.heap.push { cls := .type "slice", data := .fields #[vl, vu, .none] } }
  exact tail_any (ops := [.ref s3.heap.objs.size, v]) ht hT hg (by with_unfolding_all rfl)

/-- the items of xs[lo:hi] -/
def cutV (xs : List V) (lo hi : Option Int) : List V := (xs.drop (HT.sIx xs.length 0 lo)).take (HT.sIx xs.length xs.length hi - HT.sIx xs.length 0 lo)
theorem cutV_length (xs : List V) (lo hi : Option Int) : (cutV xs lo hi).length ≤ xs.length := by
  unfold cutV
  rw [List.length_take, List.length_drop]
  omega
/-- t[lo:hi], not the whole of it (the whole would be t itself) -/
def rSlT (K : PySem.W.Frag) : V → Option Int → Option Int → Hp → VK → Prop := fun x lo hi H Q => ∃ a xs, x = .ref a ∧ SqT K H a xs ∧
  ¬ (HT.sIx xs.length 0 lo = 0 ∧ HT.sIx xs.length xs.length hi = xs.length) ∧ ∀ p, H p = none → Q (.ref p) (upd H p (.tup (cutV xs lo hi)))
theorem sl_tup : SlR X (rSlT X.K) := by
  intro pins s σ H x v vl vu lo hi sl Q I rx hs pl pu h
  obtain ⟨a, xs, rfl, hx, hw, q⟩ := h
  cases rx
  obtain ⟨its, r, ht, hz⟩ := I.tuple hx
  have hlen : its.toArray.size = xs.length := by rw [List.size_toArray]; exact r.length.symm
  refine ⟨"tuple", _, PyProof.Rows.slot_tuple_getitem.lookup, ht.typeIs, ?_⟩
  refine HT.getItem_tuple_cut ht hs pl pu (by rw [hlen]; exact hw) ?_ (by rw [hlen]; exact hz)
  rw [hlen]
  refine ⟨.ref s.heap.objs.size, _, I.laid (t' := s.toks) (o := .tup (cutV xs lo hi)) (fun b ob q => Heap.get?_push_of_some _ q) (Nat.le_refl _) ?_, rfl, q _ (I.hok.fresh (Nat.le_refl _))⟩
  exact ⟨Nat.le_trans (cutV_length xs lo hi) hz, _, (r.drop (HT.sIx xs.length 0 lo)).take (HT.sIx xs.length xs.length hi - HT.sIx xs.length 0 lo), IsTup.new _ _⟩

/-! ### t < u, t + u -/
/-- t + u, t not empty: u empty gives t itself -/
def rCatT (K : PySem.W.Frag) : R2 := fun x y H Q => ∃ a b xs ys, x = .ref a ∧ y = .ref b ∧ SqT K H a xs ∧ SqT K H b ys ∧ xs ≠ [] ∧ xs.length + ys.length ≤ sizeLine ∧
  (ys = [] → Q (.ref a) H) ∧ (ys ≠ [] → ∀ p, H p = none → Q (.ref p) (upd H p (.tup (xs ++ ys))))
theorem Vals.nil_iff {xs : List V} {us : List Value} (r : Vals xs us) : us = [] ↔ xs = [] := by
  cases r with
  | nil => simp
  | cons _ _ => simp
theorem op_catT : OpR X (binaryOp .Add) (rCatT X.K) := by
  intro pins s σ H x y v u Q I rx ry h
  obtain ⟨a, b, xs, ys, rfl, rfl, ha, hb, hx, hz, q1, q2⟩ := h
  cases rx
  cases ry
  obtain ⟨its, r1, p1, _⟩ := I.tuple ha
  obtain ⟨its2, r2, p2, _⟩ := I.tuple hb
  refine HT.cat_tup p1 p2 (fun z => hx (r1.nil_iff.mp z)) (fun z => ⟨.ref a, H, I, rfl, q1 (r2.nil_iff.mp z)⟩) (fun z => ?_) (by rw [← r1.length, ← r2.length]; exact hz)
  refine ⟨.ref s.heap.objs.size, _, I.laid (t' := s.toks) (o := .tup (xs ++ ys)) (fun b ob q => Heap.get?_push_of_some _ q) (Nat.le_refl _) ?_, rfl, q2 (fun w => z (r2.nil_iff.mpr w)) _ (I.hok.fresh (Nat.le_refl _))⟩
  exact ⟨by rw [List.length_append]; exact hz, _, r1.append r2, IsTup.new _ _⟩
end
end L2

namespace L2
open PySem PySem.Spec PyProof.Rows

/-! ### places -/
/-- the place that an index of any sign means -/
def ixN (n : Nat) (i : Int) : Option Nat := if 0 ≤ i then (if i < n then some i.toNat else none) else if -(n : Int) ≤ i then some (i + n).toNat else none
def atI {α : Type} (xs : List α) (i : Int) : Option α := (ixN xs.length i).bind fun j => xs[j]?
theorem ixN_seq {n : Nat} {i : Int} {j : Nat} (h : ixN n i = some j) : seqIndex? i n = some j ∧ j < n ∧ -(n : Int) ≤ i ∧ i < n := by
  unfold ixN at h
  by_cases h0 : 0 ≤ i
  · rw [if_pos h0] at h
    by_cases h1 : i < n
    · rw [if_pos h1] at h
      have e : i.toNat = j := Option.some.inj h
      exact ⟨by rw [seqIndex_of h0 h1, e], by omega, by omega, h1⟩
    · rw [if_neg h1] at h; cases h
  · rw [if_neg h0] at h
    by_cases h1 : -(n : Int) ≤ i
    · rw [if_pos h1] at h
      have e : (i + n).toNat = j := Option.some.inj h
      exact ⟨by rw [seqIndex_neg (by omega) h1, e], by omega, h1, by omega⟩
    · rw [if_neg h1] at h; cases h
theorem atI_get {α : Type} {xs : List α} {i : Int} {v : α} (h : atI xs i = some v) : ∃ j, seqIndex? i xs.length = some j ∧ xs[j]? = some v ∧ j < xs.length ∧ -(xs.length : Int) ≤ i ∧ i < xs.length := by
  unfold atI at h
  cases e : ixN xs.length i with
  | none => rw [e] at h; cases h
  | some j =>
    rw [e] at h
    obtain ⟨h1, h2, h3, h4⟩ := ixN_seq e
    exact ⟨j, h1, h, h2, h3, h4⟩
theorem atI_nat {α : Type} {xs : List α} {j : Nat} {v : α} (h : xs[j]? = some v) : atI xs (j : Int) = some v := by
  have hj : j < xs.length := (List.getElem?_eq_some_iff.mp h).1
  have e : ixN xs.length (j : Int) = some j := by
    unfold ixN
    rw [if_pos (by omega), if_pos (by omega)]; simp
  unfold atI; rw [e]; exact h

/-! ### what may be subscripted -/
/-- what stands as an index of a plain subscript -/
def PlainIx (b : Expr) : Prop := ∀ o i, subscripted b false o i = operate [o, i] (getItem o i)
/-- a subscript by values -/
def IxR (X : Cx) (r : R2) : Prop :=
  ∀ (value slice : Expr) (pins : List (Addr × Obj)) (s : Shared) (σ : St) (H : Hp) (x y : V) (v u : Value) (Q : VK), Inv X pins σ H s → RelV x v → RelV y u → r x y H Q →
    subscripted slice false v u = operate [v, u] (getItem v u) → wpAny (model X.prog X.w) X.A (subscriptTail value slice v u) (EP X pins σ Q) X.xe s
/-- a call of a builtin's method by values: the receiver, the arguments -/
def MtR (X : Cx) (id : String) (r : V → List V → Hp → VK → Prop) : Prop :=
  ∀ (pins : List (Addr × Obj)) (s : Shared) (σ : St) (H : Hp) (x : V) (xs : List V) (v : Value) (us : List Value) (Q : VK), Inv X pins σ H s → RelV x v → Vals xs us → r x xs H Q →
    wpAny (model X.prog X.w) X.A (call (.builtin id) (v :: us)) (EP X pins σ Q) X.xe s
section
variable {X : Cx} {a b : Expr} {ta tb : TE} {pos : Pos}
/-- a[b] -/
theorem pe_ix {r : R2} (hr : IxR X r) (ha : PE X a ta) (hb : PE X b tb) (hs : PlainIx b) : PE X (.Subscript a b pos) (tOp r ta tb) := by
  intro pins s σ H Q I h
  exact Subscript_ (binT ha hb I h fun v u s2 x y H2 I2 rx ry q => hr a b pins s2 σ H2 x y v u Q I2 rx ry q (hs _ _))

def rIxL (K : PySem.W.Frag) : R2 := fun x y H Q => ∃ p xs i v, x = .ref p ∧ y = .int i ∧ SqL K H p xs ∧ atI xs i = some v ∧ Q v H
def rIxT (K : PySem.W.Frag) : R2 := fun x y H Q => ∃ p xs i v, x = .ref p ∧ y = .int i ∧ SqT K H p xs ∧ atI xs i = some v ∧ Q v H
def rIxS : R2 := fun x y H Q => ∃ z i c, x = .str z ∧ y = .int i ∧ z.length ≤ sizeLine ∧ atI z.cps.toList i = some c ∧ Q (.str ⟨#[c]⟩) H
theorem ix_list : IxR X (rIxL X.K) := by
  intro value slice pins s σ H x y v u Q I rx ry h hs
  obtain ⟨p, xs, i, z, rfl, rfl, hq, he, q⟩ := h
  cases rx
  obtain ⟨t, rfl⟩ := ry
  obtain ⟨its, r, pl, hz⟩ := I.list hq
  obtain ⟨j, h1, h2, h3, h4, h5⟩ := atI_get he
  obtain ⟨w, ew, rw'⟩ := r.get h2
  have hl := r.length
  have hn := line63
  have fin : EP X pins σ Q w s := ⟨z, H, I, rw', q⟩
  by_cases h0 : 0 ≤ i
  · have hj : i.toNat = j := by
      rw [seqIndex_of h0 h5] at h1
      exact Option.some.inj h1
    exact item_listR pl.isList h0 (by omega) (by rw [hj]; simpa using ew) fin hs
  · have hj : (i + (its.toArray.size : Int)).toNat = j := by
      rw [seqIndex_neg (by omega) h4] at h1
      rw [List.size_toArray, ← hl]
      exact Option.some.inj h1
    exact subscriptTail_builtinR (x := w) pl.isList.typeIs slot_list_getitem.lookup
      (wpAny_getItem_list_neg (Q := fun r s' => r = w ∧ EP X pins σ Q r s') pl.isList (by omega) (by rw [List.size_toArray] <;> omega) (by omega) (by rw [hj]; simpa using ew) ⟨rfl, fin⟩) hs
theorem ix_tup : IxR X (rIxT X.K) := by
  intro value slice pins s σ H x y v u Q I rx ry h hs
  obtain ⟨p, xs, i, z, rfl, rfl, hq, he, q⟩ := h
  cases rx
  obtain ⟨t, rfl⟩ := ry
  obtain ⟨its, r, pl, hz⟩ := I.tuple hq
  obtain ⟨j, h1, h2, h3, h4, h5⟩ := atI_get he
  obtain ⟨w, ew, rw'⟩ := r.get h2
  have hl := r.length
  have hn := line63
  have fin : EP X pins σ Q w s := ⟨z, H, I, rw', q⟩
  exact subscriptTail_builtinR (x := w) pl.typeIs slot_tuple_getitem.lookup
    (getItem_tuple (j := j) (Q := fun r s' => r = w ∧ EP X pins σ Q r s') pl (by omega) (by omega) (by rw [List.size_toArray, ← hl]; exact h1) (by simpa using ew) ⟨rfl, fin⟩) hs
theorem ix_str : IxR X rIxS := by
  intro value slice pins s σ H x y v u Q I rx ry h hs
  obtain ⟨z, i, c, rfl, rfl, hz, he, q⟩ := h
  obtain ⟨t, rfl⟩ := rx
  obtain ⟨t', rfl⟩ := ry
  obtain ⟨j, h1, h2, h3, h4, h5⟩ := atI_get he
  have hl : z.cps.toList.length = z.length := by simp [Str.length]
  rw [hl] at h1 h4 h5
  have hn := line63
  exact tail_any (typeIs_str s z t) slot_str_getitem.lookup (getItem_str (c := c) (by
    have e1 : decide (i < -(2 ^ 63 : Int)) = false := decide_eq_false (by omega)
    have e2 : decide (i ≥ 2 ^ 63) = false := decide_eq_false (by omega)
    rw [e1, e2, Bool.or_false]) (by rw [h1]; simpa using h2) ⟨.str ⟨#[c]⟩, H, I.tok _, ⟨_, rfl⟩, q⟩) hs

/-! ### xs[i] = v, any sign -/
/-- the list's object behind a store -/
theorem mapSeq_set (its : List Value) (n j : Nat) (u : Value) : Obj.mapSeq (·.setIfInBounds j u) { cls := .type "list", data := .seq its.toArray n } = { cls := .type "list", data := .seq (its.set j u).toArray n } := by
  simp [Obj.mapSeq]
theorem Inv.lst {pins : List (Addr × Obj)} {σ : St} {H : Hp} {s : Shared} {p : Addr} {xs : List V} (I : Inv X pins σ H s) (h : H p = some (.lst xs)) :
    ∃ (its : List Value) (n : Nat), Vals xs its ∧ s.heap.get? p = some { cls := .type "list", data := .seq its.toArray n } ∧ xs.length ≤ sizeLine := by
  obtain ⟨z, its, n, r, e⟩ := I.hok p _ h
  exact ⟨its, n, r, e, z⟩
/-- the list at p is written by an update of its object -/
theorem Inv.lstUpd {pins : List (Addr × Obj)} {σ : St} {H : Hp} {s : Shared} {p : Addr} {xs ys : List V} {its its' : List Value} {n n' : Nat} {f : Obj → Obj} (I : Inv X pins σ H s) (h : H p = some (.lst xs))
    (ho : s.heap.get? p = some { cls := .type "list", data := .seq its.toArray n }) (hf : f { cls := .type "list", data := .seq its.toArray n } = { cls := .type "list", data := .seq its'.toArray n' }) (r : Vals ys its') (hz : ys.length ≤ sizeLine) (t : Nat) :
    Inv X pins σ (upd H p (.lst ys)) { s with heap := s.heap.update p f, toks := t } := by
  have e : (s.heap.update p f).get? p = some { cls := .type "list", data := .seq its'.toArray n' } := by
    rw [Heap.get?_update_self f ho (by rw [hf] <;> rfl), hf]
  refine I.write (x := p) (e := p) (by rw [h]; trivial) (.inl rfl) (fun b u hb q => (Heap.get?_update_other _ _ (Ne.symm hb)).trans q) ⟨_, e⟩ ?_
  exact ⟨hz, its', n', r, e⟩
def rSetL : V → V → V → Hp → (Hp → Prop) → Prop := fun o i v H Q => ∃ p xs k j, o = .ref p ∧ i = .int k ∧ H p = some (.lst xs) ∧ ixN xs.length k = some j ∧ Q (upd H p (.lst (xs.set j v)))
theorem set_list : PSet X rSetL := by
  intro pins s σ H o i v ov iv u Q I ro ri rv h
  obtain ⟨p, xs, k, j, rfl, rfl, hp, hj, q⟩ := h
  cases ro
  obtain ⟨t, rfl⟩ := ri
  obtain ⟨its, n, r, ho, hz⟩ := I.lst hp
  obtain ⟨h1, h2, h3, h4⟩ := ixN_seq hj
  have hl := r.length
  have hn := line63
  have I' : Inv X pins σ (upd H p (.lst (xs.set j v))) { s with heap := s.heap.update p (Obj.mapSeq (·.setIfInBounds j u)) } :=
    I.lstUpd hp ho (mapSeq_set its n j u) (r.set rv j) (by rw [List.length_set]; exact hz) s.toks
  by_cases h0 : 0 ≤ k
  · have hk : k.toNat = j := by
      rw [seqIndex_of h0 h4] at h1
      exact Option.some.inj h1
    exact PySem.W.ki_setAt ho h0 (by omega) (by rw [List.size_toArray, ← hl]; exact h4) (by rw [hk]; exact ⟨_, I', q⟩)
  · have hk : (k + (its.toArray.size : Int)).toNat = j := by
      rw [seqIndex_neg (by omega) h3] at h1
      rw [List.size_toArray, ← hl]
      exact Option.some.inj h1
    exact PySem.W.ki_setBack ho (by omega) (by rw [List.size_toArray, ← hl]; exact h3) (by omega) (by rw [hk]; exact ⟨_, I', q⟩)

/-! ### slices -/
theorem slice_bounds (lo hi : Option Int) (n : Nat) : (sliceBounds lo hi none n).1 = ((HT.sIx n 0 lo : Nat) : Int) ∧ (sliceBounds lo hi none n).2.1 = ((HT.sIx n n hi : Nat) : Int) ∧ (sliceBounds lo hi none n).2.2 = 1 := by
  refine ⟨?_, ?_, rfl⟩
  · cases lo with
    | none => simp [sliceBounds, HT.sIx]
    | some i =>
      simp only [sliceBounds, HT.sIx, Option.getD_none, show (1 : Int) > 0 by decide, if_true]
      by_cases h : i < 0
      · simp only [h, if_true] <;> omega
      · simp only [h, if_false] <;> omega
  · cases hi with
    | none => simp [sliceBounds, HT.sIx]
    | some i =>
      simp only [sliceBounds, HT.sIx, Option.getD_none, show (1 : Int) > 0 by decide, if_true]
      by_cases h : i < 0
      · simp only [h, if_true] <;> omega
      · simp only [h, if_false] <;> omega
theorem slicePick_cut (its : List Value) (lo hi : Option Int) : slicePick its.toArray lo hi none = ((its.drop (HT.sIx its.length 0 lo)).take (HT.sIx its.length its.length hi - HT.sIx its.length 0 lo)).toArray := by
  obtain ⟨h1, h2, h3⟩ := slice_bounds lo hi its.toArray.size
  unfold slicePick
  rw [h1, h2, h3]
  simp only [sliceRange_one, pick_run, List.size_toArray] <;> rfl
/-- xs[lo:hi] of a list: a new list -/
def rSlL (K : PySem.W.Frag) : V → Option Int → Option Int → Hp → VK → Prop := fun x lo hi H Q => ∃ a xs, x = .ref a ∧ SqL K H a xs ∧ ∀ p, H p = none → Q (.ref p) (upd H p (.lst (cutV xs lo hi)))
theorem sl_list : SlR X (rSlL X.K) := by
  intro pins s σ H x v vl vu lo hi sl Q I rx hs pl pu h
  obtain ⟨a, xs, rfl, hx, q⟩ := h
  cases rx
  obtain ⟨its, r, ht, hz⟩ := I.list hx
  have hlen := r.length
  refine ⟨"list", _, slot_list_getitem.lookup, ht.isList.typeIs, ?_⟩
  refine wpAny_getItem_list_slice ht.isList hs pl pu .none (by simp) ?_ (by rw [List.size_toArray] <;> omega)
  rw [slicePick_cut, ← hlen]
  refine ⟨.ref s.heap.objs.size, _, I.laid (t' := s.toks) (o := .lst (cutV xs lo hi)) (fun b ob q => Heap.get?_push_of_some _ q) (Nat.le_refl _) ?_, rfl, q _ (I.hok.fresh (Nat.le_refl _))⟩
  exact ⟨Nat.le_trans (cutV_length xs lo hi) hz, _, 0, (r.drop (HT.sIx xs.length 0 lo)).take (HT.sIx xs.length xs.length hi - HT.sIx xs.length 0 lo), Heap.get?_push_size _ rfl⟩

/-! ### in, not in: flat items -/
def flatV : V → Bool
  | .non => true
  | .bl _ => true
  | .int _ => true
  | .str _ => true
  | _ => false
/-- == of flat values -/
def eqV : V → V → Bool
  | .non, .non => true
  | .bl a, .bl b => a == b
  | .bl a, .int b => (if a then 1 else 0) == b
  | .int a, .bl b => a == (if b then 1 else 0)
  | .int a, .int b => a == b
  | .str a, .str b => a == b
  | _, _ => false
theorem eqAt_V {A : Around} {s : Shared} {y x : V} {u v : Value} (ry : RelV y u) (rx : RelV x v) (fy : flatV y = true) (fx : flatV x = true) : SeqAt.EqAt A s u v (eqV y x) := by
  cases y with
  | non =>
    cases ry
    cases x with
    | non => cases rx; exact SeqAt.EqAt.same _
    | bl b => cases rx; exact SeqAt.EqAt.none_bool b
    | int b => obtain ⟨t, rfl⟩ := rx; exact SeqAt.EqAt.none_int b t
    | str b => obtain ⟨t, rfl⟩ := rx; exact SeqAt.EqAt.none_str b t
    | _ => exact absurd (show false = true from fx) Bool.false_ne_true
  | bl a =>
    cases ry
    cases x with
    | non => cases rx; exact SeqAt.EqAt.bool_none a
    | bl b => cases rx; exact SeqAt.EqAt.bool_bool a b
    | int b => obtain ⟨t, rfl⟩ := rx; exact SeqAt.EqAt.bool_int a b t
    | str b => obtain ⟨t, rfl⟩ := rx; exact SeqAt.EqAt.bool_str a b t
    | _ => exact absurd (show false = true from fx) Bool.false_ne_true
  | int a =>
    obtain ⟨t', rfl⟩ := ry
    cases x with
    | non => cases rx; exact SeqAt.EqAt.int_none a t'
    | bl b => cases rx; exact SeqAt.EqAt.int_bool a t' b
    | int b => obtain ⟨t, rfl⟩ := rx; exact SeqAt.EqAt.int_int a t' b t
    | str b => obtain ⟨t, rfl⟩ := rx; exact SeqAt.EqAt.int_str a t' b t
    | _ => exact absurd (show false = true from fx) Bool.false_ne_true
  | str a =>
    obtain ⟨t', rfl⟩ := ry
    cases x with
    | non => cases rx; exact SeqAt.EqAt.str_none a t'
    | bl b => cases rx; exact SeqAt.EqAt.str_bool a t' b
    | int b => obtain ⟨t, rfl⟩ := rx; exact SeqAt.EqAt.str_int a t' b t
    | str b => obtain ⟨t, rfl⟩ := rx; exact SeqAt.EqAt.str_str a t' b t
    | _ => exact absurd (show false = true from fx) Bool.false_ne_true
  | _ => exact absurd (show false = true from fy) Bool.false_ne_true

/-! ### len, list(x), tuple(x) of any list or tuple that is read -/
theorem call_len_seq : CallR X (.builtin "len") (fun xs H Q => ∃ p ys, xs = [.ref p] ∧ (SqL X.K H p ys ∨ SqT X.K H p ys) ∧ Q (.int ys.length) H) := by
  intro pins s σ H xs us Q I r h
  obtain ⟨p, ys, rfl, hq, q⟩ := h
  obtain ⟨u, rfl, rx⟩ := vals1 r
  cases rx
  have hn := line63
  rcases hq with hq | hq
  · obtain ⟨its, r', pl, hz⟩ := I.list hq
    have hlen := r'.length
    exact Calls.call_len_list pl.isList (by simp only [List.size_toArray] <;> omega) ⟨.int ys.length, H, I.tok _, ⟨s.toks + 1, by rw [List.size_toArray, hlen]⟩, q⟩
  · obtain ⟨its, r', pl, hz⟩ := I.tuple hq
    have hlen := r'.length
    exact len_tuple pl (by simp only [List.size_toArray] <;> omega) ⟨.int ys.length, H, I.tok _, ⟨s.toks + 1, by rw [List.size_toArray, hlen]⟩, q⟩

/-! ### the call of a builtin's method: o.m(..) -/
/-- the value is of that builtin type -/
def tyV (K : PySem.W.Frag) (T : String) (x : V) (H : Hp) : Prop := match x with
  | .str _ => T = "str"
  | .int _ => T = "int"
  | .ref p => (T = "list" ∧ ∃ xs, SqL K H p xs) ∨ (T = "tuple" ∧ ∃ o, K.lookup p = some o ∧ o.cls = .type "tuple" ∧ o.dict = none) ∨
      (T = "dict" ∧ ((∃ kvs, H p = some (.dK kvs)) ∨ ∃ kvs, H p = some (.dT kvs))) ∨ (T = "set" ∧ ∃ S n, H p = some (.set S n))
  | _ => False
theorem tyV_is {pins : List (Addr × Obj)} {σ : St} {H : Hp} {s : Shared} {T : String} {x : V} {v : Value} (I : Inv X pins σ H s) (r : RelV x v) (ty : tyV X.K T x H) :
    s.TypeIs v T ∧ ∀ a, v = .ref a → ∃ ob, s.heap.get? a = some ob ∧ ob.dict = none := by
  cases x with
  | str z =>
    obtain ⟨t, rfl⟩ := r
    cases (show T = "str" from ty)
    exact ⟨typeIs_str s z t, fun _ e => nomatch e⟩
  | int i =>
    obtain ⟨t, rfl⟩ := r
    cases (show T = "int" from ty)
    exact ⟨typeIs_int s i t, fun _ e => nomatch e⟩
  | ref p =>
    cases r
    rcases ty with ⟨rfl, xs, hq⟩ | ⟨rfl, o, hk, hc, hd⟩ | ⟨rfl, hk⟩ | ⟨rfl, S, n, hk⟩
    · obtain ⟨its, _, pl, _⟩ := I.list hq
      refine ⟨pl.isList.typeIs, fun a e => ?_⟩
      cases e
      obtain ⟨o, n, e, c, hd, _⟩ := pl
      exact ⟨o, e, hd⟩
    · refine ⟨⟨o, I.kIn p o hk, hc⟩, fun a e => ?_⟩
      cases e
      exact ⟨o, I.kIn _ o hk, hd⟩
    · have z : ∃ o, s.heap.get? p = some o ∧ o.ExactDict := by
        rcases hk with ⟨kvs, hk⟩ | ⟨kvs, hk⟩
        · obtain ⟨_, _, _, _, o, _, _, e, ex, _⟩ := I.hok p _ hk
          exact ⟨o, e, ex⟩
        · obtain ⟨_, _, _, _, o, _, _, e, ex, _⟩ := I.hok p _ hk
          exact ⟨o, e, ex⟩
      obtain ⟨o, e, ex⟩ := z
      refine ⟨⟨o, e, ex.1⟩, fun a e2 => ?_⟩
      cases e2
      exact ⟨o, e, ex.2.1⟩
    · obtain ⟨o, _, _, _, e, ex, _⟩ := I.hok p _ hk
      refine ⟨⟨o, e, ex.1⟩, fun a e2 => ?_⟩
      cases e2
      exact ⟨o, e, ex.2.1⟩
  | _ => exact False.elim ty
def tBM (K : PySem.W.Frag) (T : String) (r : V → List V → Hp → VK → Prop) (to : TE) (t : TA) : TE := fun σ H Q => to σ H fun x H1 => tyV K T x H1 ∧ t σ H1 fun xs H2 => r x xs H2 Q
variable {o e : Expr} {es : List Expr} {to : TE} {t : TA} {name : Str} {apos cpos : Pos} {T id : String} {r : V → List V → Hp → VK → Prop}
theorem pe_bm (pa : PlainAttrs T) (slot : Slot T name id) (hty : typeOf (.builtin id) = pure (.type "method_descriptor")) (hm : MtR X id r) (ho : PE X o to) (ha : PA X (e :: es) t)
    (hbase : attributeBase o name X.env (eval o X.env) = eval o X.env := by rfl)
    (hfew : ((backTo cpos (starEach (e :: es) X.env)).all (fun x => !x.1) && (backToKw cpos (keywordEach [] X.env)).all (fun x => x.1.isSome)
      && decide ((e :: es).length + ([] : List Keyword).length + (if ([] : List Keyword).isEmpty then 0 else 1) < 30)) = true := by rfl)
    (hline : (apos.endLine == cpos.line) = true := by rfl) (hs : starEach (e :: es) X.env = (false, eval e X.env) :: starEach es X.env := by rfl) (hplain : (backTo cpos (starEach es X.env)).any (·.1) = false := by rfl) :
    PE X (.Call (.Attribute o name apos) (e :: es) [] cpos) (tBM X.K T r to t) := by
  intro pins s σ H Q I h
  refine wpAny_Call_method_late hbase hfew hline rfl (thn (ho pins s σ H _ I h) fun v s1 ⟨x, H1, I1, r1, ty, q1⟩ => ?_)
  obtain ⟨h1, h2⟩ := tyV_is I1 r1 ty
  refine ⟨T, id, pa, slot, hty, h1, h2, ?_⟩
  have hA := ha cpos pins s1 σ H1 _ I1 q1
  rw [hs] at hA ⊢
  refine Calls.callWith_builtin (by show (false || (backTo cpos (starEach es X.env)).any (·.1)) = false; rw [hplain] <;> rfl) (Calls.evalArgs_plain ?_)
  exact thn hA fun us s2 ⟨vs, H2, I2, r2, q2⟩ => hm pins s2 σ H2 x vs v us Q I2 r1 r2 q2
/- xs.append(e), list.index on a module's tuple .. are MtR facts of 06m -/
end
end L2

namespace L2
open PySem PySem.Spec PyProof.Rows

def MtM (X : Cx) (id : String) (r : V → List V → Hp → VK → Prop) : Prop :=
  ∀ (pins : List (Addr × Obj)) (s : Shared) (σ : St) (H : Hp) (x : V) (xs : List V) (v : Value) (us : List Value) (Q : VK), Inv X pins σ H s → RelV x v → Vals xs us → r x xs H Q →
    wpAny (model X.prog X.w) X.A (call (.builtin id) (v :: us)) (EP X pins σ Q) X.xe s

/-! ### lists of values -/
theorem Vals.one : ∀ {x : V} {us : List Value}, Vals [x] us → ∃ u, us = [u] ∧ RelV x u
  | _, _, .cons r .nil => ⟨_, rfl, r⟩
theorem Vals.two : ∀ {x y : V} {us : List Value}, Vals [x, y] us → ∃ u v, us = [u, v] ∧ RelV x u ∧ RelV y v
  | _, _, _, .cons r (.cons q .nil) => ⟨_, _, rfl, r, q⟩

section
variable {X : Cx} {pins : List (Addr × Obj)} {σ : St} {H : Hp} {s : Shared} {l b : Addr} {xs ys zs : List V}

/-! ### the two steps: a tracked list is rewritten, a new list is laid -/
theorem Inv.lset {its its' : List Value} {n : Nat} {f : Array Value → Array Value} {t' : Nat} (I : Inv X pins σ H s) (hH : H l = some (.lst xs))
    (e : s.heap.get? l = some { cls := .type "list", data := .seq its.toArray n }) (hf : f its.toArray = its'.toArray) (hv : Vals ys its') (hz : ys.length ≤ sizeLine) :
    Inv X pins σ (upd H l (.lst ys)) { s with heap := s.heap.update l (Obj.mapSeq f), toks := t' } := by
  have q := PySem.IsL.update e f
  rw [hf] at q
  refine I.write (x := l) (e := l) (by rw [hH]; exact trivial) (.inl rfl) (fun b' u hb hu => (Heap.get?_update_other s.heap (Obj.mapSeq f) (Ne.symm hb)).trans hu) ⟨_, q⟩ ?_
  exact ⟨hz, its', _, hv, q⟩
theorem Inv.lnew {its : List Value} {t' : Nat} (I : Inv X pins σ H s) (hv : Vals ys its) (hz : ys.length ≤ sizeLine) :
    Inv X pins σ (upd H s.heap.objs.size (.lst ys)) { s with heap := s.heap.push { cls := .type "list", data := .seq its.toArray }, toks := t' } :=
  I.laid (fun _ _ q => Heap.get?_push_of_some _ q) (Nat.le_refl _) ⟨hz, its, 0, hv, Heap.get?_push_size _ rfl⟩
theorem Inv.fresh (I : Inv X pins σ H s) : H s.heap.objs.size = none := I.hok.fresh (Nat.le_refl _)
theorem Inv.lstM (I : Inv X pins σ H s) (hH : H l = some (.lst xs)) : xs.length ≤ sizeLine ∧ ∃ (its : List Value) (n : Nat), Vals xs its ∧ xs.length = its.length ∧ s.heap.get? l = some { cls := .type "list", data := .seq its.toArray n } := by
  obtain ⟨z, its, n, r, e⟩ := I.hok l _ hH
  exact ⟨z, its, n, r, r.length, e⟩

end

section
variable {X : Cx}

/-! ### methods -/
def rAppend : V → List V → Hp → VK → Prop := fun x vs H Q => ∃ l xs y, x = .ref l ∧ vs = [y] ∧ H l = some (.lst xs) ∧ xs.length < sizeLine ∧ Q .non (upd H l (.lst (xs ++ [y])))
theorem mt_append : MtM X "list.append" rAppend := by
  intro pins s σ H x vs v us Q I rx rv h
  obtain ⟨l, xs, y, rfl, rfl, hH, hz, q⟩ := h
  cases rx
  obtain ⟨u, rfl, ru⟩ := rv.one
  obtain ⟨z, its, n, r, hl, e⟩ := I.lstM hH
  refine call_meets F.slot_list_append ⟨_, e, rfl⟩ F.entry_list_append (F.args_list_append_2 _ _) (PySem.list_append l its.toArray n u (by rw [List.size_toArray]; omega)) ⟨e, ?_⟩
  refine ⟨.non, _, I.lset (its' := its ++ [u]) hH e (by simp) (r.append (.cons ru .nil)) ?_, rfl, q⟩
  rw [List.length_append, List.length_singleton]
  omega






/-! ### list + list, list += list, list * int -/
def rCat : R2 := fun x y H Q => ∃ l b xs zs, x = .ref l ∧ y = .ref b ∧ H l = some (.lst xs) ∧ H b = some (.lst zs) ∧ xs.length + zs.length ≤ sizeLine ∧ ∀ p, H p = none → Q (.ref p) (upd H p (.lst (xs ++ zs)))
theorem op_cat : OpR X (binaryOp .Add) rCat := by
  intro pins s σ H x y v u Q I rx ry h
  obtain ⟨l, b, xs, zs, rfl, rfl, hH, hB, hz, q⟩ := h
  cases rx
  cases ry
  obtain ⟨z, its, n, r, hl, e⟩ := I.lstM hH
  obtain ⟨z2, its2, n2, r2, hl2, e2⟩ := I.lstM hB
  refine PySem.P.add_list e e2 ?_ (by rw [List.size_toArray, List.size_toArray]; omega)
  have ea : its.toArray ++ its2.toArray = (its ++ its2).toArray := by simp
  rw [ea]
  exact ⟨.ref _, _, I.lnew (t' := s.toks) (r.append r2) (by rw [List.length_append]; omega), rfl, q _ I.fresh⟩

/-! ### del xs[i] -/
end

/-! ### xs[a:b] = ys -/
section
variable {prog : Program} {w : World} {A : Around} {E : Value → Shared → Prop} {s : Shared}
end

section
variable {X : Cx}
end
end L2

namespace Att
open PySem PySem.W PySem.Calls PyProof.Rows

/-! ### the script -/
theorem ints_of_wellAll {P : Params} {h : Heap} : ∀ (ns : List Int) (vs : List Value), WellAll P h vs (ns.map WData.int) → IntsAre vs ns := by
  intro ns
  induction ns with
  | nil =>
    intro vs w
    rw [List.map_nil] at w
    cases w
    exact .nil
  | cons n ns ih =>
    intro vs w
    rw [List.map_cons] at w
    cases w with
    | cons a b =>
      cases a
      exact .cons _ _ (ih _ b)

theorem script_of {l : OpenLaw} {n : Nat} (hn : l.most = some n) {P : Params} {h : Heap} {args : List WData} {vals : List Value}
    (hpre : l.row.toRowW.claim.pre args = true) (hwl : WellAll P h vals args) :
    ∃ a vs ns, vals = [Value.ref a] ∧ args = [WData.list (ns.map WData.int)] ∧ h.get? a = some { cls := .type "list", data := .seq vs.toArray } ∧ IntsAre vs ns ∧ ns.length ≤ n := by
  have hsh : WShape.hasAll [] args [.list .int] = true := (pre_splitW hpre).1
  have hc : l.pre.holds [] { args := args } = true := (pre_splitW hpre).2
  obtain ⟨d, r, rfl, h1, h2⟩ := hasAllW_cons hsh
  obtain rfl := hasAllW_nil h2
  obtain ⟨xs, rfl, h3⟩ := hasW_list h1
  obtain ⟨ns, rfl⟩ := items_int h3
  have hlen : ns.length ≤ n := by
    unfold OpenLaw.pre at hc
    have h4 : (WTm.not (.lt (.lit (.int (n : Int))) (.len (.arg 0)))).holds [] { args := [.list (ns.map .int)] } = true := by
      have h4 := (holds_andW hc).1
      rw [hn] at h4
      exact h4
    have h5 := condW_of h4 (w_not (w_lt w_lit (w_len_list (w_arg rfl))))
    rw [List.length_map] at h5
    refine Nat.le_of_not_lt fun q => ?_
    have q' : (n : Int) < ((ns.length : Nat) : Int) := by omega
    first
      | (rw [decide_eq_true q'] at h5; exact absurd h5 (by decide))
      | (simp at h5; omega)
  cases hwl with
  | cons w1 w2 =>
    cases w2
    cases w1 with
    | list ho hall => exact ⟨_, _, ns, rfl, rfl, ho, ints_of_wellAll ns _ hall, hlen⟩

theorem post_true (l : OpenLaw) (args : List WData) : l.row.toRowW.claim.post args (.bool true) args = true :=
  postW_of (r := l.row.toRowW) (X := (true == true))
    (show WShape.has [] (.bool true) .bool = true by first | rfl | decide | simp [WShape.has, WShape.arms, WShape.armsAll])
    (show (WTm.eq .res (.lit (.bool true))).value [] { args := args, res := some (.bool true), after := args } = some (.bool (true == true)) from w_eq_bool (w_res rfl) w_lit) rfl

/-! ### the attachment: holds_open's last premise (the goal 'hc' behind k_head) from a wpAny of the law's body -/



/-! ### rules over ANY heap (no ledger) from facts about the written part K: the library's own take a ledger (News) for what they write -/
section
variable {prog : Program} {w : World} {A : Around} {E : Value → Shared → Prop} {s : Shared} {K : Frag}





/-! the whole heap as the ledger: makes every rule that writes through a ledger a rule over any heap -/

end
end Att

namespace L2
open PySem PySem.Spec PyProof.Rows

theorem vals_ints : ∀ {vs : List Value} {ns : List Int}, IntsAre vs ns → Vals (ns.map V.int) vs
  | _, _, .nil => .nil
  | _, _, .cons n t h => .cons ⟨t, rfl⟩ (vals_ints h)

/-- nothing is tracked but the script, known to the object (or it is an object of the module) -/
def Only (H : Hp) : Prop := ∀ b, H b = none ∨ ∃ o xs, H b = some (.frz o (.lst xs))

/-- THE HEAD: the law's promise, at the heap behind the top. F, the promise of the law's def, may use that base is part of the heap (so K.In base, base.Ns mainGlobals mg stand in Mod) -/
theorem law_call {P : Program} {w : World} {K : PySem.W.Frag} {mg mb : Str → Option Value} {CX : CXT} {k : Nat} {fa a : Addr} {fd : FuncData} {x : Str} {sp : Sp} {s₁ : Shared} {vs : List Value} {ns : List Int}
    (KX : K.In s₁.heap) (hns : s₁.heap.Ns mainGlobals mg) (hb : s₁.heap.Ns builtinsNs mb) (hbb : ∀ x : Str, x ≠ "__name__" → mb x = bootBuiltins x) (hlim : s₁.heap.NoLimit) (hg : s₁.gens = #[])
    (ha : s₁.heap.get? a = some { cls := .type "list", data := .seq vs.toArray }) (hi : IntsAre vs ns) (hl : ns.length ≤ sizeLine) (hr : Room k callerA)
    (F : ∀ base : Heap, K.In base → base.Ns mainGlobals mg → FnOk P w K mg base CX k fa fd [x] sp) (hbind : ∀ (s : Shared) (u : Value), BindsTo s fd ⟨[u], []⟩ [(x, u)])
    (hsp : ∀ H : Hp, Only H → SqL K H a (ns.map V.int) → sp [.ref a] H (fun v _ => v = .bl true) fun _ _ _ => False)
    (hCX : ∀ H e s', CX [] H s₁ (fun _ _ _ => False) e s' → False) :
    codeAny (model P w) callerA (.call (.ref fa) ⟨[.ref a], []⟩) (fun r s' => r = .ok (.ret (.bool true)) ∧ OldK s₁.heap s'.heap ∧ s'.os = s₁.os ∧ AllBare s'.gens) s₁ := by
  have rv := vals_ints hi
  have lenV := hi.length
  -- from an abstract heap in which nothing but the script may be tracked
  have core : ∀ H : Hp, Only H → SqL K H a (ns.map V.int) → HOk P w H s₁.heap → (∀ b, H b ≠ none → b = a) → (H a ≠ none → K.lookup a = none) →
      codeAny (model P w) callerA (.call (.ref fa) ⟨[.ref a], []⟩) (fun r s' => r = .ok (.ret (.bool true)) ∧ OldK s₁.heap s'.heap ∧ s'.os = s₁.os ∧ AllBare s'.gens) s₁ := by
    intro H hO hS hok hA hK
    have base_of : ∀ {b : Addr} {o : Obj}, s₁.heap.get? b = some o → H b = none → (hidT s₁.heap H).get? b = some o := fun e n => hidT_get e n
    have noA : ∀ {b : Addr} {o : Obj} {es : Array DictEntry} {ep : Nat}, s₁.heap.get? b = some o → o.data = .dict es ep → H b = none := fun {b o es ep} e d => by
      cases q : H b with
      | none => rfl
      | some u =>
        have e' : b = a := hA b (by rw [q]; simp)
        subst e'
        rw [ha] at e; cases e
        have d' : Data.seq vs.toArray _ = Data.dict es ep := d
        cases d'
    have nsK : ∀ {b : Addr} {m : Str → Option Value}, s₁.heap.Ns b m → (hidT s₁.heap H).Ns b m := fun {b m} ⟨o, es, ep, e, d, r⟩ => ⟨o, es, ep, base_of e (noA e d), d, r⟩
    have hKb : K.In (hidT s₁.heap H) := fun b o e => base_of (KX b o e) (by
      cases q : H b with
      | none => rfl
      | some u =>
        have e' : b = a := hA b (by rw [q]; simp)
        subst e'
        rw [hK (by rw [q]; simp)] at e; cases e)
    have hM : Mod K mg (hidT s₁.heap H) := ⟨hKb, nsK hns, ⟨mb, nsK hb, hbb⟩, let ⟨mc, h1, h2⟩ := hlim; ⟨mc, nsK h1, h2⟩⟩
    have e0 : Env0 P w K mg (hidT s₁.heap H) callerA [] s₁ H := ⟨rfl, hM, fun b o e => of_hidT e, Nat.le_of_eq (hidT_size _ _), trivial, fun b hb => absurd (show b ∈ ([] : List Addr) from hb) (by simp), hok, .of_eq hg⟩
    refine codeAny_mono ((F _ hKb (nsK hns)).run callerA [] s₁ H ⟨[.ref a], []⟩ [.ref a] [.ref a] _ _ hr e0 (hbind s₁ (.ref a)) (.cons rfl .nil) (hsp H hO hS)) fun r s' h => ?_
    cases r with
    | error e => exact (hCX H e s' h).elim
    | ok fl =>
      cases fl with
      | next => exact False.elim h
      | brk => exact False.elim h
      | cont => exact False.elim h
      | ret u =>
        obtain ⟨v, H', os, bare, un, hok', r', q⟩ := h
        have q' : v = .bl true := q
        subst q'
        obtain rfl : u = Value.bool true := r'
        refine ⟨rfl, OldK.of_keep fun b o e => ?_, os, bare⟩
        cases q : H b with
        | none => exact un.keep b o e q (by intro z; exact absurd (show b ∈ ([] : List Addr) from z) (by simp)) (by simp)
        | some u =>
          rcases hO b with z | ⟨ob, xs, z⟩
          · rw [q] at z; cases z
          · have z2 := un.frzs b ob _ z
            obtain ⟨e1, _⟩ := hok b _ z
            obtain ⟨e2, _⟩ := hok' b _ z2
            rw [e] at e1; cases e1
            exact e2
  cases hk : K.lookup a with
  | some o =>
    -- the script is one of the module's own objects
    have e := KX a o hk
    rw [ha] at e
    cases e
    refine core (fun _ => none) (fun _ => .inl rfl) (.inr ⟨_, vs.toArray, _, hk, rfl, rfl, rfl, by rw [List.size_toArray, lenV]; exact hl, by simpa using rv⟩) (fun b u z => by have z' : (none : Option HO) = some u := z; cases z') (fun b z => absurd rfl z) fun z => absurd rfl z
  | none =>
    refine core (fun b => if b = a then some (.frz { cls := .type "list", data := .seq vs.toArray } (.lst (ns.map V.int))) else none) (fun b => ?_) (.inl (.inr ⟨{ cls := .type "list", data := .seq vs.toArray }, if_pos rfl⟩)) (fun b u z => ?_) (fun b z => ?_) fun _ => hk
    · by_cases hb : b = a
      · exact .inr ⟨_, _, if_pos hb⟩
      · exact .inl (if_neg hb)
    · by_cases hb : b = a
      · have z' := (if_pos hb).symm.trans z
        cases z'
        subst hb
        exact ⟨ha, by rw [List.length_map]; exact hl, vs, _, rv, ha⟩
      · have z' := (if_neg hb).symm.trans z
        cases z'
    · by_cases hb : b = a
      · exact hb
      · exact absurd (if_neg hb) z
end L2

namespace L2
open PySem PySem.Spec PyProof.Rows


end L2

/- THE LAST THEOREM (shape; LID, My.* are yours):
   My.Adr: a structure of the addresses that your layer names (classes, functions); My.Txt K t: a structure (Prop) of the equations over K;
   My.txt_mk : {K} {implicit addresses ..} (e1 : nsIn K mainGlobals "law" = some (some (.ref f))) (e2 : K.lookup f = some ⟨oc, od, .func (fnOf "law" "law" params body scope dV kV doc pm an cdv ct), sl⟩) (e3 : codeIn K cdv "law" = true) .. : ∃ t, My.Txt K t

set_option maxRecDepth 100000 in
set_option maxHeartbeats 0 in
theorem PySem.Challenge.cw_LID_holds : PySem.Challenge.rw_LID.Holds := by
  w_on; o_law; k_head; (case hw => w_witness2)
  k_fill
  refine L2.walk_of (l := PySem.Challenge.rw_LID) (n := 63) (k := 40) (x := "script") (CX := fun w => ..) (sp := fun _ => My.sp_law) rfl (by decide) rfl ⟨rfl, by decide, by decide⟩ (fun w h Y => PySem.W.kIn_of Y) ?F ?S ?C
  case F =>
    intro w mg fa h KX G hmg
    have T : ∃ t, My.Txt (L2.KOf KX) t := by
      dsimp only [L2.KOf]                          -- K must stand as «<heap const> w.params» for k_is
      refine' My.txt_mk ?e1 ?e2 ?e3 ..
      (case e1 => PySem.W.k_is)                    -- in the order: a name -> its address -> its object -> its parts
      (case e2 => PySem.W.k_is)
      ..
    obtain ⟨t, T⟩ := T
    have e0 := hmg.symm.trans (PySem.W.mg_of KX G T.law)
    cases e0                                       -- fa is the law's own address
    exact ⟨_, fun s u => .of_eq rfl, fun base kb nb => My.law_fn T kb nb⟩     -- if «.of_eq rfl» comes too early: refine' ⟨_, ?b, fun base kb nb => My.law_fn T kb nb⟩; exact fun s u => .of_eq rfl
  case S => exact fun w H a ns hl hO hS => ..
  case C => exact ..
(the tactic k_is has no namespace: write k_is) -/

/-! SHORT WORDS over the layer: a def of the text, its body, what a loop and a test want. -/
namespace L2
open PySem PySem.Spec PyProof.Rows

/-! ### the text by places -/
/-- the j-th statement of a class's body -/
def inClass (s : Stmt) (j : Nat) : Stmt := match s with
  | .ClassDef _ _ _ body _ _ _ _ _ _ _ => body.getD j (.Pass ⟨0, 0, 0, 0⟩)
  | _ => .Pass ⟨0, 0, 0, 0⟩
def defArgs (s : Stmt) : Arguments := match s with
  | .FunctionDef _ a _ _ _ _ _ _ _ _ => a
  | _ => { posonlyargs := [], args := [], vararg := none, kwonlyargs := [], kw_defaults := [], kwarg := none, defaults := [] }
def defBody (s : Stmt) : List Stmt := match s with
  | .FunctionDef _ _ b _ _ _ _ _ _ _ => b
  | _ => []
def defScope (s : Stmt) : Scope := match s with
  | .FunctionDef _ _ _ _ _ _ sc _ _ _ => sc
  | _ => { kind := .function, names := [], isGenerator := false, isCoroutine := false }

/-! ### no exception leaves a def -/
abbrev CX0 : CXT := fun _ _ _ _ _ _ => False
abbrev E0 : XK := fun _ _ _ => False
theorem pass0 {X : Cx} : Passes CX0 X E0 := fun _ _ _ _ _ _ _ h => h.elim

/-! ### a def (or method) of the text as it stands behind the top -/
structure Fun (K : PySem.W.Frag) (x qual : Str) (st : Stmt) (f : Addr) (fd : FuncData) : Prop where
  ex : ∃ (oc : Value) (od : Option Addr) (kV doc pm : Value) (an : Option Addr) (cdv ct : Value) (osl : Array (Option Value)),
    fd = PySem.W.fnOf x qual (defArgs st) (defBody st) (defScope st) .none kV doc pm an cdv ct ∧ K.lookup f = some ⟨oc, od, .func fd, osl⟩ ∧ PySem.W.codeIn K cdv qual = true
  kp : PySem.W.keepIn K (.ref f) = true
section
variable {P : Program} {w : World} {K : PySem.W.Frag} {mg : Str → Option Value} {base : Heap}
/-- THE RULE for a def: its body as a term of rules, and the reading of that term -/
theorem Fun.ok {x qual : Str} {st : Stmt} {f : Addr} {fd : FuncData} {N ps : List Str} {k : Nat} {sp : Sp} (F : Fun K x qual st f fd) (S : FnScope N ps (defScope st)) (len : ∀ vs H Q E, sp vs H Q E → vs.length = ps.length)
    (hbody : ∀ (cdv : Value) (A : Around) (outer : List Env) (s : Shared) (H : Hp) (vs : List V) (Q : VK) (E : XK), Room k (A.deeper (envOfC qual (defScope st) s.heap.objs.size f cdv)) → sp vs H Q E →
      ∃ t, PSs (cxOf CX0 P w K mg base N qual (defScope st) f cdv A outer s H E).nox (defBody st) t ∧ t { nx := fun _ H' => Q .non H', rt := Q } (start N vs) H) : FnOk P w K mg base CX0 (k + 1) f fd ps sp := by
  obtain ⟨oc, od, kV, doc, pm, an, cdv, ct, osl, rfl, lk, hcd⟩ := F.ex
  refine fn_of lk hcd S len fun A outer s H vs Q E hr hsp => ?_
  obtain ⟨t, h, q⟩ := hbody cdv A outer s H vs Q E hr hsp
  exact ⟨t, h.nox, q⟩
/-- how its arguments bind (no defaults): h is «fun _ _ _ _ _ _ us hl => match us, hl with | [_, _], _ => rfl», one _ a parameter -/
theorem Fun.binds {x qual : Str} {st : Stmt} {f : Addr} {fd : FuncData} {ps : List Str} (F : Fun K x qual st f fd)
    (h : ∀ (kV doc pm : Value) (an : Option Addr) (cdv ct : Value) (us : List Value), us.length = ps.length → bindArgs (PySem.W.fnOf x qual (defArgs st) (defBody st) (defScope st) .none kV doc pm an cdv ct) ⟨us, []⟩ = pure (ps.zip us)) : Binds K fd ps [] := by
  obtain ⟨oc, od, kV, doc, pm, an, cdv, ct, osl, rfl, lk, hcd⟩ := F.ex
  exact .all (h kV doc pm an cdv ct)
theorem fun_mk {x qual : Str} {st : Stmt} {f : Addr} {oc : Value} {od an : Option Addr} {osl : Array (Option Value)} {kV doc pm cdv ct : Value} (l : K.lookup f = some ⟨oc, od, .func (PySem.W.fnOf x qual (defArgs st) (defBody st) (defScope st) .none kV doc pm an cdv ct), osl⟩)
    (c : PySem.W.codeIn K cdv qual = true) (k : PySem.W.keepIn K (.ref f) = true) : Fun K x qual st f (PySem.W.fnOf x qual (defArgs st) (defBody st) (defScope st) .none kV doc pm an cdv ct) := ⟨⟨oc, od, kV, doc, pm, an, cdv, ct, osl, rfl, l, c⟩, k⟩
end

/-! ### expressions in short: the name that stands in the i-th slot -/
section
variable {X : Cx}
theorem pv (i : Nat) {x : Str} {pos : Pos} (hN : X.N[i]? = some x := by rfl) (hv : Vis X.env.scope x := by first | exact Or.inl rfl | exact Or.inr (Or.inl rfl) | exact Or.inr (Or.inr rfl)) (hd : (x == ("__debug__" : Str)) = false := by decide)
    (hcd : (x == ("__classdict__" : Str)) = false := by decide) : PE X (.Name x pos) (tVar i) := pe_var hN hv hd hcd
end

/-! ### tests -/
theorem iteF {A B : Prop} (h : B) : if false = true then A else B := by
  rw [if_neg Bool.false_ne_true]
  exact h
theorem iteT {A B : Prop} (h : A) : if true = true then A else B := by
  rw [if_pos rfl]
  exact h
theorem ite2 {c A B : Prop} [Decidable c] (h1 : c → A) (h2 : ¬ c → B) : if c then A else B := by
  by_cases h : c
  · rw [if_pos h]
    exact h1 h
  · rw [if_neg h]
    exact h2 h

/-! ### heaps -/
/-- all that was tracked is as it was -/
def Same (H H' : Hp) : Prop := ∀ b o, H b = some o → H' b = some o
theorem Same.refl (H : Hp) : Same H H := fun _ _ h => h
theorem Same.trans {H H1 H2 : Hp} (a : Same H H1) (b : Same H1 H2) : Same H H2 := fun c o h => b c o (a c o h)
theorem Same.free {H H' : Hp} (e : Same H H') {l : Addr} (h : H' l = Option.none) : H l = Option.none := by
  cases q : H l with
  | none => rfl
  | some o =>
    rw [e l o q] at h
    cases h
theorem Same.seq {K : PySem.W.Frag} {H H' : Hp} {a : Addr} {xs : List V} (e : Same H H') (h : SqL K H a xs) : SqL K H' a xs := by
  rcases h with (h | ⟨o, h⟩) | h
  · exact .inl (.inl (e _ _ h))
  · exact .inl (.inr ⟨o, e _ _ h⟩)
  · exact .inr h

end L2

set_option Elab.async false
set_option linter.all false
set_option maxRecDepth 100000
namespace L2
open PySem PySem.Spec PyProof.Rows

/-! ### lists of pairs as tables -/
section
variable {κ : Type} [DecidableEq κ]
def valV (kvs : List (κ × V)) (k : κ) : Option V := (kvs.find? fun kv => decide (kv.1 = k)).map (·.2)
/-- in its place, or at the end -/
def putK (kvs : List (κ × V)) (k : κ) (v : V) : List (κ × V) :=
  if (kvs.any fun kv => decide (kv.1 = k)) = true then kvs.map (fun kv => if kv.1 = k then (kv.1, v) else kv) else kvs ++ [(k, v)]
def dropK (kvs : List (κ × V)) (k : κ) : List (κ × V) := kvs.filter fun kv => decide (kv.1 ≠ k)

theorem valV_pos {p : κ × V} {r : List (κ × V)} {k : κ} (e : p.1 = k) : valV (p :: r) k = some p.2 := by simp [valV, List.find?_cons, e]
theorem valV_neg {p : κ × V} {r : List (κ × V)} {k : κ} (e : ¬ p.1 = k) : valV (p :: r) k = valV r k := by simp [valV, List.find?_cons, e]
theorem valV_any (k : κ) : ∀ kvs : List (κ × V), (kvs.any fun kv => decide (kv.1 = k)) = (valV kvs k).isSome
  | [] => rfl
  | p :: r => by
    rw [List.any_cons]
    by_cases e : p.1 = k
    · simp only [valV_pos e, decide_eq_true e, Bool.true_or, Option.isSome_some]
    · rw [valV_neg e, decide_eq_false e, Bool.false_or]; exact valV_any k r
theorem length_putK (kvs : List (κ × V)) (k : κ) (v : V) : (putK kvs k v).length ≤ kvs.length + 1 := by
  unfold putK
  split
  · rw [List.length_map]; omega
  · rw [List.length_append, List.length_cons, List.length_nil]; omega
theorem putK_new {kvs : List (κ × V)} {k : κ} (v : V) (h : valV kvs k = none) : putK kvs k v = kvs ++ [(k, v)] := by
  unfold putK
  rw [valV_any, h]
  exact if_neg (by decide)

theorem RelO.isSome_eq {o : Option V} {u : Option Value} (r : RelO o u) : o.isSome = u.isSome := by
  cases o with
  | none => cases u with
    | none => rfl
    | some _ => exact (show False from r).elim
  | some _ => cases u with
    | none => exact (show False from r).elim
    | some _ => rfl

/-- raw tables of the same keys -/
theorem KV.val {kvs : List (κ × V)} {vs : List (κ × Value)} (r : KV kvs vs) (k : κ) : RelO (valV kvs k) (valueAt vs k) := by
  unfold KV at r
  induction r with
  | nil => exact True.intro
  | @cons p q ps qs h t ih =>
    obtain ⟨h1, h2⟩ := h
    by_cases e : p.1 = k
    · have e' : q.1 = k := h1.symm.trans e
      have b : valueAt (q :: qs) k = some q.2 := by simp [valueAt, List.find?_cons, e']
      rw [valV_pos e, b]; exact h2
    · have e' : ¬ q.1 = k := fun z => e (h1.trans z)
      have b : valueAt (q :: qs) k = valueAt qs k := by simp [valueAt, List.find?_cons, e']
      rw [valV_neg e, b]; exact ih
theorem KV.any {kvs : List (κ × V)} {vs : List (κ × Value)} (r : KV kvs vs) (k : κ) : (kvs.any fun kv => decide (kv.1 = k)) = vs.any fun kv => decide (kv.1 = k) := by
  unfold KV at r
  induction r with
  | nil => rfl
  | cons h t ih => rw [List.any_cons, List.any_cons, ih, h.1]
theorem KV.repl {kvs : List (κ × V)} {vs : List (κ × Value)} (r : KV kvs vs) (k : κ) {y : V} {u : Value} (ry : RelV y u) :
    KV (kvs.map fun kv => if kv.1 = k then (kv.1, y) else kv) (vs.map fun kv => if kv.1 = k then (kv.1, u) else kv) := by
  unfold KV at r ⊢
  induction r with
  | nil => exact .nil
  | @cons p q ps qs h t ih =>
    rw [List.map_cons, List.map_cons]
    refine .cons ?_ ih
    obtain ⟨h1, h2⟩ := h
    by_cases e : p.1 = k
    · rw [if_pos e, if_pos (h1.symm.trans e)]; exact ⟨h1, ry⟩
    · rw [if_neg e, if_neg (fun z => e (h1.trans z))]; exact ⟨h1, h2⟩
theorem KV.put {kvs : List (κ × V)} {vs : List (κ × Value)} (r : KV kvs vs) (k : κ) {y : V} {u : Value} (ry : RelV y u) : KV (putK kvs k y) (stored vs k u) := by
  unfold putK stored
  rw [r.any k]
  by_cases e : (vs.any fun kv => decide (kv.1 = k)) = true
  · rw [if_pos e, if_pos e]; exact r.repl k ry
  · rw [if_neg e, if_neg e]; exact Paired.snoc r ⟨rfl, ry⟩
theorem KV.drop {kvs : List (κ × V)} {vs : List (κ × Value)} (r : KV kvs vs) (k : κ) : KV (dropK kvs k) (without vs k) := by
  unfold KV at r ⊢
  unfold dropK without
  induction r with
  | nil => exact .nil
  | @cons p q ps qs h t ih =>
    obtain ⟨h1, h2⟩ := h
    rw [List.filter_cons, List.filter_cons]
    by_cases e : p.1 = k
    · have a : ¬ decide (p.1 ≠ k) = true := by simp [e]
      have b : ¬ decide (q.1 ≠ k) = true := by simp [h1.symm.trans e]
      rw [if_neg a, if_neg b]; exact ih
    · have e' : ¬ q.1 = k := fun z => e (h1.trans z)
      have a : decide (p.1 ≠ k) = true := by simp [e]
      have b : decide (q.1 ≠ k) = true := by simp [e']
      rw [if_pos a, if_pos b]; exact .cons ⟨h1, h2⟩ ih
theorem KV.length {kvs : List (κ × V)} {vs : List (κ × Value)} (r : KV kvs vs) : kvs.length = vs.length := Paired.length r
theorem dropK_le (kvs : List (κ × V)) (k : κ) : (dropK kvs k).length ≤ kvs.length := List.length_filter_le _ _
end


/-! ### a tracked dict, its keys ints and texts or tuples of these -/
theorem kV_is {P : Program} {w : World} {k : Key} {u : Value} (r : RelV (kV k) u) : (mixKind P w).is k u = true := by
  cases k with
  | inl i => obtain ⟨t, e⟩ := (show ∃ t, u = Value.int i t from r); subst e; exact mixKind_int P w i t
  | inr x => obtain ⟨t, e⟩ := (show ∃ t, u = Value.str x t from r); subst e; exact mixKind_str P w x t
theorem items_are {P : Program} {w : World} : ∀ {ks : List Key} {us : List Value}, Vals (ks.map kV) us → ItemsAre (mixKind P w) ks us
  | [], _, r => by rw [List.map_nil] at r; cases r; exact .nil
  | k :: ks, _, r => by
    rw [List.map_cons] at r
    cases r with
    | cons h t => exact .cons (kV_is h) (items_are t)

/-- raw entries of a dict with tuple keys -/
abbrev KT (H : Hp) : List (List Key × V) → List (List Key × Addr × Value) → Prop := Paired fun p q => p.1 = q.1 ∧ H q.2.1 = some (.tup (p.1.map kV)) ∧ RelV p.2 q.2.2
theorem KT.val {H : Hp} {kvs : List (List Key × V)} {xs : List (List Key × Addr × Value)} (r : KT H kvs xs) (k : List Key) : RelO (valV kvs k) ((atKey xs k).map (·.2)) := by
  induction r with
  | nil => exact True.intro
  | @cons p q ps qs h t ih =>
    obtain ⟨h1, _, h2⟩ := h
    by_cases e : p.1 = k
    · have e' : q.1 = k := h1.symm.trans e
      have b : atKey (q :: qs) k = some q.2 := by simp [atKey, List.find?_cons, e']
      rw [valV_pos e, b]; exact h2
    · have e' : ¬ q.1 = k := fun z => e (h1.trans z)
      have b : atKey (q :: qs) k = atKey qs k := by simp [atKey, List.find?_cons, e']
      rw [valV_neg e, b]; exact ih
theorem KT.repl {H : Hp} {kvs : List (List Key × V)} {xs : List (List Key × Addr × Value)} (r : KT H kvs xs) (k : List Key) {y : V} {u : Value} (ry : RelV y u) :
    KT H (kvs.map fun kv => if kv.1 = k then (kv.1, y) else kv) (xs.map (putAt k u)) := by
  induction r with
  | nil => exact .nil
  | @cons p q ps qs h t ih =>
    rw [List.map_cons, List.map_cons]
    refine .cons ?_ ih
    obtain ⟨h1, h2, h3⟩ := h
    unfold putAt
    by_cases e : p.1 = k
    · rw [if_pos e, if_pos (h1.symm.trans e)]; exact ⟨h1, h2, ry⟩
    · rw [if_neg e, if_neg (fun z => e (h1.trans z))]; exact ⟨h1, h2, h3⟩
theorem KT.put {H : Hp} {kvs : List (List Key × V)} {xs : List (List Key × Addr × Value)} (r : KT H kvs xs) (k : List Key) {b : Addr} {y : V} {u : Value} (hb : H b = some (.tup (k.map kV))) (ry : RelV y u) :
    KT H (putK kvs k y) (storedH xs k b u) := by
  have e : (kvs.any fun kv => decide (kv.1 = k)) = (atKey xs k).isSome := by
    rw [valV_any, (r.val k).isSome_eq, Option.isSome_map]
  unfold putK storedH
  rw [e]
  by_cases q : (atKey xs k).isSome = true
  · rw [if_pos q, if_pos q]; exact r.repl k ry
  · rw [if_neg q, if_neg q]; exact Paired.snoc r ⟨rfl, hb, ry⟩
theorem KT.keeps {H H' : Hp} {kvs : List (List Key × V)} {xs : List (List Key × Addr × Value)} (r : KT H kvs xs) (ht : ∀ b ys, H b = some (.tup ys) → H' b = some (.tup ys)) : KT H' kvs xs :=
  Paired.mapP r fun _ _ z => ⟨z.1, ht _ _ z.2.1, z.2.2⟩

section
variable {P : Program} {w : World} {H : Hp} {h : Heap} {a : Addr}
theorem rd_of {u : HO} (ok : HOk P w H h) (e : Rd H a u) : ObjOk P w H h a u := e.ok ok
theorem dk_rd {kvs : List (Key × V)} (ok : HOk P w H h) (e : Rd H a (.dK kvs)) : kvs.length ≤ sizeLine ∧ (a == sysModules) = false ∧ ∃ vs, KV kvs vs ∧ h.DictOf (mixKind P w) a vs :=
  show ObjOk P w H h a (.dK kvs) from rd_of ok e
theorem dk_of {kvs : List (Key × V)} (ok : HOk P w H h) (e : H a = some (.dK kvs)) : kvs.length ≤ sizeLine ∧ (a == sysModules) = false ∧ ∃ vs, KV kvs vs ∧ h.DictOf (mixKind P w) a vs := dk_rd ok (.inl e)
/-- a tracked tuple of ints and texts is a key -/
theorem key_of {ks : List Key} (ok : HOk P w H h) (e : H a = some (.tup (ks.map kV))) : (tupleKind (mixKind P w)).is h ks a := by
  obtain ⟨_, its, r, o, h1, h2, n, h3⟩ := (show ObjOk P w H h a (.tup (ks.map kV)) from ok a _ e)
  exact ⟨o, its.toArray, n, h1, h2, h3, by simpa using items_are r⟩
theorem dt_rd {kvs : List (List Key × V)} (ok : HOk P w H h) (e : Rd H a (.dT kvs)) : kvs.length ≤ sizeLine ∧ (a == sysModules) = false ∧
    ∃ xs, KT H kvs xs ∧ h.DictOfH (tupleKind (mixKind P w)) a xs := by
  obtain ⟨z, y, xs, r, o, es, ep, h1, h2, h3, h4, h5⟩ := (show ObjOk P w H h a (.dT kvs) from rd_of ok e)
  refine ⟨z, y, xs, r, o, es, ep, h1, h2, h3, h4, fun x hx => ?_, h5⟩
  have all : ∀ {l : List (List Key × V)} {m : List (List Key × Addr × Value)}, KT H l m → ∀ x ∈ m, (tupleKind (mixKind P w)).is h x.1 x.2.1 := by
    intro l m q
    induction q with
    | nil => intro x hx; exact nomatch hx
    | @cons p q ps qs hq t ih =>
      intro x hx
      rcases List.mem_cons.mp hx with e | hx
      · subst e
        exact key_of ok (by rw [← hq.1]; exact hq.2.1)
      · exact ih x hx
  exact all r x hx
theorem dt_of {kvs : List (List Key × V)} (ok : HOk P w H h) (e : H a = some (.dT kvs)) : kvs.length ≤ sizeLine ∧ (a == sysModules) = false ∧
    ∃ xs, KT H kvs xs ∧ h.DictOfH (tupleKind (mixKind P w)) a xs := dt_rd ok (.inl e)
end

/-- what the dict at a holds at the key y -/
def DGet (H : Hp) (a : Addr) (y : V) (r : Option V) : Prop :=
  (∃ kvs k, Rd H a (.dK kvs) ∧ y = kV k ∧ r = valV kvs k) ∨ ∃ kvs k b, Rd H a (.dT kvs) ∧ y = .ref b ∧ H b = some (.tup (k.map kV)) ∧ r = valV kvs k
/-- the heap behind a[y] = v -/
def DPut (H : Hp) (a : Addr) (y v : V) (H' : Hp) : Prop :=
  (∃ kvs k, H a = some (.dK kvs) ∧ y = kV k ∧ kvs.length < sizeLine ∧ H' = upd H a (.dK (putK kvs k v))) ∨
  ∃ kvs k b, H a = some (.dT kvs) ∧ y = .ref b ∧ H b = some (.tup (k.map kV)) ∧ kvs.length < sizeLine ∧ H' = upd H a (.dT (putK kvs k v))
theorem DGet.k {H : Hp} {a : Addr} {kvs : List (Key × V)} {k : Key} (e : H a = some (.dK kvs)) : DGet H a (kV k) (valV kvs k) := .inl ⟨kvs, k, .inl e, rfl, rfl⟩
theorem DPut.k {H : Hp} {a : Addr} {kvs : List (Key × V)} {k : Key} {v : V} (e : H a = some (.dK kvs)) (hl : kvs.length < sizeLine) : DPut H a (kV k) v (upd H a (.dK (putK kvs k v))) := .inl ⟨kvs, k, e, rfl, hl, rfl⟩


section
variable {X : Cx} {pins : List (Addr × Obj)} {σ : St} {H : Hp} {s : Shared} {a : Addr} {y v : V} {u r : Value} {o : Option V} {A : Around} {E : Value → Shared → Prop}

theorem Inv.big (I : Inv X pins σ H s) : sysModules < s.heap.objs.size := by
  have h : mainGlobals < s.heap.objs.size := (I.mod.glob.keeps I.bk).lt
  exact Nat.lt_trans (by decide) h

/-- d[y], there -/
theorem d_getItem {Q : Value → Shared → Prop} (hu : A.units + 1 < cLine) (I : Inv X pins σ H s) (g : DGet H a y (some v)) (ry : RelV y u) (h : ∀ w' s', Inv X pins σ H s' → RelV v w' → Q w' s') :
    wpAny (model X.prog X.w) A (getItem (.ref a) u) Q E s := by
  rcases g with ⟨kvs, k, e, ey, l⟩ | ⟨kvs, k, b, e, ey, eb, l⟩
  · subst ey
    obtain ⟨z, hd, vs, rel, dd⟩ := dk_rd I.hok e
    obtain ⟨w', hw, rw'⟩ := RelO.some_of (v := v) (o := valueAt vs k) (by rw [l]; exact rel.val k)
    exact wpAny_getItem_of (kV_is ry) dd.mapOf hw (h w' _ (I.tok _) rw')
  · subst ey
    cases (show u = Value.ref b from ry)
    obtain ⟨z, hd, xs, rel, dd⟩ := dt_rd I.hok e
    obtain ⟨w', hw, rw'⟩ := RelO.some_of (v := v) (o := (atKey xs k).map (·.2)) (by rw [l]; exact rel.val k)
    obtain ⟨p, hp, hp2⟩ := Option.map_eq_some_iff.mp hw
    refine wpAny_getItem_heap (tupleKind_room_in1 hu) (key_of I.hok eb) dd hp ?_
    rw [hp2]
    exact h w' _ (I.tok _) rw'
theorem d_notIn {Q : Value → Shared → Prop} (hu : A.units + 1 < cLine) (I : Inv X pins σ H s) (g : DGet H a y o) (ry : RelV y u) (h : ∀ s', Inv X pins σ H s' → Q (.bool (!o.isSome)) s') :
    wpAny (model X.prog X.w) A (compareOp .NotIn u (.ref a)) Q E s := by
  rcases g with ⟨kvs, k, e, ey, l⟩ | ⟨kvs, k, b, e, ey, eb, l⟩
  · subst ey
    obtain ⟨z, hd, vs, rel, dd⟩ := dk_rd I.hok e
    refine wpAny_notIn_of (kV_is ry) hd dd.mapOf ?_
    rw [← (rel.val k).isSome_eq, ← l]
    exact h _ (I.tok _)
  · subst ey
    cases (show u = Value.ref b from ry)
    obtain ⟨z, hd, xs, rel, dd⟩ := dt_rd I.hok e
    refine wpAny_notIn_heap (tupleKind_room_in1 hu) (key_of I.hok eb) hd dd ?_
    have q := (rel.val k).isSome_eq
    rw [Option.isSome_map] at q
    rw [← q, ← l]
    exact h _ (I.tok _)
/-- a dict's object is replaced -/
theorem d_write {h' : Heap} {t' : Nat} {ob : HO} (I : Inv X pins σ H s) (mu : Mut (H a)) (hs : Heap.SameBut a s.heap h') (he : ∃ q, h'.get? a = some q) (new : ObjOk X.prog X.w (upd H a ob) h' a ob) :
    Inv X pins σ (upd H a ob) { s with heap := h', toks := t' } :=
  I.write (x := a) (e := a) mu (.inl rfl) (fun b q hb z => (hs.2 b hb).trans z) he new
theorem dk_new {P : Program} {w : World} {H' : Hp} {h' : Heap} {kvs : List (Key × V)} {vs : List (Key × Value)} (z : kvs.length ≤ sizeLine) (hd : (a == sysModules) = false) (rel : KV kvs vs) (dd : h'.DictOf (mixKind P w) a vs) :
    ObjOk P w H' h' a (.dK kvs) := ⟨z, hd, vs, rel, dd⟩
/-- d[y] = v -/
theorem d_setItem {H' : Hp} {Q : Unit → Shared → Prop} (hu : A.units + 1 < cLine) (I : Inv X pins σ H s) (g : DPut H a y v H') (ry : RelV y u) (rv : RelV v r) (h : ∀ s', Inv X pins σ H' s' → Q () s') :
    wpAny (model X.prog X.w) A (setItem (.ref a) u r) Q E s := by
  rcases g with ⟨kvs, k, e, ey, l, eH⟩ | ⟨kvs, k, b, e, ey, eb, l, eH⟩
  · subst ey eH
    obtain ⟨z, hd, vs, rel, dd⟩ := dk_of I.hok e
    have hz : vs.length ≤ sizeLine := by rw [← rel.length]; exact z
    have hl : (putK kvs k v).length ≤ sizeLine := by have := length_putK kvs k v; omega
    refine wpAny_setItem_pairs (hsz := hz) (kV_is ry) dd fun h' dd' hs => h _ ?_
    have he : ∃ q, h'.get? a = some q := let ⟨q, _, _, hq, _⟩ := dd'; ⟨q, hq⟩
    exact d_write I (by rw [e]; exact True.intro) hs he (dk_new hl hd (rel.put k rv) dd')
  · subst ey eH
    cases (show u = Value.ref b from ry)
    obtain ⟨z, hd, xs, rel, dd⟩ := dt_of I.hok e
    have hz : xs.length ≤ sizeLine := by rw [← Paired.length rel]; exact z
    have hl : (putK kvs k v).length ≤ sizeLine := by have := length_putK kvs k v; omega
    refine wpAny_setItem_heap (hsz := hz) (tupleKind_room_in1 hu) (key_of I.hok eb) dd fun h' dd' hs => h _ ?_
    obtain ⟨q, es, ep, hq, h2, h3, h4, _, h5⟩ := dd'
    refine d_write I (by rw [e]; exact True.intro) hs ⟨q, hq⟩ ⟨hl, hd, _, (rel.put k eb rv).keeps fun c ys ec => ?_, q, es, ep, hq, h2, h3, h4, h5⟩
    rw [upd_ne (ne_of ec e (fun z => nomatch z))]
    exact ec
end

section
variable {X : Cx} {pins : List (Addr × Obj)} {σ : St} {H : Hp} {s : Shared} {a : Addr} {kvs : List (Key × V)} {k : Key} {u : Value} {A : Around} {E : Value → Shared → Prop}
/-- d.pop(k[, x]), there -/
theorem d_pop {v : V} {more : List Value} {Q : Value → Shared → Prop} (I : Inv X pins σ H s) (e : H a = some (.dK kvs)) (ry : RelV (kV k) u) (l : valV kvs k = some v) (hm : more = [] ∨ ∃ x, more = [x])
    (h : ∀ w' s', Inv X pins σ (upd H a (.dK (dropK kvs k))) s' → RelV v w' → Q w' s') : wpAny (model X.prog X.w) A (call (.builtin "dict.pop") (.ref a :: u :: more)) Q E s := by
  obtain ⟨z, hd, vs, rel, dd⟩ := dk_of I.hok e
  obtain ⟨w', hw, rw'⟩ := RelO.some_of (v := v) (o := valueAt vs k) (by rw [← l]; exact rel.val k)
  have hp : (keyPart u).isSome = true := by
    cases k with
    | inl i => obtain ⟨t, q⟩ := (show ∃ t, u = Value.int i t from ry); subst q; rfl
    | inr x => obtain ⟨t, q⟩ := (show ∃ t, u = Value.str x t from ry); subst q; rfl
  have ha : argsOk "dict.pop" ⟨.ref a :: u :: more, []⟩ := by
    rcases hm with q | ⟨x, q⟩
    · subst q; exact PySem.F.args_dict_pop_2 _ _
    · subst q; exact PySem.F.args_dict_pop_3 _ _ _
  refine call_meetsIn PySem.F.slot_dict_pop dd.typeIs PySem.F.entry_dict_pop ha (meets_dict_pop_there (mixKind X.prog X.w) a (kV_is ry) more hm hp)
    ⟨vs, w', dd, by rw [← rel.length]; exact z, hw, fun h' dd' hs => h w' _ ?_ rw'⟩
  have he : ∃ q, h'.get? a = some q := let ⟨q, _, _, hq, _⟩ := dd'; ⟨q, hq⟩
  exact d_write I (by rw [e]; exact True.intro) hs he (dk_new (Nat.le_trans (dropK_le kvs k) z) hd (rel.drop k) dd')
end


/-! ### readings and rules -/
/-- the element of a subscription, not a slice -/
def NoSl (i : Expr) : Prop := ∀ ov iv, subscripted i false ov iv = operate [ov, iv] (getItem ov iv)
theorem subD_of {prog : Program} {w : World} {A : Around} {E : Value → Shared → Prop} {s : Shared} {env : Env} {value slice : Expr} {pos : Pos} {T id : String} {Q : Value → Shared → Prop}
    (hl : typeLookup (.type T) "__getitem__" = pure (some (.builtin id))) (hs : NoSl slice)
    (h : wpAny (model prog w) A (eval value env) (fun o s₁ => wpAny (model prog w) A (eval slice env) (fun i s₂ => s₂.TypeIs o T ∧ wpAny (model prog w) A (getItem o i) Q E s₂) E s₁) E s) :
    wpAny (model prog w) A (eval (.Subscript value slice pos) env) Q E s := by
  refine Subscript_ (wpAny_mono h (fun o s₁ h₁ => wpAny_mono h₁ (fun i s₂ h₂ => ?_) fun _ _ x => x) fun _ _ x => x)
  obtain ⟨hT, h₂⟩ := h₂
  unfold subscriptTail
  refine wpAny_bind ?_
  rw [getitemInPython_of_ne hT.not_modules]
  refine wpAny_bind (wpAny_specialOf hT hl ?_)
  have fin : wpAny (model prog w) A (subscripted slice false o i) (fun r s₃ => wpAny (model prog w) A (letTemporaryGo value o r >>= fun _ => pure r) Q E s₃) E s₂ := by
    rw [hs o i]
    exact wpAny_operating (wpAny_mono h₂ (fun r s₃ h₃ => wpAny_bind (wpAny_letTemporaryGo (wpAny_pure h₃))) fun _ _ x => x)
  first
    | exact wpAny_pure (wpAny_bind fin)
    | exact wpAny_bind (wpAny_pure (wpAny_bind fin))
    | exact wpAny_bind fin

theorem dict_typeIs {X : Cx} {pins : List (Addr × Obj)} {σ : St} {H : Hp} {s : Shared} {a : Addr} {y : V} {o : Option V} (I : Inv X pins σ H s) (g : DGet H a y o) : s.TypeIs (.ref a) "dict" := by
  rcases g with ⟨kvs, k, e, _, _⟩ | ⟨kvs, k, b, e, _, _, _⟩
  · obtain ⟨_, _, vs, _, dd⟩ := dk_rd I.hok e
    exact dd.typeIs
  · obtain ⟨_, _, xs, _, dd⟩ := dt_rd I.hok e
    exact dd.typeIs

/-- d[y] -/
def tDGet (td ty : TE) : TE := fun σ H Q => td σ H fun x H1 => ty σ H1 fun y H2 => ∃ a v, x = .ref a ∧ DGet H2 a y (some v) ∧ Q v H2
def tDNotIn (ty td : TE) : TE := fun σ H Q => ty σ H fun y H1 => td σ H1 fun x H2 => ∃ a o, x = .ref a ∧ DGet H2 a y o ∧ Q (.bl (!o.isSome)) H2
/-- d[y] = v -/
def sDPut (td ty tv : TE) : TS := fun D σ H => tv σ H fun v H1 => td σ H1 fun x H2 => ty σ H2 fun y H3 => ∃ a H4, x = .ref a ∧ DPut H3 a y v H4 ∧ D.nx σ H4

section
variable {X : Cx} {o i e value : Expr} {pos pos' tpos : Pos} {td ty tv : TE}
theorem pe_dget (hu : X.A.units + 1 < cLine) (ho : PE X o td) (hi : PE X i ty) (hs : NoSl i) : PE X (.Subscript o i pos) (tDGet td ty) := by
  intro pins s σ H Q I h
  refine subD_of PySem.F.slot_dict_getitem.lookup hs (thn (ho pins s σ H _ I h) fun u s1 ⟨x, H1, I1, rx, q1⟩ => thn (hi pins s1 σ H1 _ I1 q1) fun iv s2 ⟨y, H2, I2, ry, a, v, ex, g, q2⟩ => ?_)
  subst ex
  obtain rfl : u = Value.ref a := rx
  exact ⟨dict_typeIs I2 g, d_getItem hu I2 g ry fun w' s3 I3 rw' => ⟨v, H2, I3, rw', q2⟩⟩
theorem pc_dnotin (hu : X.A.units + 1 < cLine) (hi : PE X i ty) (ho : PE X o td) : PC X .NotIn i o (tDNotIn ty td) := by
  intro pins s σ H Q I h
  refine thn (hi pins s σ H _ I h) fun iv s1 ⟨y, H1, I1, ry, q1⟩ => thn (ho pins s1 σ H1 _ I1 q1) fun u s2 ⟨x, H2, I2, rx, a, ov, ex, g, q2⟩ => ?_
  subst ex
  obtain rfl : u = Value.ref a := rx
  exact d_notIn hu I2 g ry fun s3 I3 => ⟨.bl (!ov.isSome), H2, I3, rfl, q2⟩
theorem ps_dput (hu : X.A.units + 1 < cLine) (ho : PE X o td) (hi : PE X i ty) (hv : PE X value tv) (hs : swapsWith value (some (.Subscript o i pos')) pos.line X.env = pure false) :
    PS X (.Assign [.Subscript o i pos'] value pos) (sDPut td ty tv) := by
  intro pins s σ H D I h
  refine wpAny_Assign_Subscript (thn (hv pins s σ H _ I h) fun r s1 ⟨v, H1, I1, rv, q1⟩ => thn (ho pins s1 σ H1 _ I1 q1) fun u s2 ⟨x, H2, I2, rx, q2⟩ => thn (hi pins s2 σ H2 _ I2 q2) fun iv s3 ⟨y, H3, I3, ry, a, H4, ex, g, q3⟩ => ?_) hs
  subst ex
  obtain rfl : u = Value.ref a := rx
  exact d_setItem hu I3 g ry rv fun s4 I4 => ⟨σ, H4, I4, q3⟩
end


/-! ### displays -/
theorem dk_empty {P : Program} {w : World} {H : Hp} (h : Heap) (hb : sysModules < h.objs.size) : ObjOk P w H (h.push { cls := .type "dict", data := .dict #[] }) h.objs.size (.dK []) :=
  ⟨Nat.zero_le _, beq_eq_false_iff_ne.mpr (Ne.symm (Nat.ne_of_lt hb)), [], .nil, Heap.DictOf.new h⟩
/-- {}, to be a dict of the kind that is wanted -/
def tDNewK : TE := fun _ H Q => ∀ p, H p = none → Q (.ref p) (upd H p (.dK []))
section
variable {X : Cx} {pos : Pos}
theorem pe_dnewK : PE X (.Dict [] [] pos) tDNewK := fun pins s σ H Q I h =>
  wpAny_Dict_empty ⟨.ref s.heap.objs.size, _, I.laid (a := s.heap.objs.size) (o := .dK []) (t' := s.toks) (fun _ _ q => Heap.get?_push_of_some _ q) (Nat.le_refl _) (dk_empty s.heap I.big), rfl, h _ (I.hok.fresh (Nat.le_refl _))⟩
end




/-! ### methods -/
/-- a method call o.m(e) of a built-in, with one argument: what must be seen of the text -/
structure M1 (X : Cx) (o : Expr) (m : Str) (apos : Pos) (e : Expr) (cpos : Pos) : Prop where
  base : attributeBase o m X.env (eval o X.env) = eval o X.env
  few : ((backTo cpos (starEach [e] X.env)).all (fun x => !x.1) && (backToKw cpos (keywordEach [] X.env)).all (fun x => x.1.isSome)
    && decide (([e] : List Expr).length + ([] : List Keyword).length + (if ([] : List Keyword).isEmpty then 0 else 1) < 30)) = true
  line : (apos.endLine == cpos.line) = true
  trees : backTo cpos (starEach [e] X.env) = [(false, eval e X.env)]

/-- a is a dict, whatever its keys -/
def IsD (H : Hp) (a : Addr) : Prop := (∃ kvs, Rd H a (.dK kvs)) ∨ ∃ kvs, Rd H a (.dT kvs)
theorem isD_at {X : Cx} {pins : List (Addr × Obj)} {σ : St} {H : Hp} {s : Shared} {a : Addr} (I : Inv X pins σ H s) (d : IsD H a) :
    s.TypeIs (.ref a) "dict" ∧ (∀ b, Value.ref a = .ref b → ∃ ob, s.heap.get? b = some ob ∧ ob.dict = none) ∧ (a == sysModules) = false := by
  rcases d with ⟨kvs, e⟩ | ⟨kvs, e⟩
  · obtain ⟨_, hd, vs, _, dd⟩ := dk_rd I.hok e
    refine ⟨dd.typeIs, fun b q => ?_, hd⟩
    cases q
    obtain ⟨ob, _, _, h1, h2, _⟩ := dd
    exact ⟨ob, h1, h2.2.1⟩
  · obtain ⟨_, hd, xs, _, dd⟩ := dt_rd I.hok e
    refine ⟨dd.typeIs, fun b q => ?_, hd⟩
    cases q
    obtain ⟨ob, _, _, h1, h2, _⟩ := dd
    exact ⟨ob, h1, h2.2.1⟩

section
variable {X : Cx} {pins : List (Addr × Obj)} {σ : St} {H : Hp} {s : Shared} {a : Addr} {y d : V} {u r : Value} {o : Option V} {A : Around} {E : Value → Shared → Prop}
end

/-- d.pop(k): there; d.pop(k, x): there or not -/
def tDPop1 (td ty : TE) : TE := fun σ H Q => td σ H fun x H1 => ∃ a, x = .ref a ∧ IsD H1 a ∧ ty σ H1 fun y H2 => ∃ kvs k v, H2 a = some (.dK kvs) ∧ y = kV k ∧ valV kvs k = some v ∧ Q v (upd H2 a (.dK (dropK kvs k)))
section
variable {X : Cx} {o e f : Expr} {apos cpos : Pos} {td ty tx : TE}
theorem pe_dpop1 (ho : PE X o td) (he : PE X e ty) (m : M1 X o "pop" apos e cpos) : PE X (.Call (.Attribute o "pop" apos) [e] [] cpos) (tDPop1 td ty) := by
  intro pins s σ H Q I h
  refine wpAny_Call_method m.base m.few m.line PySem.F.plainAttrs_dict PySem.F.slot_dict_pop PySem.F.type_dict_pop (thn (ho pins s σ H _ I h) fun u s1 ⟨x, H1, I1, rx, a, ex, d, q1⟩ => ?_)
  subst ex
  obtain rfl : u = Value.ref a := rx
  obtain ⟨t1, t2, _⟩ := isD_at I1 d
  refine ⟨t1, t2, ?_⟩
  rw [m.trees]
  refine Calls.callWith_builtin rfl (Calls.evalArgs_plain (Calls.spliced_cons (thn (he pins s1 σ H1 _ I1 q1) fun iv s2 ⟨y, H2, I2, ry, kvs, k, v, ea, ey, l, q2⟩ => Calls.spliced_nil ?_)))
  subst ey
  exact d_pop I2 ea ry l (.inl rfl) fun w' s3 I3 rw' => ⟨v, _, I3, rw', q2⟩
end

/-! ### dict(d): a copy -/
section
variable {X : Cx} {pins : List (Addr × Obj)} {σ : St} {H : Hp} {s : Shared} {a : Addr} {kvs : List (Key × V)} {A : Around} {E : Value → Shared → Prop}
end


section
variable {X : Cx} {pins : List (Addr × Obj)} {σ : St} {H : Hp} {s : Shared} {a : Addr} {y : V} {u : Value} {A : Around} {E : Value → Shared → Prop}
end
end L2

namespace L2
open PySem PySem.Spec PyProof.Rows
section
variable {X : Cx}
end
/-! ### a dict's pairs: keys that differ -/
section
variable {κ : Type} [DecidableEq κ]
end
end L2

set_option Elab.async false
set_option linter.all false
set_option maxRecDepth 100000
namespace L2
open PySem PySem.Spec PyProof.Rows

/-! an object that was not tracked is tracked from now on -/
theorem HOk.track {P : Program} {w : World} {H : Hp} {h : Heap} {a : Addr} {o : HO} (ok : HOk P w H h) (n : H a = none) (new : ObjOk P w (upd H a o) h a o) : HOk P w (upd H a o) h := fun b u q => by
  by_cases hb : b = a
  · subst hb; rw [upd_same] at q; cases q; exact new
  · rw [upd_ne hb] at q
    exact (ok b u q).stay (fun _ _ _ r => r) (fun c r => by rw [upd_ne (ne_of_none r n)]; exact r) fun c xs r => by rw [upd_ne (ne_of_none r n)]; exact r

/-! ### the signs of a text, walked -/

/-! ### a walk of a known row of values -/
structure Wk (J : It) (xs : List V) (P : Hp → Prop) : Prop where
  go : ∀ i H, i < xs.length → P H → J.go i H
  yld : ∀ i H x H', P H → J.yld i H x H' → H' = H ∧ (i < xs.length → xs[i]? = some x)
  stop : ∀ H, P H → J.stop xs.length H
theorem wk_list (K : PySem.W.Frag) (a : Addr) (xs : List V) : Wk (Itl K a) xs (fun H => SqL K H a xs) :=
  ⟨fun i H hi h => ⟨xs, xs[i], h, by simp [hi]⟩, fun i H x H' h y => ⟨y.1, fun _ => y.2 xs h⟩, fun H h => ⟨xs, h, Nat.le_refl _⟩⟩
theorem wk_tup (K : PySem.W.Frag) (a : Addr) (xs : List V) : Wk (Itt K a) xs (fun H => SqT K H a xs) :=
  ⟨fun i H hi h => ⟨xs, xs[i], h, by simp [hi]⟩, fun i H x H' h y => ⟨y.1, fun _ => y.2 xs h⟩, fun H h => ⟨xs, h, Nat.le_refl _⟩⟩
def rangeV (lo : Int) (n : Nat) : List V := (List.range n).map fun (i : Nat) => V.int (lo + (i : Int))
theorem rangeV_length (lo : Int) (n : Nat) : (rangeV lo n).length = n := by simp [rangeV]
theorem wk_range (lo : Int) (n : Nat) : Wk (Itr lo n) (rangeV lo n) (fun _ => True) :=
  ⟨fun i H hi _ => by rw [rangeV_length] at hi; exact hi, fun i H v H' _ y => ⟨y.1, fun hi => by
    rw [rangeV_length] at hi
    obtain ⟨_, rfl⟩ := y
    unfold rangeV
    rw [List.getElem?_map, List.getElem?_range hi] <;> rfl⟩, fun H _ => by
    show n ≤ (rangeV lo n).length
    rw [rangeV_length]; exact Nat.le_refl _⟩
/-- a for over a known row -/
theorem for_wk {J : It} {xs : List V} {P : Hp → Prop} {g : TG} {tb : TS} {D : Ends} {σ : St} {H : Hp} (wk : Wk J xs P) (Pv : Nat → St → Hp → Prop) (h0 : Pv 0 σ H) (hl : ∀ i σ H, i ≤ xs.length → Pv i σ H → P H)
    (hs : ∀ i x σ H, xs[i]? = some x → Pv i σ H → g x σ H fun σ2 H2 => tb { D with nx := Pv (i + 1), ct := Pv (i + 1), bk := D.nx } σ2 H2) (hd : ∀ σ H, Pv xs.length σ H → D.nx σ H) :
    ∃ W : Nat → Nat → St → Hp → Prop, (∃ m, W 0 m σ H) ∧ ∀ i m σ H, W i m σ H →
      (J.stop i H ∧ D.nx σ H) ∨ (J.go i H ∧ ∃ N : St → Hp → Prop, (∀ σ' H', N σ' H' → ∃ m', m' < m ∧ W (i + 1) m' σ' H') ∧ ∀ x H', J.yld i H x H' → g x σ H' fun σ2 H2 => tb { D with nx := N, ct := N, bk := D.nx } σ2 H2) := by
  refine ⟨fun i m σ H => m = xs.length - i ∧ i ≤ xs.length ∧ Pv i σ H, ⟨xs.length, by simp, Nat.zero_le _, h0⟩, ?_⟩
  rintro i m σ H ⟨rfl, hi, p⟩
  have q := hl i σ H hi p
  by_cases hlt : i < xs.length
  · refine .inr ⟨wk.go i H hlt q, Pv (i + 1), fun σ' H' p' => ⟨xs.length - (i + 1), by omega, rfl, hlt, p'⟩, fun x H' y => ?_⟩
    obtain ⟨e, y2⟩ := wk.yld i H x H' q y
    subst e
    exact hs i x σ _ (y2 hlt) p
  · have e : i = xs.length := by omega
    subst e
    exact .inl ⟨wk.stop H q, hd σ H p⟩

/-! ### a list comprehension of one clause -/
def closOf (scope : Scope) (env : Env) : List (Str × Addr) := ((scope.names.filter fun y => y.2 == .free).map fun y => (y.1, (env.cells.lookup y.1).getD 0)).reverse
theorem clos_go (env : Env) : ∀ (l : List (Str × NameKind)) (cs : List (Str × Addr)), (∀ y ∈ l, y.2 = .free → ∃ c, env.cells.lookup y.1 = some c) →
    (forIn l cs fun (x : Str × NameKind) (r : List (Str × Addr)) => if (x.2 == NameKind.free) = true then (cellOf env x.1 >>= fun c => pure (ForInStep.yield ((x.1, c) :: r)) : Sem (ForInStep (List (Str × Addr)))) else pure (ForInStep.yield r))
      = (pure (((l.filter fun y => y.2 == .free).map fun y => (y.1, (env.cells.lookup y.1).getD 0)).reverse ++ cs) : Sem (List (Str × Addr)))
  | [], cs, _ => by simp
  | y :: l, cs, h => by
    rw [List.forIn_cons]
    have ih := fun cs => clos_go env l cs fun z hz => h z (List.mem_cons_of_mem _ hz)
    by_cases hk : (y.2 == NameKind.free) = true
    · obtain ⟨c, hc⟩ := h y List.mem_cons_self (by simpa using hk)
      have ec : cellOf env y.1 = pure c := by unfold cellOf; rw [hc]
      rw [if_pos hk, ec]
      show (forIn l ((y.1, c) :: cs) _ : Sem _) = _
      rw [ih]
      rw [List.filter_cons_of_pos (by simpa using hk), List.map_cons, List.reverse_cons, hc]
      simp
    · rw [if_neg hk]
      show (forIn l cs _ : Sem _) = _
      rw [ih, List.filter_cons_of_neg (by simpa using hk)]
theorem closureFor_eq {scope : Scope} {env : Env} (h : ∀ y ∈ scope.names, y.2 = .free → ∃ c, env.cells.lookup y.1 = some c) : closureFor scope env = pure (closOf scope env) := by
  have e := clos_go env scope.names [] h
  rw [List.append_nil] at e
  unfold closureFor
  show (forIn scope.names [] _ >>= fun r => pure r : Sem _) = _
  exact (congrArg (fun t : Sem (List (Str × Addr)) => t >>= fun r => pure r) e).trans rfl
theorem mem_closOf {scope : Scope} {env : Env} {p : Str × Addr} (h : p ∈ closOf scope env) : ∃ y ∈ scope.names, y.2 = .free ∧ p = (y.1, (env.cells.lookup y.1).getD 0) := by
  unfold closOf at h
  rw [List.mem_reverse, List.mem_map] at h
  obtain ⟨y, hy, e⟩ := h
  rw [List.mem_filter] at hy
  exact ⟨y, hy.1, by simpa using hy.2, e.symm⟩
theorem lookup_closOf {scope : Scope} {env : Env} (h : ∀ y ∈ scope.names, y.2 = .free → ∃ c, env.cells.lookup y.1 = some c) {y : Str} {c : Addr} (e : (closOf scope env).lookup y = some c) : env.cells.lookup y = some c := by
  obtain ⟨z, hz, hf, q⟩ := mem_closOf (PySem.mem_of_lookup e)
  obtain ⟨d, hd⟩ := h z hz hf
  have q1 : y = z.1 := congrArg Prod.fst q
  have q2 : c = (env.cells.lookup z.1).getD 0 := congrArg Prod.snd q
  rw [hd] at q2
  rw [q1, hd, q2] <;> rfl
theorem has_closOf {scope : Scope} {env : Env} {y : Str} (e : (y, NameKind.free) ∈ scope.names) : ∃ c, (closOf scope env).lookup y = some c := by
  have m : (y, (env.cells.lookup y).getD 0) ∈ closOf scope env := by
    unfold closOf
    rw [List.mem_reverse, List.mem_map]
    exact ⟨(y, .free), List.mem_filter.mpr ⟨e, by rfl⟩, rfl⟩
  cases q : (closOf scope env).lookup y with
  | some c => exact ⟨c, rfl⟩
  | none =>
    rw [List.lookup_eq_none_iff] at q
    have := q _ m
    simp at this
theorem lookup_relabel_free {env : Env} (hk : env.scope.kind = .function) : ∀ {names : List (Str × NameKind)} {x : Str}, names.lookup x = some .free → env.kindOf x = some .cell →
    (names.map fun (n, k) => if (k == NameKind.free && env.scope.kind == .function && env.kindOf n == some .cell) then (n, NameKind.cell) else (n, k)).lookup x = some .cell
  | [], _, h, _ => by simp at h
  | (n, k) :: r, x, h, hc => by
    have ih := @lookup_relabel_free env hk r x
    show List.lookup x ((if (k == NameKind.free && env.scope.kind == .function && env.kindOf n == some .cell) = true then (n, NameKind.cell) else (n, k)) :: _) = _
    cases hx : x == n with
    | true =>
      have hxn : x = n := by simpa using hx
      simp only [List.lookup_cons, hx] at h
      cases h
      rw [if_pos (by rw [hk, ← hxn, hc]; rfl)]
      simp [List.lookup_cons, hx]
    | false =>
      simp only [List.lookup_cons, hx] at h
      by_cases hc' : (k == NameKind.free && env.scope.kind == .function && env.kindOf n == some .cell) = true
      · rw [if_pos hc']; simp only [List.lookup_cons, hx]; exact ih h hc
      · rw [if_neg hc']; simp only [List.lookup_cons, hx]; exact ih h hc
theorem relabel_back {env : Env} : ∀ {names : List (Str × NameKind)} {x : Str} {k : NameKind},
    (names.map fun (n, k) => if (k == NameKind.free && env.scope.kind == .function && env.kindOf n == some .cell) then (n, NameKind.cell) else (n, k)).lookup x = some k → (k = .cell ∨ k = .free) →
    (x, NameKind.free) ∈ names ∨ (x, NameKind.cell) ∈ names
  | [], _, _, h, _ => by simp at h
  | (n, k0) :: r, x, k, h, hk => by
    have ih := @relabel_back env r x k
    change List.lookup x ((if (k0 == NameKind.free && env.scope.kind == .function && env.kindOf n == some .cell) = true then (n, NameKind.cell) else (n, k0)) :: _) = _ at h
    cases hx : x == n with
    | true =>
      have hxn : x = n := by simpa using hx
      subst hxn
      by_cases hc' : (k0 == NameKind.free && env.scope.kind == .function && env.kindOf x == some .cell) = true
      · have : k0 = .free := by
          rw [Bool.and_eq_true, Bool.and_eq_true] at hc'
          simpa using hc'.1.1
        subst this
        exact .inl List.mem_cons_self
      · rw [if_neg hc'] at h
        simp only [List.lookup_cons, hx] at h
        cases h
        rcases hk with rfl | rfl
        · exact .inr List.mem_cons_self
        · exact .inl List.mem_cons_self
    | false =>
      have h' : (r.map fun (n, k) => if (k == NameKind.free && env.scope.kind == .function && env.kindOf n == some .cell) then (n, NameKind.cell) else (n, k)).lookup x = some k := by
        by_cases hc' : (k0 == NameKind.free && env.scope.kind == .function && env.kindOf n == some .cell) = true
        · rw [if_pos hc'] at h; simp only [List.lookup_cons, hx] at h; exact h
        · rw [if_neg hc'] at h; simp only [List.lookup_cons, hx] at h; exact h
      rcases ih h' hk with z | z
      · exact .inl (List.mem_cons_of_mem _ z)
      · exact .inr (List.mem_cons_of_mem _ z)
end L2

set_option Elab.async false
set_option linter.all false
set_option maxRecDepth 100000
namespace L2
open PySem PySem.Spec PyProof.Rows

/-- the context of a comprehension's block: C its own names' dict, s₀ and H₀ as it begins, ex the iterator's objects -/
def cxComp (X : Cx) (scope : Scope) (N : List Str) (C : Addr) (s₀ : Shared) (H₀ : Hp) (ex : List Addr) : Cx where
  prog := X.prog
  w := X.w
  K := X.K
  mg := X.mg
  base := X.base
  A := X.A
  N := N
  s₀ := s₀
  H₀ := H₀
  env := compEnvC scope (closOf scope X.env) C X.env
  outer := X.stack
  stack := X.stack
  ex := ex
  fn := fun _ => false
  calm := X.calm
  pn := []
  xe := fun _ _ => False

/-- the tests of a clause -/
def PTs (X : Cx) (ifs : List Expr) (t : TT) : Prop :=
  ∀ (pins : List (Addr × Obj)) (s : Shared) (σ : St) (H : Hp) (Q : Bool → Hp → Prop), Inv X pins σ H s → t σ H Q →
    wpAny (model X.prog X.w) X.A (forIn ifs true fun c r => if r = true then do let ok ← isTrue c X.env (eval c X.env); pure (ForInStep.yield ok) else pure (ForInStep.yield r)) (TP X pins σ Q) X.xe s
def tTrue : TT := fun _ H Q => Q true H
theorem pts_nil {X : Cx} : PTs X [] tTrue := fun _ _ _ H _ I h => wpAny_tests_nil ⟨H, I, h⟩
theorem pts_one {X : Cx} {c : Expr} {t : TT} (h : PT X c t) : PTs X [c] t := fun pins s σ H Q I q => wpAny_tests_one (h pins s σ H Q I q)

section
variable {prog : Program} {w : World} {A : Around} {R : Result → Shared → Prop} {s : Shared}
theorem comp_loop {elt target iter : Expr} {ifs : List Expr} {scope : Scope} {pos : Pos} {it acc : Value} {env : Env} (I : Nat → Shared → Prop)
    (turn : ∀ n s, I n s → wpAny (model prog w) A (pyNext it) (fun r s₁ => match r with
      | none => R (.ok .next) s₁
      | some v => wpAny (model prog w) A (letOwnedTupleGo target it v) (fun _ s₁' => wpAny (model prog w) A (assign target env v) (fun _ s₂ =>
          wpAny (model prog w) A (forIn ifs true fun c r => if r = true then do let ok ← isTrue c env (eval c env); pure (ForInStep.yield ok) else pure (ForInStep.yield r)) (fun ok s₃ =>
            if ok = true then wpAny (model prog w) A (eval elt env) (fun x s₄ =>
              wpAny (model prog w) A (call (.builtin "list.append") [acc, x]) (fun _ s₅ => ∃ m, m < n ∧ I m s₅) (notedBy (model prog w) A env fun e s' => R (.error e) s') s₄) (notedBy (model prog w) A env fun e s' => R (.error e) s') s₃
            else ∃ m, m < n ∧ I m s₃) (notedBy (model prog w) A env fun e s' => R (.error e) s') s₂) (notedBy (model prog w) A env fun e s' => R (.error e) s') s₁') (notedBy (model prog w) A env fun e s' => R (.error e) s') s₁) (notedBy (model prog w) A env fun e s' => R (.error e) s') s)
    (n : Nat) (h : I n s) :
    codeAny (model prog w) A (.compLoop (.ListComp elt [⟨target, iter, ifs, 0⟩] scope pos) 0 it acc env) R s := by
  refine codeAny_loop rfl I (fun n s hI => ?_) n h
  show wpAny _ A ((compTurn (.ListComp elt [⟨target, iter, ifs, 0⟩] scope pos) 0 it acc env).onRaise (fun x => do noteFrame x env; theTreesLotGoes x)) _ _ s
  refine wpAny_noted ?_
  rw [compTurn_list]
  refine wpAny_bind (wpAny_standAt (wpAny_bind (wpAny_mono (turn n s hI) (fun r s₁ h₁ => ?_) fun _ _ h' => h')))
  cases r with
  | none => exact wpAny_pure h₁
  | some v =>
    refine wpAny_bind (wpAny_mono h₁ (fun _ s₁' h₁' => ?_) fun _ _ h' => h')
    refine wpAny_bind (wpAny_mono h₁' (fun _ s₂ h₂ => wpAny_bind (wpAny_mono h₂ (fun ok s₃ h₃ => ?_) fun _ _ h' => h')) fun _ _ h' => h')
    cases ok with
    | false => exact wpAny_pure ⟨rfl, h₃⟩
    | true =>
      exact wpAny_bind (wpAny_bind (wpAny_mono h₃ (fun x s₄ h₄ => wpAny_bind (wpAny_mono h₄ (fun _ s₅ h₅ => wpAny_pure (wpAny_pure ⟨rfl, h₅⟩)) fun _ _ h' => h')) fun _ _ h' => h'))
end

/-- os: the block's own names; js: the slots of the captured names -/
def caps (σ : St) (js : List Nat) : St := js.map fun j => σ.getD j none
def tCompB (k : Nat) (js : List Nat) (g : TG) (tc : TT) (te : TE) (σ : St) (Q : VK) (J : It) (H1 : Hp) : Prop :=
  ∃ W : Nat → Nat → List V → Hp → Prop, (∃ m, W 0 m [] H1) ∧ ∀ i m ys H, W i m ys H →
    (J.stop i H ∧ ys.length ≤ sizeLine ∧ ∀ D, H D = none → Q (.ref D) (upd H D (.lst ys))) ∨
    (J.go i H ∧ ys.length < sizeLine ∧ ∀ x H', J.yld i H x H' → ∀ os : St, os.length = k → g x (os ++ caps σ js) H' fun σ2 H2 => (∃ os' : St, os'.length = k ∧ σ2 = os' ++ caps σ js) ∧
        tc σ2 H2 fun b H3 => if b = true then te σ2 H3 fun y H4 => ∃ m', m' < m ∧ W (i + 1) m' (ys ++ [y]) H4 else ∃ m', m' < m ∧ W (i + 1) m' ys H3)
def tComp (k : Nat) (js : List Nat) (wi : TI) (g : TG) (tc : TT) (te : TE) : TE := fun σ H Q => wi σ H (tCompB k js g tc te σ Q)

theorem caps_get {σ : St} {js : List Nat} {i : Nat} {v : V} (h : (caps σ js)[i]? = some (some v)) : ∃ j, js[i]? = some j ∧ σ[j]? = some (some v) := by
  unfold caps at h
  rw [List.getElem?_map] at h
  cases e : js[i]? with
  | none => rw [e] at h; cases h
  | some j =>
    rw [e] at h
    have h' : σ.getD j none = some v := Option.some.inj h
    refine ⟨j, rfl, ?_⟩
    rw [List.getD_eq_getElem?_getD] at h'
    cases q : σ[j]? with
    | none => rw [q] at h'; cases h'
    | some o => rw [q] at h'; exact congrArg some h'

set_option maxHeartbeats 1000000 in
theorem pe_comp {X : Cx} {elt iter tg : Expr} {pos : Pos} {ifs : List Expr} {scope : Scope} {wi : TI} {g : TG} {tc : TT} {te : TE} (own : List Str) (js : List Nat) (N' : List Str) (hc : X.calm = true)
    (hi : PI X tg iter wi)
    (hg : ∀ C s₀ H₀ ex, PG (cxComp X scope N' C s₀ H₀ ex) tg g)
    (ht : ∀ C s₀ H₀ ex, PTs (cxComp X scope N' C s₀ H₀ ex) ifs tc)
    (he : ∀ C s₀ H₀ ex, PE (cxComp X scope N' C s₀ H₀ ex) elt te)
    (hN' : N' = own ++ js.map fun j => X.N.getD j Str.empty := by rfl)
    (hk : scope.kind = .function := by rfl)
    (hcell : ∀ y ∈ scope.names, y.2 ≠ .cell := by decide +kernel)
    (hnames : ∀ y ∈ scope.names, y.2 = .local → scope.names.lookup y.1 = some .local := by decide +kernel)
    (hfr : (scope.names.all fun y => y.2 != .free || X.env.scope.names.lookup y.1 == some .cell) = true := by rfl)
    (hjs : (js.all fun j => scope.names.lookup (X.N.getD j Str.empty) == some .free && (X.N[j]?).isSome) = true := by rfl)
    (hs : ∀ z, foldedSetIterable iter X.env z = pure z := by intro _; rfl) :
    PE X (.ListComp elt [⟨tg, iter, ifs, 0⟩] scope pos) (tComp own.length js wi g tc te) := by
  intro pins s σ H Q I h
  have free_cell : ∀ y ∈ scope.names, y.2 = .free → X.env.kindOf y.1 = some .cell := fun y hy hf => by
    have := List.all_eq_true.mp hfr y hy
    rw [hf] at this
    simp at this
    exact this
  have hcl : ∀ y ∈ scope.names, y.2 = .free → ∃ c, X.env.cells.lookup y.1 = some c := fun y hy hf => I.ok.has y.1 (.inl (free_cell y hy hf))
  rw [eval_ListComp]
  refine wpAny_comprehension_free (use := none) rfl hs (closureFor_eq hcl) hk hnames ?_
  refine thn (hi pins s σ H _ I h) fun v s1 h1 => thn h1 fun itv s2 h2 => ?_
  obtain ⟨it, fp, tn, J, H2, e, I2, T, st2, f2, W, ⟨m0, w0⟩, turn⟩ := h2
  subst e
  refine wpAny_newObj_type (wpAny_newFunctionEnv hcell (by intro y hy; simp at hy) (fun h₁ hns₁ hsb₁ => ?_) hk)
  dsimp only at hns₁ hsb₁ ⊢
  generalize hG : s2.heap.push { cls := .type "list", dict := none, data := .seq ([] : List Value).toArray } = G at hns₁ hsb₁ ⊢
  have hC : G.objs.size = s2.heap.objs.size + 1 := by rw [← hG, Heap.size_push]
  have hDC : s2.heap.objs.size ≠ G.objs.size := by rw [hC]; exact Nat.ne_of_lt (Nat.lt_succ_self _)
  have below : ∀ b, b < s2.heap.objs.size → b ≠ G.objs.size ∧ b ≠ s2.heap.objs.size := fun b hb => ⟨by rw [hC]; exact Nat.ne_of_lt (Nat.lt_succ_of_lt hb), Nat.ne_of_lt hb⟩
  have old : ∀ b o, s2.heap.get? b = some o → h₁.get? b = some o := fun b o e => hsb₁.extBut b o (below b (Heap.lt_size e)).1 (Heap.get?_push_of_some _ (hG ▸ Heap.get?_push_of_some _ e))
  have hacc : h₁.get? s2.heap.objs.size = some { cls := .type "list", data := .seq ([] : List Value).toArray 0 } := hsb₁.extBut _ _ hDC (Heap.get?_push_of_some _ (hG ▸ Heap.get?_push_size _ rfl))
  have fplt : ∀ b ∈ fp, b < s2.heap.objs.size := fun b hb => let ⟨_, e, _⟩ := T.obj _ _ st2 b hb; Heap.lt_size e
  have ok' : (cxComp X scope N' G.objs.size s2 H2 fp).Ok := by
    refine ⟨I2.ok.mod, hk, I2.ok.glob, I2.ok.blt, by show s2.heap.objs.size ≤ G.objs.size; rw [hC]; exact Nat.le_succ _, fun x y c e1 e2 => I2.ok.inj x y c (lookup_closOf hcl e1) (lookup_closOf hcl e2), fun x hx => ?_,
      fun x c hx _ => (nomatch hx), I2.ok.hd, I2.ok.frames, .inl rfl, fun b hb => ⟨(below b (fplt b hb)).1, fun x c e => (f2 b hb).2.2.2.2.1 x c (lookup_closOf hcl e)⟩, I2.bs, Nat.le_trans I2.ok.bsz I2.sz, fun b o e hb => ?_, fun b hb z => ?_, I2.stack, I2.stkFree⟩
    · have hx' : (relabel scope X.env).names.lookup x = some .cell ∨ (relabel scope X.env).names.lookup x = some .free := hx
      have : (x, NameKind.free) ∈ scope.names ∨ (x, NameKind.cell) ∈ scope.names := by
        rcases hx' with z | z
        · exact relabel_back z (.inl rfl)
        · exact relabel_back z (.inr rfl)
      rcases this with z | z
      · exact has_closOf z
      · exact absurd rfl (hcell _ z)
    · rcases (f2 b hb).2.2.2.1 with z | z
      · exact I2.ok.noex b o e z
      · have h1 : b < X.base.objs.size := Heap.lt_size e
        exact absurd (Nat.lt_of_lt_of_le h1 (Nat.le_trans I2.ok.bsz z)) (Nat.lt_irrefl _)
    · rcases List.mem_cons.mp (I2.stkSub b z) with e | e
      · exact (f2 b hb).2.1 e
      · exact (f2 b hb).2.2.1 e
  have kindCap : ∀ i y, (js.map fun j => X.N.getD j Str.empty)[i]? = some y → ∃ j, js[i]? = some j ∧ X.N[j]? = some y ∧ scope.names.lookup y = some .free := fun i y e => by
    rw [List.getElem?_map] at e
    cases q : js[i]? with
    | none => rw [q] at e; cases e
    | some j =>
      rw [q] at e
      have e' : X.N.getD j Str.empty = y := Option.some.inj e
      have hj := List.all_eq_true.mp hjs j (List.mem_of_getElem? q)
      rw [Bool.and_eq_true] at hj
      obtain ⟨hj1, hj2⟩ := hj
      rw [e'] at hj1
      obtain ⟨z, hz⟩ := Option.isSome_iff_exists.mp hj2
      rw [List.getD_eq_getElem?_getD, hz] at e'
      exact ⟨j, q, by rw [hz]; exact congrArg some e', by simpa using hj1⟩
  have I0 : ∀ tk : Nat, Inv (cxComp X scope N' G.objs.size s2 H2 fp) [(s2.heap.objs.size, { cls := .type "list", data := .seq ([] : List Value).toArray 0 })] (List.replicate own.length none ++ caps σ js) H2 { s2 with heap := h₁, toks := tk } := fun tk => by
    refine ⟨ok', rfl, I2.bare, Un.kept old, ⟨_, hns₁, fun i y v e1 e2 e3 => ?_⟩, fun x c e => ?_, I2.hok.fresh (by show s2.heap.objs.size ≤ G.objs.size; rw [hC]; exact Nat.le_succ _), fun x c e => I2.freeC x c (lookup_closOf hcl e), fun p hp => ?_, I2.hok.kept old, ?_⟩
    · by_cases hlt : i < own.length
      · rw [List.getElem?_append_left (by simpa using hlt), List.getElem?_replicate] at e2
        split at e2 <;> cases e2
      · have e1' : N'[i]? = some y := e1
        rw [hN', List.getElem?_append_right (by omega)] at e1'
        rw [List.getElem?_append_right (by simpa using hlt), List.length_replicate] at e2
        obtain ⟨j, hj, hs2⟩ := caps_get e2
        obtain ⟨j', hj', hN, hfree⟩ := kindCap _ _ e1'
        rw [hj] at hj'; cases hj'
        obtain ⟨m, hm, hl⟩ := I2.loc
        have hcell' : X.env.kindOf y = some .cell := free_cell (y, .free) (PySem.mem_of_lookup hfree) rfl
        obtain ⟨u, r, l⟩ := hl j y v hN hs2 (.inr (.inl hcell'))
        refine ⟨u, r, ?_⟩
        rcases l with ⟨hk', _⟩ | ⟨hk', c, hc', z⟩
        · rw [hcell'] at hk'; cases hk'
        · obtain ⟨c', e'⟩ := has_closOf (env := X.env) (PySem.mem_of_lookup hfree)
          have := lookup_closOf hcl e'
          rw [hc'] at this; cases this
          refine .inr ⟨.inl (lookup_relabel_free I2.ok.kind hfree hcell'), c, e', ?_⟩
          obtain ⟨o, ho, hd⟩ := z
          exact ⟨o, old _ _ ho, hd⟩
    · obtain ⟨v, o, ho, hd⟩ := I2.cell x c (lookup_closOf hcl e)
      exact ⟨v, o, old _ _ ho, hd⟩
    · have hp' : p = (s2.heap.objs.size, { cls := .type "list", data := .seq ([] : List Value).toArray 0 }) := by
        rcases List.mem_append.mp hp with z | z
        · exact absurd (show p ∈ ([] : List (Addr × Obj)) from z) (by simp)
        · simpa using z
      subst hp'
      refine ⟨hacc, I2.hok.fresh (Nat.le_refl _), hDC, fun z => ?_, fun v z => by cases z⟩
      exact absurd (show s2.heap.objs.size ∈ frs X.stack from z) fun z => by
        rcases List.mem_cons.mp (I2.stkSub _ z) with e | e
        · have := I2.lt
          rw [← e] at this
          exact Nat.lt_irrefl _ this
        · exact I2.nofs (Nat.le_refl _) e
    · show _ = N'.length
      rw [hN']
      simp [caps]
  have stat : ∀ {H' : Hp} {ob : Obj}, (∀ b ∈ fp, H' b = none) → ∀ b ∈ fp, FpOk (cxComp X scope N' G.objs.size s2 H2 fp) [(s2.heap.objs.size, ob)] H' b := fun {H' ob} hn b hb =>
    ⟨hn b hb, (below b (fplt b hb)).1, fun z => ok'.exfs b hb z, .inl hb, fun x c e => (f2 b hb).2.2.2.2.1 x c (lookup_closOf hcl e), fun p hp => by
      have hp' : p = (s2.heap.objs.size, ob) := by
        rcases List.mem_append.mp hp with z | z
        · exact absurd (show p ∈ ([] : List (Addr × Obj)) from z) (by simp)
        · simpa using z
      subst hp'
      exact Ne.symm (below b (fplt b hb)).2⟩
  have loop : ∀ s₃ : Shared, s₃ = { s2 with heap := h₁, toks := s2.toks + ([] : List (Str × Value)).length } →
      codeAny (model X.prog X.w) X.A (.compLoop (.ListComp elt [⟨tg, iter, ifs, 0⟩] scope pos) 0 (.ref it) (.ref s2.heap.objs.size) (compEnvC scope (closOf scope X.env) G.objs.size X.env))
        (compPost (model X.prog X.w) X.A X.xe none (EP X pins σ Q) (.ref s2.heap.objs.size) G.objs.size) s₃ := by
    rintro s₃ rfl
    refine comp_loop (fun n s' => ∃ (i : Nat) (os : St) (H' : Hp) (ys : List V) (its : List Value) (k : Nat), os.length = own.length ∧
      Inv (cxComp X scope N' G.objs.size s2 H2 fp) [(s2.heap.objs.size, { cls := .type "list", data := .seq its.toArray k })] (os ++ caps σ js) H' s' ∧ tn i s'.heap ∧ (∀ b ∈ fp, H' b = none) ∧ Vals ys its ∧ W i n ys H') ?_ m0
      ⟨0, _, H2, [], [], 0, by simp, I0 _, T.keep _ _ _ st2 fun b _ o e => old b o e, fun b hb => (f2 b hb).1, .nil, w0⟩
    rintro n s3 ⟨i, os, H3, ys, its, k, hos, I3, st3, fr3, rv3, w3⟩
    have pinD : ∀ {σ' : St} {H' : Hp} {s' : Shared}, Inv (cxComp X scope N' G.objs.size s2 H2 fp) [(s2.heap.objs.size, { cls := .type "list", data := .seq its.toArray k })] σ' H' s' → s'.heap.get? s2.heap.objs.size = some { cls := .type "list", data := .seq its.toArray k } ∧ H' s2.heap.objs.size = none :=
      fun I => let q := I.pin (s2.heap.objs.size, { cls := .type "list", data := .seq its.toArray k }) (List.mem_append_right _ (by simp)); ⟨q.1, q.2.1⟩
    rcases turn i n ys H3 w3 with ⟨stop, hz, qn⟩ | ⟨go, hz, step⟩
    · refine thn (T.done (cxComp X scope N' G.objs.size s2 H2 fp) rfl rfl rfl hc i _ s3 _ H3 _ I3 (stat fr3) st3 stop) fun r s4 ⟨hr, I4⟩ => ?_
      subst hr
      obtain ⟨hD4, hn4⟩ := pinD I4
      obtain ⟨m, hm, _⟩ := I4.loc
      refine ⟨m, hm, fun h' hsb => ?_⟩
      have b4 := I4.base
      have nC : ∀ b o, s2.heap.get? b = some o → b ≠ G.objs.size := fun b o e => (below b (Heap.lt_size e)).1
      have nD : ∀ b o, s2.heap.get? b = some o → b ≠ s2.heap.objs.size := fun b o e => (below b (Heap.lt_size e)).2
      have hok' : HOk X.prog X.w H3 h' := fun b ob e => by
        refine (I4.hok b ob e).stay (fun c w' hc' q => (hsb.2 c ?_).trans q) (fun _ q => q) fun _ _ q => q
        rintro rfl
        rcases hc' with hc' | hc'
        · rw [← hc', show H3 G.objs.size = none from I4.free] at e; cases e
        · rw [show H3 G.objs.size = none from I4.free] at hc'; cases hc'
      have hD' : h'.get? s2.heap.objs.size = some { cls := .type "list", data := .seq its.toArray k } := (hsb.2 _ hDC).trans hD4
      refine ⟨.ref s2.heap.objs.size, upd H3 s2.heap.objs.size (.lst ys), ?_, rfl, qn _ hn4⟩
      refine I2.call' (ch := fp) I4.os ⟨fun b o e n hb hx => ?_, fun b o e n hb hx => ?_, fun b o e n hx => ?_, fun b o e hx => ?_, fun b xs q => ?_, fun b o u q => ?_, fun b ps q => ?_⟩ (hok'.track hn4 ⟨hz, its, k, rv3, hD'⟩) I4.bare fun b hb => ⟨(f2 b hb).2.2.2.1, (f2 b hb).2.1, (f2 b hb).2.2.2.2.1, (f2 b hb).2.2.2.2.2⟩
      · exact (hsb.2 b (nC b o e)).trans (b4.keep b o e n hb hx)
      · obtain ⟨sl, e1⟩ := b4.slot b o e n hb hx
        exact ⟨sl, (hsb.2 b (nC b o e)).trans e1⟩
      · rw [upd_ne (nD b o e)]; exact b4.free b o e n hx
      · obtain ⟨o', e1⟩ := b4.there b o e hx
        exact ⟨o', (hsb.2 b (nC b o e)).trans e1⟩
      · have z := b4.tups b xs q
        rw [upd_ne (ne_of_none z hn4)]; exact z
      · have z := b4.frzs b o u q
        rw [upd_ne (ne_of_none z hn4)]; exact z
      · obtain ⟨more, z⟩ := b4.tbls b ps q
        exact ⟨more, by rw [upd_ne (ne_of_none z hn4)]; exact z⟩
    · refine thn (T.item (cxComp X scope N' G.objs.size s2 H2 fp) rfl rfl rfl hc i _ s3 _ H3 _ I3 (stat fr3) st3 go) fun r s4 ⟨u, hr, h4⟩ => ?_
      subst hr
      refine thn h4 fun _ s5 ⟨x, H5, I5, r5, y5, st5, fr5⟩ => ?_
      have fpo := T.obj _ _ st5
      have I5' := I5.pinned (stat fr5) fpo
      refine wpAny_mono (hg _ _ _ _ _ s5 _ H5 x u _ I5' r5 (step x H5 y5 os hos)) (fun _ s6 ⟨σ6, H6, I6, ⟨os', hos', e6⟩, q6⟩ => ?_) fun _ _ z => False.elim z
      subst e6
      refine wpAny_mono (ht _ _ _ _ _ s6 _ H6 _ I6 q6) (fun ok s7 ⟨H7, I7, q7⟩ => ?_) fun _ _ z => False.elim z
      have keepFp : ∀ {σ' : St} {H' : Hp} {s' : Shared}, Inv (cxComp X scope N' G.objs.size s2 H2 fp) ([(s2.heap.objs.size, { cls := .type "list", data := .seq its.toArray k })] ++ pinsAt fp s5.heap) σ' H' s' → tn (i + 1) s'.heap ∧ ∀ b ∈ fp, H' b = none := fun I => by
        refine ⟨T.keep _ _ _ st5 fun b hb o e => (I.pin (b, o) (List.mem_append_right _ (List.mem_append_right _ (mem_pinsAt hb e)))).1, fun b hb => ?_⟩
        obtain ⟨o, e, d⟩ := fpo b hb
        exact (I.pin (b, o) (List.mem_append_right _ (List.mem_append_right _ (mem_pinsAt hb e)))).2.1
      cases ok with
      | false =>
        obtain ⟨m', hm', w'⟩ := q7
        obtain ⟨k1, k2⟩ := keepFp I7
        exact ⟨m', hm', i + 1, os', H7, ys, its, k, hos', I7.unpinned, k1, k2, rv3, w'⟩
      | true =>
        rw [if_pos rfl]
        refine wpAny_mono (he _ _ _ _ _ s7 _ H7 _ I7 q7) (fun yv s8 ⟨y, H8, I8, r8, q8⟩ => ?_) fun _ _ z => False.elim z
        obtain ⟨m', hm', w'⟩ := q8
        obtain ⟨k1, k2⟩ := keepFp I8
        have I8' := I8.unpinned
        obtain ⟨hD8, hn8⟩ := pinD I8'
        have hil : its.length < sizeLine := by rw [← rv3.length]; exact hz
        refine call_meets F.slot_list_append ⟨_, hD8, rfl⟩ F.entry_list_append (F.args_list_append_2 _ _) (PySem.list_append _ its.toArray k yv (by rw [List.size_toArray]; omega)) ⟨hD8, ?_⟩
        have q : (s8.heap.update s2.heap.objs.size (Obj.mapSeq fun a => a.push yv)).get? s2.heap.objs.size = some { cls := .type "list", data := .seq (its ++ [yv]).toArray (if (its.toArray.push yv).size == its.toArray.size then k else k + 1) } := by
          have q0 := PySem.IsL.update hD8 (fun a : Array Value => a.push yv)
          have ea : its.toArray.push yv = (its ++ [yv]).toArray := by simp
          rw [← ea]
          exact q0
        refine ⟨m', hm', i + 1, os', H8, ys ++ [y], its ++ [yv], (if (its.toArray.push yv).size == its.toArray.size then k else k + 1), hos', ?_, T.keep _ _ _ k1 fun b hb o e => (Heap.get?_update_other s8.heap _ (below b (fplt b hb)).2.symm).trans e, k2, rv3.append (.cons r8 .nil), w'⟩
        have In : Inv (cxComp X scope N' G.objs.size s2 H2 fp) [] (os' ++ caps σ js) H8 s8 := I8'.pins_of fun p hp => absurd hp (by simp)
        have It : Inv (cxComp X scope N' G.objs.size s2 H2 fp) [] (os' ++ caps σ js) H8 { s8 with heap := s8.heap.update s2.heap.objs.size (Obj.mapSeq fun a => a.push yv) } :=
          In.turned (it := s2.heap.objs.size) (t' := s8.toks) (fun b o hb e => (Heap.get?_update_other s8.heap _ (Ne.symm hb)).trans e) hn8 hDC (.inr (Nat.le_refl _)) (fun x c e z => by
            obtain ⟨v, o, ho, hd⟩ := I8'.cell x c e
            rw [z, hD8] at ho
            cases ho
            cases hd) fun p hp => absurd hp (by simp [cxComp])
        refine It.pins_of fun p hp => ?_
        have hp' : p = (s2.heap.objs.size, { cls := .type "list", data := .seq (its ++ [yv]).toArray (if (its.toArray.push yv).size == its.toArray.size then k else k + 1) }) := List.mem_singleton.mp hp
        subst hp'
        exact ⟨q, hn8, hDC, (I8'.pin _ (List.mem_append_right _ (List.mem_singleton.mpr rfl))).2.2.2.1, fun v z => by cases z⟩
  exact codeAny_compStart_list (loop _ rfl) (T.self _ 0 _ _ _ (T.keep _ _ _ st2 fun b _ o e => old b o e) (loop _ rfl))
end L2

set_option Elab.async false
set_option linter.all false
set_option maxRecDepth 100000
namespace L2
open PySem PySem.Spec PyProof.Rows
section
variable {X : Cx}

/-! isinstance(x, T), T a built-in type -/
theorem call_isi : CallR X (.builtin "isinstance") (fun xs H Q => ∃ x n t b, xs = [x, .ty n] ∧ TyOf X.K H x t ∧ PySem.W.kitOne X.K t (.type n) = some b ∧ Q (.bl b) H) := by
  intro pins s σ H xs us Q I r h
  obtain ⟨x, n, t, b, rfl, ty, e, q⟩ := h
  obtain ⟨u, c, rfl, rx, rc⟩ := r.two
  cases (show c = Value.type n from rc)
  exact isinst_ok I rx ty e fun tk => ⟨.bl b, H, I.tok tk, rfl, q⟩

/-! `x is c`, c True or False -/

/-! all(xs), any(xs) of a list of truths -/

/-! texts: split, join, index, slices, int() -/
theorem strs_are : ∀ {ys : List Str} {us : List Value}, Vals (ys.map V.str) us → StrsAre us ys
  | [], _, .nil => .nil
  | y :: ys, _, .cons r t => by
    obtain ⟨k, rfl⟩ := r
    exact .cons y k (strs_are t)
def rJoin (K : PySem.W.Frag) : V → List V → Hp → VK → Prop := fun x vs H Q => ∃ z p ys, x = .str z ∧ vs = [.ref p] ∧ SqL K H p (ys.map V.str) ∧ (ys.map (·.length)).sum + ys.length * z.length ≤ 16777216 ∧ Q (.str (Txt.join z ys)) H
theorem mt_join : MtR X "str.join" (rJoin X.K) := by
  intro pins s σ H x vs v us Q I rx rv h
  obtain ⟨z, p, ys, rfl, rfl, hq, hz, q⟩ := h
  obtain ⟨t, rfl⟩ := rx
  obtain ⟨u, rfl, ru⟩ := rv.one
  cases ru
  obtain ⟨its, r, pl, _⟩ := I.list hq
  exact join_list pl.isList (strs_are r) hz fun t' k => ⟨.str _, H, I.tok k, ⟨t', rfl⟩, q⟩

/-! == and != of two lists of flat items -/
def eqL : List V → List V → Bool
  | [], [] => true
  | x :: xs, y :: ys => eqV x y && eqL xs ys
  | _, _ => false
theorem eqL_len : ∀ {xs ys : List V}, xs.length ≠ ys.length → eqL xs ys = false
  | [], [], h => absurd rfl h
  | [], _ :: _, _ => rfl
  | _ :: _, [], _ => rfl
  | x :: xs, y :: ys, h => by
    unfold eqL
    rw [eqL_len (fun e => h (by simp [e])), Bool.and_false]
theorem eqL_range : ∀ {xs ys : List V}, xs.length = ys.length → ((List.range xs.length).all fun j => eqV (xs.getD j .non) (ys.getD j .non)) = eqL xs ys
  | [], [], _ => rfl
  | [], _ :: _, h => by simp at h
  | _ :: _, [], h => by simp at h
  | x :: xs, y :: ys, h => by
    have ih := eqL_range (xs := xs) (ys := ys) (by simpa using h)
    unfold eqL
    rw [← ih, List.length_cons, List.range_succ_eq_map, List.all_cons, List.all_map]
    rfl
theorem eqAt_items {A : Around} {s : Shared} : ∀ {xs ys : List V} {us ws : List Value}, Vals xs us → Vals ys ws → xs.all flatV = true → ys.all flatV = true →
    ∀ j (h1 : j < us.toArray.size) (h2 : j < ws.toArray.size), SeqAt.EqAt A s us.toArray[j] ws.toArray[j] (eqV (xs.getD j .non) (ys.getD j .non))
  | _, _, _, _, .nil, _, _, _ => fun j h1 _ => by simp at h1
  | _, _, _, _, .cons _ _, .nil, _, _ => fun j _ h2 => by simp at h2
  | x :: xs, y :: ys, u :: us, w :: ws, .cons r t, .cons r' t', f, f' => fun j h1 h2 => by
    rw [List.all_cons, Bool.and_eq_true] at f f'
    cases j with
    | zero => exact eqAt_V r r' f.1 f'.1
    | succ j =>
      have := eqAt_items (A := A) (s := s) t t' f.2 f'.2 j (by simpa using h1) (by simpa using h2)
      simpa using this
def rEqL (K : PySem.W.Frag) (neg : Bool) : R2 := fun x y H Q => ∃ a b xs ys, x = .ref a ∧ y = .ref b ∧ SqL K H a xs ∧ SqL K H b ys ∧ xs.all flatV = true ∧ ys.all flatV = true ∧ Q (.bl (if neg then !eqL xs ys else eqL xs ys)) H
theorem op_neL (hu : X.A.units < cLine) : OpR X (compareOp .NotEq) (rEqL X.K true) := by
  intro pins s σ H x y v u Q I rx ry h
  obtain ⟨a, b, xs, ys, rfl, rfl, ha, hb, fx, fy, q⟩ := h
  cases rx
  cases ry
  obtain ⟨its, r1, p1, _⟩ := I.list ha
  obtain ⟨its2, r2, p2, _⟩ := I.list hb
  have l1 := r1.length
  have l2 := r2.length
  by_cases hl : xs.length = ys.length
  · refine EqBoolInt.of_rcne (SeqAt.RcNeAt.lists p1.isList p2.isList (by simp only [List.size_toArray]; omega) hu (eqAt_items r1 r2 fx fy)) ⟨.bl _, H, I, ?_, q⟩
    rw [List.size_toArray, ← l1, eqL_range hl]
    rfl
  · refine EqBoolInt.of_rcne (SeqAt.RcNeAt.lists_lengths p1.isList p2.isList (by simp only [List.size_toArray]; simp; omega) hu) ⟨.bl _, H, I, ?_, q⟩
    rw [eqL_len hl]
    rfl
theorem eqV_refl : ∀ {x : V}, flatV x = true → eqV x x = true
  | .non, _ => rfl
  | .bl b, _ => by cases b <;> rfl
  | .int i, _ => by show (i == i) = true; simp
  | .str x, _ => by show (x == x) = true; simp
end
end L2

set_option Elab.async false
set_option linter.all false
set_option maxRecDepth 100000
namespace L2
open PySem PySem.Spec PyProof.Rows

/-! a def of the text, and what is known of it -/
structure Def (K : PySem.W.Frag) (mg : Str → Option Value) (x : Str) (st : Stmt) (ps : List Str) : Prop where
  ex : ∃ f fd, Fun K x x st f fd ∧ mg x = some (.ref f) ∧ Binds K fd ps []
def Knows (P : Program) (w : World) (K : PySem.W.Frag) (mg : Str → Option Value) (base : Heap) (k : Nat) (x : Str) (ps : List Str) (sp : Sp) : Prop :=
  ∃ f fd, mg x = some (.ref f) ∧ PySem.W.keepIn K (.ref f) = true ∧ Binds K fd ps [] ∧ FnOk P w K mg base CX0 k f fd ps sp
section
variable {P : Program} {w : World} {K : PySem.W.Frag} {mg : Str → Option Value} {base : Heap}
/-- a def by its body: N its names, t the reading -/
theorem Def.ok {x : Str} {st : Stmt} {N ps : List Str} {k : Nat} {sp : Sp} (D : Def K mg x st ps) (S : FnScope N ps (defScope st)) (len : ∀ vs H Q E, sp vs H Q E → vs.length = ps.length)
    (hbody : ∀ (f : Addr) (cdv : Value) (A : Around) (outer : List Env) (s : Shared) (H : Hp) (vs : List V) (Q : VK) (E : XK), Room k (A.deeper (envOfC x (defScope st) s.heap.objs.size f cdv)) → sp vs H Q E →
      ∃ t, PSs (cxOf CX0 P w K mg base N x (defScope st) f cdv A outer s H E).nox (defBody st) t ∧ t { nx := fun _ H' => Q .non H', rt := Q } (start N vs) H) : Knows P w K mg base (k + 1) x ps sp := by
  obtain ⟨f, fd, F, hm, hb⟩ := D.ex
  exact ⟨f, fd, hm, F.kp, hb, F.ok S len fun cdv A outer s H vs Q E hr h => hbody f cdv A outer s H vs Q E hr h⟩
end
section
variable {X : Cx} {x : Str} {ps : List Str} {sp : Sp} {k : Nat} {e : Expr} {es : List Expr} {t : TA} {p pos : Pos}
theorem pe_callN (F : Knows X.prog X.w X.K X.mg X.base k x ps sp) (hr : Room k X.A) (ha : PA X (e :: es) t) (hg : Gl X x := by rfl) (hdb : (x == ("__debug__" : Str)) = false := by decide)
    (he : starEach (e :: es) X.env = (false, eval e X.env) :: starEach es X.env := by rfl) (hpl : (backTo pos (starEach es X.env)).any (·.1) = false := by rfl) : PE X (.Call (.Name x p) (e :: es) [] pos) (tCall sp [] E0 t) := by
  obtain ⟨f, fd, hm, hk, hb, F⟩ := F
  exact pe_call F hr hg hm hk hb .nil pass0 ha hdb he hpl
end

/-! built-in names -/
structure Bltn (mg : Str → Option Value) : Prop where
  isi : mg "isinstance" = none
  len : mg "len" = none
  all : mg "all" = none
  int : mg "int" = none
  bool : mg "bool" = none
  str : mg "str" = none
  list : mg "list" = none
  range : mg "range" = none
def rIsi (K : PySem.W.Frag) (n : String) : List V → Hp → VK → Prop := fun xs H Q => ∃ x t b, xs = [x, .ty n] ∧ TyOf K H x t ∧ PySem.W.kitOne K t (.type n) = some b ∧ Q (.bl b) H
section
variable {X : Cx} {a : Expr} {ta : TE} {p pos p2 : Pos}
theorem call_isiN (n : String) : CallR X (.builtin "isinstance") (rIsi X.K n) := by
  intro pins s σ H xs us Q I r h
  obtain ⟨x, t, b, rfl, ty, e, q⟩ := h
  exact call_isi pins s σ H _ us Q I r ⟨x, n, t, b, rfl, ty, e, q⟩
theorem pe_isi {T : Str} {n : String} (h : X.mg "isinstance" = none) (hT : X.mg T = none) (hv : bootBuiltins T = some (.type n)) (ha : PE X a ta) (hg : Gl X "isinstance" := by rfl) (hg2 : Gl X T := by rfl)
    (hn : T ≠ "__name__" := by decide) (hd : (T == ("__debug__" : Str)) = false := by decide)
    (he : starEach [a, .Name T p2] X.env = (false, eval a X.env) :: starEach [.Name T p2] X.env := by rfl) (he2 : starEach [.Name T p2] X.env = (false, eval (.Name T p2) X.env) :: starEach [] X.env := by rfl) (hpl : (backTo pos (starEach [.Name T p2] X.env)).any (·.1) = false := by rfl) :
    PE X (.Call (.Name "isinstance" p) [a, .Name T p2] [] pos) (tCB (rIsi X.K n) (tCons ta (tCons (tC (.ty n)) tNil))) :=
  pe_callB (call_isiN n) hg h boot_isinstance (pa_cons ha (pa_cons (pe_bltn (v := .ty n) hg2 hT hv rfl hn hd) pa_nil he2) he) (by decide) (by decide) he hpl
end
/-- a built-in type's kinds -/
def isI : V → Bool
  | .int _ => true
  | _ => false
def isIB : V → Bool
  | .int _ => true
  | .bl _ => true
  | _ => false
def isBl : V → Bool
  | .bl _ => true
  | _ => false
theorem isiI {K : PySem.W.Frag} {H : Hp} {x : V} {m : String} (ty : TyOf K H x (.type m)) : PySem.W.kitOne K (.type m) (.type "int") = some (isIB x) := by
  cases ty <;> kernel_rfl
theorem isiB {K : PySem.W.Frag} {H : Hp} {x : V} {m : String} (ty : TyOf K H x (.type m)) : PySem.W.kitOne K (.type m) (.type "bool") = some (isBl x) := by
  cases ty <;> kernel_rfl
/-! a comprehension of one own name -/
theorem pe_comp1 {X : Cx} {elt iter : Expr} {x : Str} {px pos : Pos} {ifs : List Expr} {scope : Scope} {wi : TI} {tc : TT} {te : TE} (js : List Nat) (N' : List Str) (hc : X.calm = true)
    (hi : PI X (.Name x px) iter wi)
    (ht : ∀ C s₀ H₀ ex, PTs (cxComp X scope N' C s₀ H₀ ex) ifs tc)
    (he : ∀ C s₀ H₀ ex, PE (cxComp X scope N' C s₀ H₀ ex) elt te)
    (nd : N'.Nodup := by decide +kernel)
    (hx : scope.names.lookup x = some .local := by rfl)
    (hN' : N' = [x] ++ js.map fun j => X.N.getD j Str.empty := by rfl)
    (hk : scope.kind = .function := by rfl)
    (hcell : ∀ y ∈ scope.names, y.2 ≠ .cell := by decide +kernel)
    (hnames : ∀ y ∈ scope.names, y.2 = .local → scope.names.lookup y.1 = some .local := by decide +kernel)
    (hfr : (scope.names.all fun y => y.2 != .free || X.env.scope.names.lookup y.1 == some .cell) = true := by rfl)
    (hjs : (js.all fun j => scope.names.lookup (X.N.getD j Str.empty) == some .free && (X.N[j]?).isSome) = true := by rfl)
    (hs : ∀ z, foldedSetIterable iter X.env z = pure z := by intro _; rfl) :
    PE X (.ListComp elt [⟨.Name x px, iter, ifs, 0⟩] scope pos) (tComp 1 js wi (gName 0) tc te) :=
  pe_comp [x] js N' hc hi (fun C s₀ H₀ ex => pg_name (X := cxComp X scope N' C s₀ H₀ ex) (i := 0) nd (by show N'[0]? = some x; rw [hN']; rfl) (Or.inl (lookup_relabel_local hx)) (.inr (lookup_relabel_local hx))) ht he hN' hk hcell hnames hfr hjs hs
/-! over a known row -/
theorem comp1_wk {js : List Nat} {J : It} {xs : List V} {Pp : Hp → Prop} {σ : St} {H1 : Hp} {tc : TT} {te : TE} {Q : VK} (wk : Wk J xs Pp) (Pv : Nat → List V → Hp → Prop) (h0 : Pv 0 [] H1) (hP : ∀ i ys H, i ≤ xs.length → Pv i ys H → Pp H ∧ ys.length ≤ i) (hsz : xs.length ≤ sizeLine)
    (hs : ∀ i x ys H (Nx : List V → Hp → Prop), xs[i]? = some x → Pv i ys H → (∀ ys' H', Pv (i + 1) ys' H' → Nx ys' H') → tc (some x :: caps σ js) H fun b H3 => if b = true then te (some x :: caps σ js) H3 fun y H4 => Nx (ys ++ [y]) H4 else Nx ys H3)
    (hd : ∀ ys H, Pv xs.length ys H → ∀ D, H D = none → Q (.ref D) (upd H D (.lst ys))) :
    tCompB 1 js (gName 0) tc te σ Q J H1 := by
  refine ⟨fun i m ys H => m = xs.length - i ∧ i ≤ xs.length ∧ Pv i ys H, ⟨xs.length, by simp, Nat.zero_le _, h0⟩, ?_⟩
  rintro i m ys H ⟨rfl, hi, p⟩
  obtain ⟨q, hl⟩ := hP i ys H hi p
  by_cases hlt : i < xs.length
  · refine .inr ⟨wk.go i H hlt q, by omega, fun x H' y os hos => ?_⟩
    obtain ⟨e, y2⟩ := wk.yld i H x H' q y
    subst e
    match os, hos with
    | [v0], _ =>
      exact ⟨⟨[some x], rfl, rfl⟩, hs i x ys _ (fun ys' H' => ∃ m', m' < xs.length - i ∧ m' = xs.length - (i + 1) ∧ i + 1 ≤ xs.length ∧ Pv (i + 1) ys' H') (y2 hlt) p fun ys' H' p' => ⟨xs.length - (i + 1), by omega, rfl, hlt, p'⟩⟩
  · have e : i = xs.length := by omega
    subst e
    exact .inl ⟨wk.stop H q, by omega, hd ys H p⟩
/-! an expression's value by what is true of it, then the rest -/
theorem tTrue_use {σ : St} {H : Hp} {A B : Hp → Prop} (h : A H) : tTrue σ H fun b H3 => if b = true then A H3 else B H3 := by
  show if true = true then A H else B H
  exact iteT h
end L2

set_option Elab.async false
set_option linter.all false
set_option maxRecDepth 100000
namespace L2
open PySem PySem.Spec PyProof.Rows
/-! no starred argument: told once -/
def notStar : Expr → Bool
  | .Starred _ _ => false
  | _ => true
theorem star_cons {e : Expr} {es : List Expr} {env : Env} (h : notStar e = true) : starEach (e :: es) env = (false, eval e env) :: starEach es env := by
  cases e <;> first | rfl | (exact absurd (show false = true from h) Bool.false_ne_true)
theorem star_none {pos : Pos} {env : Env} : ∀ {es : List Expr}, es.all notStar = true → (backTo pos (starEach es env)).any (·.1) = false
  | [], _ => rfl
  | e :: es, h => by
    rw [List.all_cons, Bool.and_eq_true] at h
    rw [star_cons h.1]
    show (false || (backTo pos (starEach es env)).any (·.1)) = false
    rw [star_none h.2]
    rfl
section
variable {X : Cx} {x : Str} {ps : List Str} {sp : Sp} {j k : Nat} {e : Expr} {es : List Expr} {te : TE} {t : TA} {p pos : Pos} {id T : String} {r : List V → Hp → VK → Prop}
theorem pa_c (ha : PE X e te) (hr : PA X es t) (hn : notStar e = true := by rfl) : PA X (e :: es) (tCons te t) := pa_cons ha hr (star_cons hn)
theorem pe_callM (F : Knows X.prog X.w X.K X.mg X.base j x ps sp) (hr : Room k X.A) (ha : PA X (e :: es) t) (hjk : j ≤ k := by decide) (hg : Gl X x := by rfl) (hdb : (x == ("__debug__" : Str)) = false := by decide)
    (he : notStar e = true := by rfl) (hpl : es.all notStar = true := by rfl) : PE X (.Call (.Name x p) (e :: es) [] pos) (tCall sp [] E0 t) :=
  pe_callN F (hr.mono hjk) ha hg hdb (star_cons he) (star_none hpl)
theorem pe_bcall (hc : CallR X (.builtin id) r) (hg : Gl X x) (hm : X.mg x = none) (hv : bootBuiltins x = some (.builtin id)) (ha : PA X (e :: es) t) (hn : x ≠ "__name__" := by decide) (hdb : (x == ("__debug__" : Str)) = false := by decide)
    (he : notStar e = true := by rfl) (hpl : es.all notStar = true := by rfl) : PE X (.Call (.Name x p) (e :: es) [] pos) (tCB r t) := pe_callB hc hg hm hv ha hn hdb (star_cons he) (star_none hpl)
theorem pe_tcall (hc : CallR X (.type T) r) (hg : Gl X x) (hm : X.mg x = none) (hv : bootBuiltins x = some (.type T)) (ha : PA X (e :: es) t) (hn : x ≠ "__name__" := by decide) (hdb : (x == ("__debug__" : Str)) = false := by decide)
    (he : notStar e = true := by rfl) (hpl : es.all notStar = true := by rfl) : PE X (.Call (.Name x p) (e :: es) [] pos) (tCB r t) := pe_callTy hc hg hm hv ha hn hdb (star_cons he) (star_none hpl)
end
section
variable {X : Cx} {o e : Expr} {es : List Expr} {to : TE} {t : TA} {name : Str} {apos cpos : Pos} {T id : String} {r : V → List V → Hp → VK → Prop}
theorem star_few {pos : Pos} {env : Env} : ∀ {es : List Expr}, es.all notStar = true → (backTo pos (starEach es env)).all (fun x => !x.1) = true
  | [], _ => rfl
  | e :: es, h => by
    rw [List.all_cons, Bool.and_eq_true] at h
    rw [star_cons h.1]
    show (true && (backTo pos (starEach es env)).all (fun x => !x.1)) = true
    rw [star_few h.2]
    rfl
theorem pe_mcall (pa : PlainAttrs T) (slot : Slot T name id) (hty : typeOf (.builtin id) = pure (.type "method_descriptor")) (hm : MtR X id r) (ho : PE X o to) (ha : PA X (e :: es) t)
    (hbase : attributeBase o name X.env (eval o X.env) = eval o X.env := by rfl) (he : notStar e = true := by rfl) (hpl : es.all notStar = true := by rfl) (hlen : (e :: es).length < 30 := by decide)
    (hline : (apos.endLine == cpos.line) = true := by rfl) : PE X (.Call (.Attribute o name apos) (e :: es) [] cpos) (tBM X.K T r to t) := by
  refine pe_bm pa slot hty hm ho ha hbase ?_ hline (star_cons he) (star_none hpl)
  rw [star_few (by rw [List.all_cons, he, hpl]; rfl)]
  show (true && true && decide ((e :: es).length + 0 + 0 < 30)) = true
  rw [decide_eq_true (by omega)]
  rfl
end
section
variable {X : Cx} {a : Expr} {ta : TE} {p pos p2 : Pos}
end
theorem Same.upd {H H1 : Hp} {p : Addr} {o : HO} (s : Same H H1) (h : H p = none) : Same H (L2.upd H1 p o) := fun b u e => by
  rw [upd_ne (ne_of_none e h)]; exact s b u e
theorem Same.new {H H1 : Hp} {p : Addr} {o : HO} (s : Same H H1) (h : H1 p = none) : Same H (L2.upd H1 p o) := s.upd (s.free h)
theorem atI_mem {α : Type} {xs : List α} {i : Int} (h0 : 0 ≤ i) (h1 : i < xs.length) : ∃ v, atI xs i = some v ∧ v ∈ xs ∧ xs[i.toNat]? = some v := by
  have hj : i.toNat < xs.length := by omega
  refine ⟨xs[i.toNat], ?_, List.getElem_mem hj, by simp [hj]⟩
  have h := atI_nat (xs := xs) (j := i.toNat) (v := xs[i.toNat]) (by simp [hj])
  rwa [show ((i.toNat : Nat) : Int) = i by omega] at h
theorem ite_b {c : Bool} {A B : Prop} (h1 : c = true → A) (h2 : c = false → B) : if c = true then A else B := by
  cases c
  · exact iteF (h2 rfl)
  · exact iteT (h1 rfl)
theorem if_use {c : TT} {t u r : TS} {D : Ends} {σ : St} {H : Hp} (Post : Bool → Hp → Prop) (hc : ∀ Q', (∀ b H', Post b H' → Q' b H') → c σ H Q') (kt : ∀ H', Post true H' → t { D with nx := r D } σ H') (kf : ∀ H', Post false H' → u { D with nx := r D } σ H') : tSeq (tIfS c t u) r D σ H := hc _ fun b H' p => by
  cases b
  · exact iteF (kf H' p)
  · exact iteT (kt H' p)
theorem seq_use {te : TE} {g : TG} {u : TS} {D : Ends} {σ : St} {H : Hp} (Post : V → Hp → Prop) (hg : ∀ Q', (∀ v H', Post v H' → Q' v H') → te σ H Q') (k : ∀ v H', Post v H' → g v σ H' (u D)) : tSeq (tAsg te g) u D σ H := hg _ k
end L2

set_option Elab.async false
set_option linter.all false
set_option maxRecDepth 100000
namespace L2
open PySem PySem.Spec PyProof.Rows

/-! data: flat values, lists and tuples of data, as trees -/
inductive D where
  | a (v : V)
  | l (xs : List D)
  | t (xs : List D)
mutual
inductive Rep (K : PySem.W.Frag) (H : Hp) : V → D → Prop
  | a {v : V} (f : flatV v = true) : Rep K H v (.a v)
  | l {p : Addr} {vs : List V} {ds : List D} (h : SqL K H p vs) (r : Reps K H vs ds) : Rep K H (.ref p) (.l ds)
  | t {p : Addr} {vs : List V} {ds : List D} (h : SqT K H p vs) (r : Reps K H vs ds) : Rep K H (.ref p) (.t ds)
inductive Reps (K : PySem.W.Frag) (H : Hp) : List V → List D → Prop
  | nil : Reps K H [] []
  | cons {v : V} {d : D} {vs : List V} {ds : List D} (r : Rep K H v d) (rs : Reps K H vs ds) : Reps K H (v :: vs) (d :: ds)
end
mutual
def eqD : D → D → Bool
  | .a v, .a w => eqV v w
  | .l xs, .l ys => eqDs xs ys
  | .t xs, .t ys => eqDs xs ys
  | _, _ => false
def eqDs : List D → List D → Bool
  | [], [] => true
  | x :: xs, y :: ys => eqD x y && eqDs xs ys
  | _, _ => false
end
mutual
def depD : D → Nat
  | .a _ => 0
  | .l xs => depDs xs + 1
  | .t xs => depDs xs + 1
def depDs : List D → Nat
  | [] => 0
  | x :: xs => max (depD x) (depDs xs)
end
mutual
def flatD : D → Bool
  | .a v => flatV v
  | .l xs => flatDs xs
  | .t xs => flatDs xs
def flatDs : List D → Bool
  | [] => true
  | x :: xs => flatD x && flatDs xs
end
mutual
theorem eqD_refl : ∀ d : D, flatD d = true → eqD d d = true
  | .a v, h => by
    unfold eqD
    exact eqV_refl (by unfold flatD at h; exact h)
  | .l xs, h => by
    unfold eqD
    exact eqDs_refl xs (by unfold flatD at h; exact h)
  | .t xs, h => by
    unfold eqD
    exact eqDs_refl xs (by unfold flatD at h; exact h)
theorem eqDs_refl : ∀ ds : List D, flatDs ds = true → eqDs ds ds = true
  | [], _ => by unfold eqDs; rfl
  | d :: ds, h => by
    unfold flatDs at h
    rw [Bool.and_eq_true] at h
    unfold eqDs
    rw [eqD_refl d h.1, eqDs_refl ds h.2]
    rfl
end
theorem Reps.len {K : PySem.W.Frag} {H : Hp} : ∀ {vs : List V} {ds : List D}, Reps K H vs ds → vs.length = ds.length
  | _, _, .nil => rfl
  | _, _, .cons _ t => by rw [List.length_cons, List.length_cons, t.len]
mutual
theorem Rep.flat {K : PySem.W.Frag} {H : Hp} : ∀ {v : V} {d : D}, Rep K H v d → flatD d = true
  | _, _, .a f => by unfold flatD; exact f
  | _, _, .l _ r => by unfold flatD; exact r.flat
  | _, _, .t _ r => by unfold flatD; exact r.flat
theorem Reps.flat {K : PySem.W.Frag} {H : Hp} : ∀ {vs : List V} {ds : List D}, Reps K H vs ds → flatDs ds = true
  | _, _, .nil => by unfold flatDs; rfl
  | _, _, .cons r t => by
    unfold flatDs
    rw [r.flat, t.flat]
    rfl
end
theorem depDs_mem : ∀ {ds : List D} {d : D}, d ∈ ds → depD d ≤ depDs ds
  | d :: ds, e, h => by
    unfold depDs
    rcases List.mem_cons.mp h with rfl | h
    · exact Nat.le_max_left _ _
    · exact Nat.le_trans (depDs_mem h) (Nat.le_max_right _ _)
theorem eqDs_len : ∀ {xs ys : List D}, xs.length ≠ ys.length → eqDs xs ys = false
  | [], [], h => absurd rfl h
  | [], _ :: _, _ => by unfold eqDs; rfl
  | _ :: _, [], _ => by unfold eqDs; rfl
  | x :: xs, y :: ys, h => by
    unfold eqDs
    rw [eqDs_len (fun e => h (by simp [e])), Bool.and_false]
theorem eqDs_range : ∀ {xs ys : List D}, xs.length = ys.length → ((List.range xs.length).all fun j => eqD (xs.getD j (.l [])) (ys.getD j (.l []))) = eqDs xs ys
  | [], [], _ => by unfold eqDs; rfl
  | [], _ :: _, h => by simp at h
  | _ :: _, [], h => by simp at h
  | x :: xs, y :: ys, h => by
    have ih := eqDs_range (xs := xs) (ys := ys) (by simpa using h)
    unfold eqDs
    rw [← ih, List.length_cons, List.range_succ_eq_map, List.all_cons, List.all_map]
    rfl
section
variable {X : Cx} {pins : List (Addr × Obj)} {σ : St} {H : Hp} {s : Shared}
theorem SqL.notT (I : Inv X pins σ H s) {p : Addr} {xs ys : List V} (h : SqL X.K H p xs) (h' : SqT X.K H p ys) : False := by
  obtain ⟨_, _, pl, _⟩ := I.list h
  obtain ⟨_, _, pt, _⟩ := I.tuple h'
  exact SeqAt.ne_of_list_tuple pl.isList pt rfl
mutual
theorem Rep.inj (I : Inv X pins σ H s) : ∀ {v : V} {d e : D}, Rep X.K H v d → Rep X.K H v e → d = e
  | _, _, _, .a f, .a _ => rfl
  | _, _, _, .a f, .l _ _ => absurd (show false = true from f) Bool.false_ne_true
  | _, _, _, .a f, .t _ _ => absurd (show false = true from f) Bool.false_ne_true
  | _, _, _, .l _ _, .a f => absurd (show false = true from f) Bool.false_ne_true
  | _, _, _, .t _ _, .a f => absurd (show false = true from f) Bool.false_ne_true
  | _, _, _, .l h r, .l h' r' => by
    have e := I.list_inj h h'
    subst e
    rw [Reps.inj I r r']
  | _, _, _, .t h r, .t h' r' => by
    have e := I.tuple_inj h h'
    subst e
    rw [Reps.inj I r r']
  | _, _, _, .l h _, .t h' _ => (SqL.notT I h h').elim
  | _, _, _, .t h _, .l h' _ => (SqL.notT I h' h).elim
theorem Reps.inj (I : Inv X pins σ H s) : ∀ {vs : List V} {ds es : List D}, Reps X.K H vs ds → Reps X.K H vs es → ds = es
  | _, _, _, .nil, .nil => rfl
  | _, _, _, .cons r t, .cons r' t' => by rw [Rep.inj I r r', Reps.inj I t t']
end
theorem rc_flat {A : Around} {y x : V} {u v : Value} (ry : RelV y u) (rx : RelV x v) (fy : flatV y = true) (fx : flatV x = true) : SeqAt.RcAt A s u v (eqV y x) := by
  cases y with
  | non =>
    cases ry
    cases x with
    | non => cases rx; exact SeqAt.RcAt.none_none
    | bl b => cases rx; exact SeqAt.RcAt.none_bool b
    | int b => obtain ⟨t, rfl⟩ := rx; exact SeqAt.RcAt.none_int b t
    | str b => obtain ⟨t, rfl⟩ := rx; exact SeqAt.RcAt.none_str b t
    | _ => exact absurd (show false = true from fx) Bool.false_ne_true
  | bl c =>
    cases ry
    cases x with
    | non => cases rx; exact SeqAt.RcAt.bool_none c
    | bl b => cases rx; exact SeqAt.RcAt.bool_bool c b
    | int b => obtain ⟨t, rfl⟩ := rx; exact SeqAt.RcAt.bool_int c b t
    | str b => obtain ⟨t, rfl⟩ := rx; exact SeqAt.RcAt.bool_str c b t
    | _ => exact absurd (show false = true from fx) Bool.false_ne_true
  | int c =>
    obtain ⟨t', rfl⟩ := ry
    cases x with
    | non => cases rx; exact SeqAt.RcAt.int_none c t'
    | bl b => cases rx; exact SeqAt.RcAt.int_bool c t' b
    | int b => obtain ⟨t, rfl⟩ := rx; exact SeqAt.RcAt.int_int c t' b t
    | str b => obtain ⟨t, rfl⟩ := rx; exact SeqAt.RcAt.int_str c t' b t
    | _ => exact absurd (show false = true from fx) Bool.false_ne_true
  | str c =>
    obtain ⟨t', rfl⟩ := ry
    cases x with
    | non => cases rx; exact SeqAt.RcAt.str_none c t'
    | bl b => cases rx; exact SeqAt.RcAt.str_bool c t' b
    | int b => obtain ⟨t, rfl⟩ := rx; exact SeqAt.RcAt.str_int c t' b t
    | str b => obtain ⟨t, rfl⟩ := rx; exact SeqAt.RcAt.str_str c t' b t
    | _ => exact absurd (show false = true from fx) Bool.false_ne_true
  | _ => exact absurd (show false = true from fy) Bool.false_ne_true
end
end L2
namespace L2
open PySem PySem.Spec PyProof.Rows
section
variable {X : Cx} {pins : List (Addr × Obj)} {σ : St} {H : Hp} {s : Shared} {A : Around} {x : V} {u : Value} {p : Addr} {items : Array Value}
theorem eqAt_fl (f : flatV x = true) (r : RelV x u) (hl : s.heap.IsList p items) (hu : A.units < cLine) : SeqAt.EqAt A s u (.ref p) false := by
  cases x with
  | non => cases r; exact .none_list hl hu
  | bl b => cases r; exact .bool_list b hl hu
  | int b => obtain ⟨t, rfl⟩ := r; exact .int_list b t hl hu
  | str b => obtain ⟨t, rfl⟩ := r; exact .str_list b t hl hu
  | _ => exact absurd (show false = true from f) Bool.false_ne_true
theorem eqAt_lf (f : flatV x = true) (r : RelV x u) (hl : s.heap.IsList p items) (hu : A.units < cLine) : SeqAt.EqAt A s (.ref p) u false := by
  cases x with
  | non => cases r; exact .list_none hl hu
  | bl b => cases r; exact .list_bool b hl hu
  | int b => obtain ⟨t, rfl⟩ := r; exact .list_int b t hl hu
  | str b => obtain ⟨t, rfl⟩ := r; exact .list_str b t hl hu
  | _ => exact absurd (show false = true from f) Bool.false_ne_true
theorem eqAt_ft (f : flatV x = true) (r : RelV x u) (hl : s.heap.IsTuple p items) (hu : A.units < cLine) : SeqAt.EqAt A s u (.ref p) false := by
  cases x with
  | non => cases r; exact .none_tuple hl hu
  | bl b => cases r; exact .bool_tuple b hl hu
  | int b => obtain ⟨t, rfl⟩ := r; exact .int_tuple b t hl hu
  | str b => obtain ⟨t, rfl⟩ := r; exact .str_tuple b t hl hu
  | _ => exact absurd (show false = true from f) Bool.false_ne_true
theorem eqAt_tf (f : flatV x = true) (r : RelV x u) (hl : s.heap.IsTuple p items) (hu : A.units < cLine) : SeqAt.EqAt A s (.ref p) u false := by
  cases x with
  | non => cases r; exact .tuple_none hl hu
  | bl b => cases r; exact .tuple_bool b hl hu
  | int b => obtain ⟨t, rfl⟩ := r; exact .tuple_int b t hl hu
  | str b => obtain ⟨t, rfl⟩ := r; exact .tuple_str b t hl hu
  | _ => exact absurd (show false = true from f) Bool.false_ne_true
theorem rc_fl (f : flatV x = true) (r : RelV x u) (hl : s.heap.IsList p items) (hu : A.units < cLine) : SeqAt.RcAt A s u (.ref p) false := by
  cases x with
  | non => cases r; exact .none_list hl hu
  | bl b => cases r; exact .bool_list b hl hu
  | int b => obtain ⟨t, rfl⟩ := r; exact .int_list b t hl hu
  | str b => obtain ⟨t, rfl⟩ := r; exact .str_list b t hl hu
  | _ => exact absurd (show false = true from f) Bool.false_ne_true
theorem rc_lf (f : flatV x = true) (r : RelV x u) (hl : s.heap.IsList p items) (hu : A.units < cLine) : SeqAt.RcAt A s (.ref p) u false := by
  cases x with
  | non => cases r; exact .list_none hl hu
  | bl b => cases r; exact .list_bool b hl hu
  | int b => obtain ⟨t, rfl⟩ := r; exact .list_int b t hl hu
  | str b => obtain ⟨t, rfl⟩ := r; exact .list_str b t hl hu
  | _ => exact absurd (show false = true from f) Bool.false_ne_true
theorem rc_ft (f : flatV x = true) (r : RelV x u) (hl : s.heap.IsTuple p items) (hu : A.units < cLine) : SeqAt.RcAt A s u (.ref p) false := by
  cases x with
  | non => cases r; exact .none_tuple hl hu
  | bl b => cases r; exact .bool_tuple b hl hu
  | int b => obtain ⟨t, rfl⟩ := r; exact .int_tuple b t hl hu
  | str b => obtain ⟨t, rfl⟩ := r; exact .str_tuple b t hl hu
  | _ => exact absurd (show false = true from f) Bool.false_ne_true
theorem rc_tf (f : flatV x = true) (r : RelV x u) (hl : s.heap.IsTuple p items) (hu : A.units < cLine) : SeqAt.RcAt A s (.ref p) u false := by
  cases x with
  | non => cases r; exact .tuple_none hl hu
  | bl b => cases r; exact .tuple_bool b hl hu
  | int b => obtain ⟨t, rfl⟩ := r; exact .tuple_int b t hl hu
  | str b => obtain ⟨t, rfl⟩ := r; exact .tuple_str b t hl hu
  | _ => exact absurd (show false = true from f) Bool.false_ne_true
theorem getD_rep {K : PySem.W.Frag} : ∀ {vs : List V} {us : List Value} {ds : List D} (j : Nat) (h1 : j < us.toArray.size), Vals vs us → Reps K H vs ds → ∃ v, RelV v us.toArray[j] ∧ Rep K H v (ds.getD j (.l [])) ∧ (ds.getD j (.l [])) ∈ ds
  | _, _, _, j, h1, .nil, _ => by simp at h1
  | _, _, _, 0, _, .cons r _, .cons q _ => ⟨_, r, q, by simp⟩
  | v :: vs, u :: us, d :: ds, j + 1, h1, .cons _ t, .cons _ t' => by
    obtain ⟨v, a, b, c⟩ := getD_rep j (by simpa using h1) t t'
    exact ⟨v, by simpa using a, by simpa using b, List.mem_cons_of_mem _ (by simpa using c)⟩
/-- == by RcAt, of data no deeper than n -/
theorem eqD_at (I : Inv X pins σ H s) : ∀ (n : Nat) {A : Around} {d e : D} {x y : V} {u w : Value}, depD d ≤ n → A.units + n < cLine → Rep X.K H x d → Rep X.K H y e → RelV x u → RelV y w → SeqAt.RcAt A s u w (eqD d e) ∧ SeqAt.EqAt A s u w (eqD d e) := by
  intro n
  induction n with
  | zero =>
    intro A d e x y u w hd hu rx ry ru rw
    have hu' : A.units < cLine := by omega
    cases rx with
    | a f =>
      cases ry with
      | a f' => unfold eqD; exact ⟨rc_flat ru rw f f', eqAt_V ru rw f f'⟩
      | l h r => cases rw; obtain ⟨_, _, pl, _⟩ := I.list h; unfold eqD; exact ⟨rc_fl f ru pl.isList hu', eqAt_fl f ru pl.isList hu'⟩
      | t h r => cases rw; obtain ⟨_, _, pl, _⟩ := I.tuple h; unfold eqD; exact ⟨rc_ft f ru pl hu', eqAt_ft f ru pl hu'⟩
    | l h r => unfold depD at hd; omega
    | t h r => unfold depD at hd; omega
  | succ n ih =>
    intro A d e x y u w hd hu rx ry ru rw
    have hu' : A.units < cLine := by omega
    have hin : A.in1.units + n < cLine := by show A.units + 1 + n < cLine; omega
    cases rx with
    | a f =>
      cases ry with
      | a f' => unfold eqD; exact ⟨rc_flat ru rw f f', eqAt_V ru rw f f'⟩
      | l h r => cases rw; obtain ⟨_, _, pl, _⟩ := I.list h; unfold eqD; exact ⟨rc_fl f ru pl.isList hu', eqAt_fl f ru pl.isList hu'⟩
      | t h r => cases rw; obtain ⟨_, _, pl, _⟩ := I.tuple h; unfold eqD; exact ⟨rc_ft f ru pl hu', eqAt_ft f ru pl hu'⟩
    | @l p vs ds h r =>
      cases ru
      obtain ⟨its, rv, pl, _⟩ := I.list h
      cases ry with
      | a f' => unfold eqD; exact ⟨rc_lf f' rw pl.isList hu', eqAt_lf f' rw pl.isList hu'⟩
      | @t p' vs' ds' h' r' =>
        cases rw
        obtain ⟨its', rv', pt, _⟩ := I.tuple h'
        unfold eqD
        exact ⟨.list_tuple pl.isList pt hu', .list_tuple pl.isList pt hu'⟩
      | @l p' vs' ds' h' r' =>
        cases rw
        obtain ⟨its', rv', pl', _⟩ := I.list h'
        have e1 := rv.length
        have e2 := rv'.length
        have e3 := r.len
        have e4 := r'.len
        have rc : SeqAt.RcAt A s (.ref p) (.ref p') (eqD (.l ds) (.l ds')) := by
          unfold eqD
          by_cases hl : ds.length = ds'.length
          · have := SeqAt.RcAt.lists (A := A) (e := fun j => eqD (ds.getD j (.l [])) (ds'.getD j (.l []))) pl.isList pl'.isList (by simp only [List.size_toArray]; omega) hu' (fun j h1 h2 => by
              obtain ⟨v1, a1, b1, c1⟩ := getD_rep j h1 rv r
              obtain ⟨v2, a2, b2, c2⟩ := getD_rep j h2 rv' r'
              have hdj : depD (ds.getD j (.l [])) ≤ n := Nat.le_trans (depDs_mem c1) (by unfold depD at hd; omega)
              exact (ih hdj hin b1 b2 a1 a2).2)
            rw [List.size_toArray, ← e1, e3, eqDs_range hl] at this
            exact this
          · rw [eqDs_len hl]
            exact .lists_lengths pl.isList pl'.isList (by simp only [List.size_toArray]; simp; omega) hu'
        refine ⟨rc, ?_⟩
        by_cases hp : p = p'
        · subst hp
          have e5 := I.list_inj h h'
          subst e5
          have e6 := Reps.inj I r r'
          subst e6
          rw [eqD_refl _ (by unfold flatD; exact r.flat)]
          exact .same _
        · exact .of_refs hp rc
    | @t p vs ds h r =>
      cases ru
      obtain ⟨its, rv, pl, _⟩ := I.tuple h
      cases ry with
      | a f' => unfold eqD; exact ⟨rc_tf f' rw pl hu', eqAt_tf f' rw pl hu'⟩
      | @l p' vs' ds' h' r' =>
        cases rw
        obtain ⟨its', rv', pl', _⟩ := I.list h'
        unfold eqD
        exact ⟨.tuple_list pl pl'.isList hu', .tuple_list pl pl'.isList hu'⟩
      | @t p' vs' ds' h' r' =>
        cases rw
        obtain ⟨its', rv', pl', _⟩ := I.tuple h'
        have e1 := rv.length
        have e2 := rv'.length
        have e3 := r.len
        have e4 := r'.len
        have rc : SeqAt.RcAt A s (.ref p) (.ref p') (eqD (.t ds) (.t ds')) := by
          unfold eqD
          have := SeqAt.RcAt.tuples (A := A) (e := fun j => eqD (ds.getD j (.l [])) (ds'.getD j (.l []))) pl pl' hu' (fun j h1 h2 => by
              obtain ⟨v1, a1, b1, c1⟩ := getD_rep j h1 rv r
              obtain ⟨v2, a2, b2, c2⟩ := getD_rep j h2 rv' r'
              have hdj : depD (ds.getD j (.l [])) ≤ n := Nat.le_trans (depDs_mem c1) (by unfold depD at hd; omega)
              exact (ih hdj hin b1 b2 a1 a2).2)
          by_cases hl : ds.length = ds'.length
          · have em : min its.toArray.size its'.toArray.size = ds.length := by simp only [List.size_toArray]; omega
            have eb : (its.toArray.size == its'.toArray.size) = true := by simp only [List.size_toArray]; simp; omega
            rw [em, eb, Bool.and_true, eqDs_range hl] at this
            exact this
          · have eb : (its.toArray.size == its'.toArray.size) = false := by simp only [List.size_toArray]; simp; omega
            rw [eb, Bool.and_false] at this
            rw [eqDs_len hl]
            exact this
        refine ⟨rc, ?_⟩
        by_cases hp : p = p'
        · subst hp
          have e5 := I.tuple_inj h h'
          subst e5
          have e6 := Reps.inj I r r'
          subst e6
          rw [eqD_refl _ (by unfold flatD; exact r.flat)]
          exact .same _
        · exact .of_refs hp rc
end
end L2

set_option Elab.async false
set_option linter.all false
set_option maxRecDepth 100000
set_option maxHeartbeats 2000000
namespace L2
open PySem
/-! ### a run has one end -/
end L2

set_option Elab.async false
set_option linter.all false
set_option maxRecDepth 100000
namespace L2
open PySem
end L2

set_option Elab.async false
set_option linter.all false
set_option maxRecDepth 100000
namespace L2
open PySem
/-! ### what leaves an exception's context as it is -/
/-- the record at a has None as its third field, and no dict -/
def Ctx0 (a : Addr) (h : Heap) : Prop := ∃ o fs, h.get? a = some o ∧ o.data = .fields fs ∧ fs[2]? = some Value.none ∧ o.dict = none
def F2 (f : Obj → Obj) : Prop := ∀ o fs, o.data = .fields fs → fs[2]? = some Value.none → ∃ fs', (f o).data = .fields fs' ∧ fs'[2]? = some Value.none ∧ (f o).dict = o.dict
def Tame {α : Type} : Sem α → Prop
  | .pure _ => True
  | .raise _ => True
  | .unsupported _ => True
  | .finish _ => True
  | .rule _ k => Tame (k ())
  | .at _ k => Tame (k ())
  | .point _ k => Tame (k ())
  | .load _ _ k => ∀ o, Tame (k o)
  | .update _ _ f k => F2 f ∧ Tame (k ())
  | .alloc _ k => ∀ a, Tame (k a)
  | .loadIfAlive _ k => ∀ o, Tame (k o)
  | .fresh k => ∀ t, Tame (k t)
  | .ask k => ∀ x, Tame (k x)
  | .handled _ k => ∀ x, Tame (k x)
  | .stack k => ∀ x, Tame (k x)
  | .thread k => ∀ x, Tame (k x)
  | _ => False
theorem tame_bind {α β : Type} {m : Sem α} {f : α → Sem β} (hf : ∀ a, Tame (f a)) : Tame m → Tame (m >>= f) := by
  show Tame m → Tame (Sem.bind m f)
  induction m with
  | pure a => intro _; exact hf a
  | raise e => intro _; trivial
  | unsupported w => intro _; trivial
  | finish w => intro _; trivial
  | rule t k ih => intro h; exact ih () h
  | «at» t k ih => intro h; exact ih () h
  | point t k ih => intro h; exact ih () h
  | load a t k ih => intro h o; exact ih o (h o)
  | update a t g k ih => intro h; exact ⟨h.1, ih () h.2⟩
  | alloc o k ih => intro h a; exact ih a (h a)
  | loadIfAlive o k ih => intro h a; exact ih a (h a)
  | fresh k ih => intro h a; exact ih a (h a)
  | ask k ih => intro h a; exact ih a (h a)
  | handled o k ih => intro h a; exact ih a (h a)
  | stack k ih => intro h a; exact ih a (h a)
  | thread k ih => intro h a; exact ih a (h a)
  | _ => intro h; exact h.elim
theorem Ctx0.push {a : Addr} {h : Heap} {o : Obj} (c : Ctx0 a h) : Ctx0 a (h.push o) := by
  obtain ⟨ob, fs, e, d, f⟩ := c
  exact ⟨ob, fs, Heap.get?_push_of_some _ e, d, f⟩
theorem Ctx0.update {a b : Addr} {h : Heap} {f : Obj → Obj} (c : Ctx0 a h) (hf : F2 f) : Ctx0 a (h.update b f) := by
  obtain ⟨ob, fs, e, d, g⟩ := c
  by_cases z : b = a
  · subst z
    obtain ⟨fs', d', g', k⟩ := hf ob fs d g.1
    exact ⟨f ob, fs', Heap.get?_update_self _ e (Obj.isFreed_of_fields d'), d', g', by rw [k]; exact g.2⟩
  · exact ⟨ob, fs, by rw [Heap.get?_update_other _ _ z]; exact e, d, g⟩
theorem tame_wp {α : Type} {M : Model} {Γ : Ctx} {a : Addr} {Q : α → Pos → Shared → Prop} {E : Value → Pos → Shared → Prop} (m : Sem α) : ∀ {p : Pos} {s : Shared}, Tame m → Ctx0 a s.heap → Sem.wp M Γ m Q E p s →
    Sem.wp M Γ m (fun x p s => Q x p s ∧ Ctx0 a s.heap) (fun e p s => E e p s ∧ Ctx0 a s.heap) p s := by
  induction m with
  | pure x => intro p s _ c h; rw [Sem.wp] at h ⊢; exact ⟨h, c⟩
  | raise e => intro p s _ c h; rw [Sem.wp] at h ⊢; exact ⟨h, c⟩
  | unsupported w => intro p s _ c h; rw [Sem.wp] at h; exact h.elim
  | finish w => intro p s _ c h; rw [Sem.wp] at h; exact h.elim
  | rule t k ih => intro p s q c h; rw [Sem.wp] at h ⊢; exact ih () q c h
  | «at» t k ih => intro p s q c h; rw [Sem.wp] at h ⊢; exact ih () q c h
  | point t k ih => intro p s q c h; rw [Sem.wp] at h ⊢; exact ih () q c h
  | load b t k ih => intro p s q c h; rw [Sem.wp] at h ⊢; obtain ⟨o, e, h⟩ := h; exact ⟨o, e, ih o (q o) c h⟩
  | update b t g k ih => intro p s q c h; rw [Sem.wp] at h ⊢; exact ⟨h.1, ih () q.2 (c.update q.1) h.2⟩
  | alloc o k ih => intro p s q c h; rw [Sem.wp] at h ⊢; exact ih _ (q _) c.push h
  | loadIfAlive b k ih => intro p s q c h; rw [Sem.wp] at h ⊢; exact ih _ (q _) c h
  | fresh k ih => intro p s q c h; rw [Sem.wp] at h ⊢; exact ih _ (q _) c h
  | ask k ih => intro p s q c h; rw [Sem.wp] at h ⊢; exact ih _ (q _) c h
  | handled o k ih => intro p s q c h; rw [Sem.wp] at h ⊢; exact ih _ (q _) c h
  | stack k ih => intro p s q c h; rw [Sem.wp] at h ⊢; exact ih _ (q _) c h
  | thread k ih => intro p s q c h; rw [Sem.wp] at h ⊢; exact ih _ (q _) c h
  | _ => intro p s q; exact q.elim
theorem tame_any {α : Type} {M : Model} {A : Around} {a : Addr} {m : Sem α} {Q : α → Shared → Prop} {E : Value → Shared → Prop} {s : Shared} (t : Tame m) (c : Ctx0 a s.heap) (h : wpAny M A m Q E s) :
    wpAny M A m (fun x s => Q x s ∧ Ctx0 a s.heap) (fun e s => E e s ∧ Ctx0 a s.heap) s := fun Γ p hΓ => tame_wp m t c (h Γ p hΓ)
theorem tame_field {v : Value} {i : Nat} : Tame (field v i) := by
  unfold field
  refine tame_bind (fun fs => ?_) ?_
  · cases fs[i]? <;> trivial
  · unfold fieldsOf
    cases v with
    | ref a =>
      refine tame_bind (fun o => ?_) (fun o => trivial)
      cases o.data <;> trivial
    | _ => trivial
theorem f2_set {i : Nat} {x : Value} (hi : i ≠ 2) : F2 (Obj.mapFields (·.setIfInBounds i x)) := fun o fs d g => ⟨fs.setIfInBounds i x, Obj.data_mapFields d _, by rw [Array.getElem?_setIfInBounds_ne hi]; exact g, by cases o; simp only at d; subst d; rfl⟩
theorem tame_setField {v x : Value} {i : Nat} (hi : i ≠ 2) : Tame (setField v i x) := by
  unfold setField
  cases v with
  | ref a =>
    show Tame (updateField a i x)
    unfold updateField
    refine tame_bind (fun o => ?_) (fun o => trivial)
    cases o.data with
    | fields vs =>
      show Tame (if i < vs.size then _ else _)
      split
      · exact ⟨f2_set hi, trivial⟩
      · trivial
    | _ => trivial
  | _ => trivial
theorem tame_setFlight {e : Value} {f : Option Addr} : Tame (setFlight e f) := by
  unfold setFlight
  refine tame_bind (fun tb => ?_) tame_field
  split
  · exact tame_setField (by decide)
  · trivial
theorem tame_ready : ∀ l : List Env, Tame (readyFrames l)
  | [] => trivial
  | env :: outer => by
    unfold readyFrames
    cases env.frame with
    | none => trivial
    | some f =>
      refine tame_bind (fun o => ?_) (fun o => trivial)
      split
      · trivial
      · refine tame_bind (fun b => ?_) ?_
        · refine tame_bind (fun v => ?_) ?_
          · exact tame_bind (fun _ => tame_ready outer) ⟨fun o fs d g => ⟨fs, d, g, rfl⟩, trivial⟩
          · unfold keptBack
            cases outer with
            | nil =>
              dsimp only
              split
              · trivial
              · exact tame_bind (fun _ => trivial) (tame_bind (fun _ => trivial) (fun _ => trivial))
            | cons c l => trivial
        · unfold behindIsImport
          split
          · trivial
          · split
            · trivial
            · exact tame_bind (fun _ => trivial) tame_field
theorem tame_new (vs : Array Value) : Tame (newObj (Value.type "traceback") (.fields vs)) := by
  have fin : ∀ d : Data, Tame (newObjAsIs (Value.type "traceback") d) := fun d => fun _ => trivial
  unfold newObj
  dsimp only
  split
  · exact tame_bind (fun _ => fin _) trivial
  · exact fin _
theorem tame_noteFrame {e : Value} {env : Env} : Tame (noteFrame e env) := by
  unfold noteFrame
  cases env.frame with
  | none => trivial
  | some f =>
    refine tame_bind (fun hd => ?_) tame_field
    have rest : Tame (do setField e 1 (← EntryCells.newEntry hd (← frameOf env) .none (rawInt f) .none (← entryPlaceOf f (hd != .none)))) := by
      refine tame_bind (fun fr => ?_) ?_
      · refine tame_bind (fun pl => ?_) ?_
        · refine tame_bind (fun en => tame_setField (by decide)) ?_
          exact tame_new _
        · unfold entryPlaceOf
          refine tame_bind (fun acts => ?_) (fun _ => trivial)
          split <;> trivial
      · unfold frameOf
        refine tame_bind (fun l => ?_) ?_
        · refine tame_bind (fun o => ?_) ?_
          · cases o <;> trivial
          · unfold frameObject
            split
            · trivial
            · exact tame_bind (fun _ => trivial) (tame_ready _)
        · unfold frameEnvs
          exact tame_bind (fun _ => trivial) (fun _ => trivial)
    dsimp only
    split
    · refine tame_bind (fun x => ?_) tame_field
      split
      · trivial
      · exact tame_bind (fun _ => rest) (tame_setField (by decide))
    · exact rest
theorem tame_leaving {e : Value} {env : Env} : Tame (leaving env e) := by
  unfold leaving
  exact tame_bind (fun _ => tame_setFlight) tame_noteFrame
end L2

set_option Elab.async false
set_option linter.all false
set_option maxRecDepth 100000
namespace L2
open PySem PySem.Spec PyProof.Rows

/-! ### exceptions: how one lies behind a call -/
/-- all that stood at s, and all that is tracked, is in B (the frames apart) -/
def Cov (B : Heap) (fs : List Addr) (s : Shared) (H' : Hp) : Prop := ∀ b, b ∉ fs → ((∃ o, s.heap.get? b = some o) ∨ ∃ o, H' b = some o) → ∃ o, B.get? b = some o
def CX1 (P : Program) (w : World) (base : Heap) : CXT := fun outer H s E e s' => ∃ (a C : Addr) (a0 : Value) (H' : Hp) (B : Heap), e = .ref a ∧ s'.os = s.os ∧ AllBare s'.gens ∧ Un (frs outer) [] H H' s.heap s'.heap ∧ HOk P w H' s'.heap ∧
  Heap.FlyingW B outer a (.ref C) a0 s'.heap ∧ base.StaysIn B ∧ Cov B (frs outer) s H' ∧ (∀ b ∈ frs outer, H' b = none) ∧ Ctx0 a s'.heap ∧ E (.ref C) none H'

theorem hok_there {P : Program} {w : World} {H : Hp} {h : Heap} (ok : HOk P w H h) {b : Addr} {u : HO} (e : H b = some u) : ∃ o, h.get? b = some o := by
  have x := ok b u e
  cases u with
  | lst xs => obtain ⟨_, _, _, _, e⟩ := x; exact ⟨_, e⟩
  | tup xs => obtain ⟨_, _, _, o, e, _⟩ := x; exact ⟨_, e⟩
  | dK kvs => obtain ⟨_, _, _, _, o, _, _, e, _⟩ := x; exact ⟨_, e⟩
  | dT kvs => obtain ⟨_, _, _, _, o, _, _, e, _⟩ := x; exact ⟨_, e⟩
  | set S n => obtain ⟨o, _, _, _, e, _⟩ := x; exact ⟨_, e⟩
  | ins C dx fs => obtain ⟨_, _, _, e, _⟩ := x; exact ⟨_, e⟩
  | own y => obtain ⟨_, e⟩ := x; exact ⟨_, e⟩
  | xd fs => obtain ⟨_, ⟨_, _, _, e, _⟩, _⟩ := x; exact ⟨_, e⟩
  | rng lo hi => obtain ⟨_, _, _, e⟩ := x; exact ⟨_, e⟩
  | frz ob u => obtain ⟨e, _⟩ := x; exact ⟨_, e⟩
  | tbl ps => exact ⟨_, (show h.get? b = some _ from x)⟩
  | met f y => exact ⟨_, (show h.get? b = some _ from x)⟩
  | ext φ => obtain ⟨_, ⟨_, e⟩, _⟩ := x; exact ⟨_, e⟩
/-- what is in B stays, the frames keep up to slots: a step behind an exception -/
theorem un_step {fs : List Addr} {H H' : Hp} {s : Shared} {h1 h2 B : Heap} (u : Un fs [] H H' s.heap h1) (c : Cov B fs s H') (st1 : B.StaysIn h1) (st2 : B.StaysIn h2) (up : h1.UpToSlots h2)
    (fd : ∀ b ∈ fs, ∃ o, h1.get? b = some o ∧ ∀ vs, o.data ≠ .fields vs) : Un fs [] H H' s.heap h2 := by
  have go : ∀ b o, b ∉ fs → (∃ v, s.heap.get? b = some v) → h1.get? b = some o → h2.get? b = some o := fun b o hb hs e => by
    obtain ⟨o', e'⟩ := c b hb (.inl hs)
    have := st1 b o' e'
    rw [e] at this; cases this
    exact st2 b o e'
  refine ⟨fun b o q n hb hx => go b o hb ⟨o, q⟩ (u.keep b o q n hb hx), fun b o q n hb hx => ?_, u.free, fun b o q hx => ?_, u.tups, u.frzs, u.tbls⟩
  · obtain ⟨sl, e⟩ := u.slot b o q n hb hx
    obtain ⟨o1, e1, hd⟩ := fd b hb
    rw [e] at e1; cases e1
    obtain ⟨sl2, e2⟩ := up b _ e hd
    exact ⟨sl2, e2⟩
  · obtain ⟨o', e⟩ := u.there b o q hx
    by_cases hb : b ∈ fs
    · obtain ⟨o1, e1, hd⟩ := fd b hb
      rw [e] at e1; cases e1
      obtain ⟨sl2, e2⟩ := up b _ e hd
      exact ⟨_, e2⟩
    · exact ⟨o', go b o' hb ⟨o, q⟩ e⟩
theorem hok_step {P : Program} {w : World} {fs : List Addr} {H' : Hp} {s : Shared} {h1 h2 B : Heap} (ok : HOk P w H' h1) (c : Cov B fs s H') (st1 : B.StaysIn h1) (st2 : B.StaysIn h2) (nf : ∀ b ∈ fs, H' b = none) : HOk P w H' h2 := fun b u q =>
  (ok b u q).stay (fun d v hd e => by
    have hn : ∃ o, H' d = some o := by
      rcases hd with rfl | hd
      · exact ⟨_, q⟩
      · exact ⟨_, hd⟩
    have hf : d ∉ fs := fun z => by obtain ⟨o, ho⟩ := hn; rw [nf d z] at ho; cases ho
    obtain ⟨o', e'⟩ := c d hf (.inr hn)
    have := st1 d o' e'
    rw [e] at this; cases this
    exact st2 d v e') (fun _ r => r) fun _ _ r => r
theorem flying_data {B h : Heap} {l : List Env} {a : Addr} {cls a0 : Value} (fl : Heap.FlyingW B l a cls a0 h) : ∀ b ∈ frs l, ∃ o, h.get? b = some o ∧ ∀ vs, o.data ≠ .fields vs := fun b hb => (fl.2.2.1.mem hb).2

section
variable {P : Program} {w : World} {K : PySem.W.Frag} {mg : Str → Option Value} {base : Heap} {N : List Str} {qual : Str} {scope : Scope} {f : Addr} {cd : Value} {A : Around} {outer : List Env} {s₀ : Shared} {H₀ : Hp} {E : XK}
  {pins : List (Addr × Obj)} {σ : St} {H : Hp} {s : Shared}
/-- a new exception leaves the def in which it is raised -/
theorem raise_leaves {h' : Heap} {e C : Addr} {us : List Value} (I : Inv (cxOf (CX1 P w base) P w K mg base N qual scope f cd A outer s₀ H₀ E) pins σ H s) (hx : Heap.MadeExcOf s.heap h' e (.ref C) us) (hE : E (.ref C) none H) :
    (cxOf (CX1 P w base) P w K mg base N qual scope f cd A outer s₀ H₀ E).xe (.ref e) { s with heap := h' } := by
  have hst := I.stack
  have hfree := I.stkFree
  have hfr : ∀ b, b ∈ frs (envOfC qual scope s₀.heap.objs.size f cd :: outer) ↔ b = s₀.heap.objs.size ∨ b ∈ frs outer := fun b => by
    show b ∈ s₀.heap.objs.size :: frs outer ↔ _
    exact List.mem_cons
  have old : ∀ b o, s₀.heap.get? b = some o → b ≠ s₀.heap.objs.size := fun b o q => Nat.ne_of_lt (Heap.lt_size q)
  have hin : ∀ env ∈ (envOfC qual scope s₀.heap.objs.size f cd :: outer), ∀ b, env.frame = some b → b ∈ frs (envOfC qual scope s₀.heap.objs.size f cd :: outer) := fun env he b hb => List.mem_filterMap.mpr ⟨env, he, hb⟩
  have c0 : Ctx0 e h' := by
    obtain ⟨t, g, _⟩ := hx.there
    exact ⟨_, _, g, rfl, rfl, rfl⟩
  refine wpAny_mono (tame_any (a := e) (s := { s with heap := h' }) tame_leaving c0 (wpAny_leaves_madeW (E := fun _ _ => False) (Q := fun _ s2 => ∃ (h2 : Heap) (t : Addr), s2 = { s with heap := h2 } ∧ Heap.FlyingW (PySem.W.hideAll s.heap (frs (envOfC qual scope s₀.heap.objs.size f cd :: outer))) outer e (.ref C) (.ref t) h2 ∧ h2.TupAt t us ∧ (PySem.W.hideAll s.heap (frs (envOfC qual scope s₀.heap.objs.size f cd :: outer))).get? t = none ∧ h'.UpToSlots h2) (base := PySem.W.hideAll s.heap (frs (envOfC qual scope s₀.heap.objs.size f cd :: outer))) (h := s.heap) I.ok.frames rfl (fun b o q => PySem.W.of_hideAll _ q) (PySem.W.funFrames_hide hst hin) hx fun h2 t fl tup tn up => ⟨h2, t, rfl, fl, tup, tn, up⟩)) (fun _ s2 ⟨⟨h2, t, e2, fl, tup, tn, up⟩, c2⟩ => ?_) (fun _ _ z => z.1.elim)
  subst e2
  have keep : ∀ b o, b ∉ frs (envOfC qual scope s₀.heap.objs.size f cd :: outer) → s.heap.get? b = some o → h2.get? b = some o := fun b o hb q => fl.1 b o (PySem.W.hideAll_get _ q hb)
  have slots : ∀ b o, b ∈ frs (envOfC qual scope s₀.heap.objs.size f cd :: outer) → s.heap.get? b = some o → ∃ sl, h2.get? b = some { o with slots := sl } := fun b o hb q => by
    obtain ⟨_, o1, e1, hd⟩ := hst.mem hb
    rw [q] at e1; cases e1
    exact up b o (hx.keeps b o q) hd
  refine ⟨e, C, .ref t, H, _, rfl, I.os, I.bare, ⟨fun b o q n hb hx => ?_, fun b o q n hb hx => ?_, I.base.free, fun b o q hx => ?_, I.base.tups, I.base.frzs, I.base.tbls⟩, fun b u q => ?_, fl, fun b o q => ?_, fun b hb hh => ?_, fun b hb => hfree b ((hfr b).mpr (.inr hb)), c2, hE⟩
  · refine keep b o (fun z => ?_) (I.base.keep b o q n hb hx)
    rcases (hfr b).mp z with z | z
    · exact old b o q z
    · exact hb z
  · obtain ⟨sl, e1⟩ := I.base.slot b o q n hb hx
    obtain ⟨sl2, e2⟩ := slots b _ ((hfr b).mpr (.inr hb)) e1
    exact ⟨sl2, e2⟩
  · obtain ⟨o1, e1⟩ := I.base.there b o q hx
    by_cases z : b ∈ frs (envOfC qual scope s₀.heap.objs.size f cd :: outer)
    · obtain ⟨sl2, e2⟩ := slots b _ z e1
      exact ⟨_, e2⟩
    · exact ⟨_, keep b _ z e1⟩
  · refine (I.hok b u q).stay (fun d v hd r => keep d v (fun z => ?_) r) (fun _ r => r) fun _ _ r => r
    have hn : ∃ o, H d = some o := by
      rcases hd with rfl | hd
      · exact ⟨_, q⟩
      · exact ⟨_, hd⟩
    obtain ⟨o, ho⟩ := hn
    rw [hfree d z] at ho; cases ho
  · refine PySem.W.hideAll_get _ (I.bk b o q) fun z => ?_
    have := (hst.mem z).1
    have q' : base.get? b = some o := q
    rw [show (cxOf (CX1 P w base) P w K mg base N qual scope f cd A outer s₀ H₀ E).base = base from rfl] at this
    rw [q'] at this; cases this
  · have hs : (∃ o, s.heap.get? b = some o) ∧ b ≠ s₀.heap.objs.size := by
      rcases hh with ⟨o, ho⟩ | ⟨o, ho⟩
      · exact ⟨I.base.there b o ho (by intro z; cases z), old b o ho⟩
      · refine ⟨hok_there I.hok ho, fun z => ?_⟩
        have := I.free
        rw [z] at ho
        rw [show (cxOf (CX1 P w base) P w K mg base N qual scope f cd A outer s₀ H₀ E).env.locals = s₀.heap.objs.size from rfl] at this
        rw [this] at ho; cases ho
    obtain ⟨⟨o, ho⟩, hne⟩ := hs
    exact ⟨o, PySem.W.hideAll_get _ ho fun z => ((hfr b).mp z).elim hne hb⟩
/-- an exception of a callee leaves the caller too -/
theorem passes_on : Passes (CX1 P w base) (cxOf (CX1 P w base) P w K mg base N qual scope f cd A outer s₀ H₀ E) E := by
  intro pins σ H s e s' I h
  obtain ⟨a, C, a0, H', B, rfl, os, bare, un, hok, fl, st, cov, nf, c0, hE⟩ := h
  have hfr : ∀ b, b ∈ frs (envOfC qual scope s₀.heap.objs.size f cd :: outer) ↔ b = s₀.heap.objs.size ∨ b ∈ frs outer := fun b => by
    show b ∈ s₀.heap.objs.size :: frs outer ↔ _
    exact List.mem_cons
  have old : ∀ b o, s₀.heap.get? b = some o → b ≠ s₀.heap.objs.size := fun b o q => Nat.ne_of_lt (Heap.lt_size q)
  refine wpAny_mono (tame_any (a := a) (s := s') tame_leaving c0 (wpAny_leaves_onW (E := fun _ _ => False) (Q := fun _ s2 => ∃ h2 : Heap, s2 = { s' with heap := h2 } ∧ Heap.FlyingW B outer a (.ref C) a0 h2 ∧ s'.heap.UpToSlots h2) I.ok.frames rfl fl fun h2 fl2 up => ⟨h2, rfl, fl2, up⟩)) (fun _ s2 ⟨⟨h2, e2, fl2, up⟩, c2⟩ => ?_) (fun _ _ z => z.1.elim)
  subst e2
  have un2 := un_step un cov fl.1 fl2.1 up (flying_data fl)
  have I2 : Inv (cxOf (CX1 P w base) P w K mg base N qual scope f cd A outer s₀ H₀ E) pins σ H' { s' with heap := h2 } := I.call' (s' := { s' with heap := h2 }) os un2 (hok_step hok cov fl.1 fl2.1 nf) bare (fun b z => by cases z)
  refine ⟨a, C, a0, H', B, rfl, I2.os, I2.bare, I2.base, I2.hok, fl2, st, fun b hb hh => ?_, fun b hb => nf b ((hfr b).mpr (.inr hb)), c2, hE⟩
  have hne : b ≠ s₀.heap.objs.size := by
    rcases hh with ⟨o, ho⟩ | ⟨o, ho⟩
    · exact old b o ho
    · intro z
      have := nf b ((hfr b).mpr (.inl z))
      rw [this] at ho; cases ho
  refine cov b (fun z => ((hfr b).mp z).elim hne hb) ?_
  rcases hh with ⟨o, ho⟩ | hh
  · exact .inl (I.base.there b o ho (by intro z; cases z))
  · exact .inr hh
end
end L2

set_option Elab.async false
set_option linter.all false
set_option maxRecDepth 100000
namespace L2
open PySem PySem.Spec PyProof.Rows

/-! ### raise C(..) -/
abbrev bmV : List Value := [.type "ValueError", .type "Exception", .type "BaseException", .type "object"]
theorem exc_in {K : PySem.W.Frag} {h : Heap} {C : Addr} {bmB : List Value} {newId : String} (X : K.In h) (q : PySem.W.excIn K C bmB newId = true) :
    ∃ bm N nm qn bs hdct sn sub ab col dd k0 k1 k2 k3 k5 mN, h.get? C = some (excClassObj nm qn C N bs bm hdct sn sub ab col dd k0 k1 k2 k3 k5 newId) ∧ h.Ns N mN ∧ mN "__init__" = none ∧ OwnTail h bmB bm := by
  revert q
  unfold PySem.W.excIn
  split
  · rename_i d1 cdat slots hlook
    split
    · rename_i C1 tl1 z0 z1 z2 z3 nid z5 hmro hslots
      intro q
      rw [Bool.and_eq_true, Bool.and_eq_true, Bool.and_eq_true, Bool.and_eq_true, Bool.and_eq_true] at q
      obtain ⟨⟨⟨⟨⟨qa, qb⟩, qc⟩, qd⟩, qe⟩, qf⟩ := q
      have ea : C1 = C := by simpa using qa
      have eb : nid = newId := by simpa using qb
      have ec : cdat.hasDel = false := by simpa using qc
      have ef : PySem.W.nsIn K cdat.ns "__init__" = some none := by simpa using qf
      subst ea eb
      cases cdat with
      | mk nm bs mro ns qn hd sn sub ab col del =>
        simp only at hmro ec qe ef
        subst hmro ec
        cases slots with
        | mk sl =>
          simp only at hslots
          subst hslots
          exact ⟨tl1, ns, nm, qn, bs, hd, sn, sub, ab, col, d1, z0, z1, z2, z3, z5, _, X _ _ hlook, .of_isNs (PySem.W.isNs_of_in X qe), PySem.W.nsMap_none_of_in X qe ef, PySem.W.tail_of_in X qd⟩
    · intro q; cases q
  · intro q; cases q
def tRaise (C : Addr) (E : XK) (ta : TA) : TS := fun _ σ H => ta σ H fun vs H1 => vs.length ≤ sizeLine ∧ E (.ref C) none H1
section
variable {P : Program} {w : World} {K : PySem.W.Frag} {mg : Str → Option Value} {base : Heap} {N : List Str} {qual : Str} {scope : Scope} {f : Addr} {cd : Value} {A : Around} {outer : List Env} {s₀ : Shared} {H₀ : Hp} {E : XK}
/-- the context of a def that may raise -/
abbrev cxR (P : Program) (w : World) (K : PySem.W.Frag) (mg : Str → Option Value) (base : Heap) (N : List Str) (qual : Str) (scope : Scope) (f : Addr) (cd : Value) (A : Around) (outer : List Env) (s₀ : Shared) (H₀ : Hp) (E : XK) : Cx :=
  cxOf (CX1 P w base) P w K mg base N qual scope f cd A outer s₀ H₀ E
theorem ps_raise {x : Str} {np cpos pos : Pos} {e : Expr} {es : List Expr} {ta : TA} {C : Addr} (q : PySem.W.excIn K C bmV "ValueError.__new__" = true) (hm : mg x = some (.ref C)) (ha : PA (cxR P w K mg base N qual scope f cd A outer s₀ H₀ E) (e :: es) ta)
    (hg : Gl (cxR P w K mg base N qual scope f cd A outer s₀ H₀ E) x := by rfl) (he : notStar e = true := by rfl) (hpl : es.all notStar = true := by rfl) (hdb : (x == ("__debug__" : Str)) = false := by decide) :
    PS (cxR P w K mg base N qual scope f cd A outer s₀ H₀ E) (.Raise (some (.Call (.Name x np) (e :: es) [] cpos)) none pos) (tRaise C E ta) := by
  intro pins s σ H D I h
  obtain ⟨bm, Nn, nm, qn, bs, hdct, sn, sub, ab, col, dd, k0, k1, k2, k3, k5, mN, hC, hN, hni, T⟩ := exc_in (X := I.mod.kin) q
  have hh : (cxR P w K mg base N qual scope f cd A outer s₀ H₀ E).A.handled = none := I.ok.hd rfl
  have hall : (e :: es).all notStar = true := by rw [List.all_cons, he, hpl]; rfl
  refine wpAny_Raise_call_subU (nm := nm) (q := qn) (C := C) (N := Nn) (bs := bs) (hdct := hdct) (sn := sn) (sub := sub) (ab := ab) (col := col) (dd := dd) (k0 := k0) (k1 := k1) (k2 := k2) (k3 := k3) (k5 := k5) PySem.F.excBase_ValueError (by decide) PySem.F.excBase_ValueError (T.hasType (by decide)) hh (star_none hall) hni ?_
  refine ld_glob I hg hm ⟨rfl, ?_⟩ hdb
  have hA := ha cpos pins s σ H _ I h
  rw [star_cons he] at hA ⊢
  refine Calls.evalArgs_plain ?_
  refine thn hA fun us s2 ⟨vs, H2, I2, r2, hl, q2⟩ => ⟨rfl, ?_, I2.bk _ _ hC, hN.keeps I2.bk, T.keeps I2.bk, fun h' a hx => raise_leaves I2 hx q2⟩
  rw [← r2.length]; exact hl
end

/-! ### a def that may raise, and its contract -/
section
variable {P : Program} {w : World} {K : PySem.W.Frag} {mg : Str → Option Value} {base : Heap}
theorem Fun.okX {x qual : Str} {st : Stmt} {f : Addr} {fd : FuncData} {N ps : List Str} {k : Nat} {sp : Sp} (F : Fun K x qual st f fd) (S : FnScope N ps (defScope st)) (len : ∀ vs H Q E, sp vs H Q E → vs.length = ps.length)
    (hbody : ∀ (cdv : Value) (A : Around) (outer : List Env) (s : Shared) (H : Hp) (vs : List V) (Q : VK) (E : XK), Room k (A.deeper (envOfC qual (defScope st) s.heap.objs.size f cdv)) → sp vs H Q E →
      ∃ t, PSs (cxR P w K mg base N qual (defScope st) f cdv A outer s H E) (defBody st) t ∧ t { nx := fun _ H' => Q .non H', rt := Q } (start N vs) H) : FnOk P w K mg base (CX1 P w base) (k + 1) f fd ps sp := by
  obtain ⟨oc, od, kV, doc, pm, an, cdv, ct, osl, rfl, lk, hcd⟩ := F.ex
  exact fn_of lk hcd S len fun A outer s H vs Q E hr hsp => hbody cdv A outer s H vs Q E hr hsp
/-- a method of a class -/
def KnowsM (CX : CXT) (P : Program) (w : World) (K : PySem.W.Frag) (mg : Str → Option Value) (base : Heap) (k : Nat) (C : Addr) (m : Str) (ps : List Str) (sp : Sp) : Prop :=
  ∃ f fd, Meth K C m f ∧ Binds K fd ps [] ∧ FnOk P w K mg base CX k f fd ps sp
end
section
variable {X : Cx} {CX : CXT} {x m : Str} {ps : List Str} {sp : Sp} {j k : Nat} {e o : Expr} {es : List Expr} {ta : TE} {t : TA} {p pos apos : Pos} {E : XK} {C : Addr}
theorem pe_methM {pl : Sem Bool} (F : KnowsM CX X.prog X.w X.K X.mg X.base j C m ps sp) (c : Cls X.K C) (hr : Room k X.A) (hx : Passes CX X E) (ho : PE X o ta) (ha : PA X (e :: es) t) (hjk : j ≤ k := by decide)
    (he : notStar e = true := by rfl) (hpl : es.all notStar = true := by rfl)
    (ht : eval (.Call (.Attribute o m apos) (e :: es) [] pos) X.env = (do
      let ov ← eval o X.env
      standAt apos.atName
      let (f, first) ← holding [ov] (getMethod ov m pl)
      callWith pos f first (backTo pos (starEach (e :: es) X.env)) (backToKw pos (keywordEach [] X.env))) := by rfl) : PE X (.Call (.Attribute o m apos) (e :: es) [] pos) (tMeth C m sp [] E ta t) := by
  obtain ⟨f, fd, hm, hb, F⟩ := F
  exact pe_meth (pl := pl) ho c hm F (hr.mono hjk) hb .nil hx ha (star_cons he) (star_none hpl) ht
theorem pe_methM0 {pl : Sem Bool} (F : KnowsM CX X.prog X.w X.K X.mg X.base j C m ps sp) (c : Cls X.K C) (hr : Room k X.A) (hx : Passes CX X E) (ho : PE X o ta) (hjk : j ≤ k := by decide)
    (ht : eval (.Call (.Attribute o m apos) [] [] pos) X.env = (do
      let ov ← eval o X.env
      standAt apos.atName
      let (f, first) ← holding [ov] (getMethod ov m pl)
      callWith pos f first (backTo pos (starEach [] X.env)) (backToKw pos (keywordEach [] X.env))) := by rfl) : PE X (.Call (.Attribute o m apos) [] [] pos) (tMeth C m sp [] E ta tNil) := by
  obtain ⟨f, fd, hm, hb, F⟩ := F
  exact pe_meth0 (pl := pl) ho c hm F (hr.mono hjk) hb .nil hx ht
end
end L2

set_option Elab.async false
set_option linter.all false
set_option maxRecDepth 100000
namespace L2
open PySem PySem.Spec PyProof.Rows

/-! ### try: .. except NAME: .. -/
/-- within the try's suite: the pins that stood are borne by every state -/
abbrev Cx.inTry (X : Cx) (pn : List (Addr × Obj)) (xe : Value → Shared → Prop) : Cx := { X with pn := pn, xe := xe }
/-- within the except's suite -/
abbrev Cx.inExc (X : Cx) (a : Addr) : Cx := { X with A := X.A.mark (some (.ref a)), calm := false }
section
variable {X : Cx} {pins : List (Addr × Obj)} {σ : St} {H : Hp} {s : Shared} {xe : Value → Shared → Prop} {a : Addr}
theorem Inv.inTry (I : Inv X pins σ H s) (xe : Value → Shared → Prop) : Inv (X.inTry (X.pn ++ pins) xe) [] σ H s :=
  ⟨⟨I.ok.mod, I.ok.kind, I.ok.glob, I.ok.blt, I.ok.above, I.ok.inj, I.ok.has, I.ok.cab, I.ok.hd, I.ok.frames, I.ok.stk, I.ok.exf, I.ok.bs, I.ok.bsz, I.ok.noex, I.ok.exfs, I.ok.funs, I.ok.frf⟩,
    I.os, I.bare, I.base, I.loc, I.cell, I.free, I.freeC, fun p hp => I.pin p (by simpa using hp), I.hok, I.len⟩
theorem Inv.outTry {pins' : List (Addr × Obj)} (I : Inv (X.inTry (X.pn ++ pins) xe) pins' σ H s) : Inv X pins σ H s :=
  ⟨⟨I.ok.mod, I.ok.kind, I.ok.glob, I.ok.blt, I.ok.above, I.ok.inj, I.ok.has, I.ok.cab, I.ok.hd, I.ok.frames, I.ok.stk, I.ok.exf, I.ok.bs, I.ok.bsz, I.ok.noex, I.ok.exfs, I.ok.funs, I.ok.frf⟩,
    I.os, I.bare, I.base, I.loc, I.cell, I.free, I.freeC, fun p hp => I.pin p (List.mem_append_left _ hp), I.hok, I.len⟩
theorem Inv.inExc (I : Inv X pins σ H s) (a : Addr) : Inv (X.inExc a) pins σ H s :=
  ⟨⟨I.ok.mod, I.ok.kind, I.ok.glob, I.ok.blt, I.ok.above, I.ok.inj, I.ok.has, I.ok.cab, (fun z => by cases z), I.ok.frames, I.ok.stk, I.ok.exf, I.ok.bs, I.ok.bsz, I.ok.noex, I.ok.exfs, I.ok.funs, I.ok.frf⟩,
    I.os, I.bare, I.base, I.loc, I.cell, I.free, I.freeC, I.pin, I.hok, I.len⟩
theorem SP.outTry {D : Ends} {f : Flow} {s' : Shared} (h : SP (X.inTry (X.pn ++ pins) xe) [] D f s') : SP X pins D f s' := by
  cases f with
  | next => obtain ⟨σ', H', I, q⟩ := h; exact ⟨σ', H', I.outTry, q⟩
  | brk => obtain ⟨σ', H', I, q⟩ := h; exact ⟨σ', H', I.outTry, q⟩
  | cont => obtain ⟨σ', H', I, q⟩ := h; exact ⟨σ', H', I.outTry, q⟩
  | ret u => obtain ⟨v, σ', H', I, r, q⟩ := h; exact ⟨v, σ', H', I.outTry, r, q⟩
end
/-- the exceptions of the suite's calls, by the names' values at the call -/
abbrev Lands (X : Cx) (Eb : St → XK) : Prop := ∀ (pins : List (Addr × Obj)) (σ : St) (H : Hp) (s : Shared) (e : Value) (s' : Shared), Inv X pins σ H s → CX1 X.prog X.w X.base X.stack H s (Eb σ) e s' → X.xe e s'
section
variable {X : Cx} {x : Str} {np hpos pos : Pos} {body : List Stmt} {b₀ : Stmt} {suite : List Stmt} {Dc : Addr} {tb : (St → XK) → TS} {ts : TS}
end
end L2

set_option Elab.async false
set_option linter.all false
set_option maxRecDepth 100000
namespace L2
open PySem PySem.Spec PyProof.Rows

/-! ### calls within a try's suite -/
section
variable {X : Cx} {k j : Nat} {f C : Addr} {fd : FuncData} {ps : List Str} {sp : Sp} {Eb : St → XK} {x m : Str} {p pos apos : Pos} {e o : Expr} {es : List Expr} {ta : TE} {t : TA}
theorem run_fnS {pins : List (Addr × Obj)} {σ : St} {H : Hp} {s : Shared} {Q : VK} {us : List Value} {vs : List V} (F : FnOk X.prog X.w X.K X.mg X.base (CX1 X.prog X.w X.base) k f fd ps sp) (hr : Room k X.A) (hb : Binds X.K fd ps []) (hx : Lands X Eb)
    (I : Inv X pins σ H s) (r : Vals vs us) (h : sp vs H Q (Eb σ)) : wpAny (model X.prog X.w) X.A (call (.ref f) us) (EP X pins σ Q) X.xe s := by
  have hl : us.length = ps.length := by rw [← r.length]; exact F.len _ _ _ _ h
  have hbind := hb s us I.kIn (by rw [List.append_nil]; exact hl)
  rw [List.append_nil] at hbind
  refine wpAny_call (codeAny_mono (F.run X.A X.stack s H ⟨us, []⟩ us vs Q (Eb σ) hr I.env0 hbind r h) fun res s' hq => ?_)
  cases res with
  | error e => exact hx pins σ H s e s' I hq
  | ok fl =>
    cases fl with
    | ret u => exact I.after hq
    | next => exact False.elim hq
    | brk => exact False.elim hq
    | cont => exact False.elim hq
def tMethS (C : Addr) (m : Str) (sp : Sp) (Eb : St → XK) (ta : TE) (t : TA) : TE := fun σ H Q => ta σ H fun x H1 => ∃ a dx fs, x = .ref a ∧ H1 a = some (.ins C dx fs) ∧ fs.lookup m = none ∧ t σ H1 fun vs H2 => sp (x :: vs) H2 Q (Eb σ)
theorem pe_methS {pl : Sem Bool} (F : KnowsM (CX1 X.prog X.w X.base) X.prog X.w X.K X.mg X.base j C m ps sp) (c : Cls X.K C) (hr : Room k X.A) (hx : Lands X Eb) (ho : PE X o ta) (ha : PA X (e :: es) t) (hjk : j ≤ k := by decide)
    (he : notStar e = true := by rfl) (hpl : es.all notStar = true := by rfl)
    (ht : eval (.Call (.Attribute o m apos) (e :: es) [] pos) X.env = (do
      let ov ← eval o X.env
      standAt apos.atName
      let (f, first) ← holding [ov] (getMethod ov m pl)
      callWith pos f first (backTo pos (starEach (e :: es) X.env)) (backToKw pos (keywordEach [] X.env))) := by rfl) : PE X (.Call (.Attribute o m apos) (e :: es) [] pos) (tMethS C m sp Eb ta t) := by
  obtain ⟨f, fd, hm, hb, F⟩ := F
  intro pins s σ H Q I h
  refine PySem.W.methodCall_KW (pl := pl) (thn (ho pins s σ H _ I h) fun u s1 ⟨x, H1, I1, rx, a, dx, fs, ex, ea, l, q⟩ => ?_) ht
  subst ex
  obtain rfl : u = Value.ref a := rx
  refine getmeth_ok I1 ea c hm l ?_
  refine PySem.W.callWith_K (first := [.ref a]) (h₀ := X.base) I.ok.mod.kin hm.kp (thn (ha pos pins s1 σ H1 _ I1 q) fun us s2 ⟨vs, H2, I2, r, q2⟩ => ⟨I2.kIn, ?_⟩) (star_cons he) (star_none hpl)
  exact run_fnS (us := .ref a :: us) (vs := .ref a :: vs) F (hr.mono hjk) hb hx I2 (.cons rfl r) q2
end
end L2

set_option Elab.async false
set_option linter.all false
set_option maxRecDepth 100000
namespace L2
open PySem PySem.Spec PyProof.Rows

/-! ### for k, x in enumerate(xs) -/
def Ite (K : PySem.W.Frag) (l : Addr) : It :=
  ⟨fun i H => ∃ xs x, SqL K H l xs ∧ xs[i]? = some x, fun i H v H' => ∃ T x, H T = none ∧ v = .ref T ∧ H' = upd H T (.tup [.int i, x]) ∧ ∀ xs, SqL K H l xs → xs[i]? = some x, fun i H => ∃ xs, SqL K H l xs ∧ xs.length ≤ i⟩
theorem turn_enum {P : Program} {w : World} {K : PySem.W.Frag} {elts : List Expr} {k : Nat} {tpos : Pos} (l e it : Addr) (hne : e ≠ it) :
    Turn P w K (.Tuple elts k tpos) (Ite K l) [e, it] e (fun i h => (∃ old, IsEnum h e it i old) ∧ h.IsListIter it l i) where
  mem := by simp
  obj := fun i h st b hb => by
    obtain ⟨⟨old, he⟩, o, ho, hc, hd⟩ := st
    rcases List.mem_cons.mp hb with rfl | hb
    · exact ⟨_, he, fun v z => by cases z⟩
    · rw [List.mem_singleton.mp hb]
      exact ⟨o, ho, fun v z => by rw [hd] at z; cases z⟩
  keep := fun i h h' st kk => by
    obtain ⟨⟨old, he⟩, hi⟩ := st
    exact ⟨⟨old, kk e (by simp) _ he⟩, hi.at fun o q => kk it (by simp) o q⟩
  item := by
    intro X hP hw hK hc i pins s σ H E I hf st hg
    subst hP hw hK
    obtain ⟨⟨old, he⟩, hi⟩ := st
    obtain ⟨xs, x, hq, hx⟩ := hg
    obtain ⟨its, rv, p, hz⟩ := I.list hq
    obtain ⟨u, hu, ru⟩ := rv.get hx
    have hfe := hf e (by simp)
    have hfi := hf it (by simp)
    refine wpAny_pyNext_enum_item he hi p.isList (x := u) (by simpa using hu) hne fun h1 heo hi1 hT hsz hk => ⟨_, rfl, ?_⟩
    refine wpAny_letOwnedTupleGo_enum heo fun h2 he2 hs2 => ?_
    have hTn : H s.heap.objs.size = none := I.fresh
    have hTe : s.heap.objs.size ≠ e := Nat.ne_of_gt (Heap.lt_size he)
    have keep : ∀ b o, b ≠ e → b ≠ it → s.heap.get? b = some o → h2.get? b = some o := fun b o h1' h2' q => (hs2.2 b h1').trans (hk b o h1' h2' q)
    have new : ∀ b o, s.heap.get? b = some o → b ≠ s.heap.objs.size := fun b o q => Nat.ne_of_lt (Heap.lt_size q)
    have trk : ∀ b o, H b = some o → b ≠ e ∧ b ≠ it := fun b o q => ⟨(fun z => by rw [z, hfe.1] at q; cases q), (fun z => by rw [z, hfi.1] at q; cases q)⟩
    have hT2 : h2.get? s.heap.objs.size = some { cls := .type "tuple", data := .seq #[.int i s.toks, u] } := (hs2.2 _ hTe).trans hT
    have ok2 : HOk X.prog X.w (upd H s.heap.objs.size (.tup [.int i, x])) h2 := fun b v q => by
      by_cases hb : b = s.heap.objs.size
      · subst hb
        rw [upd_same] at q; cases q
        exact ⟨by show 2 ≤ sizeLine; decide, [.int i s.toks, u], .cons ⟨_, rfl⟩ (.cons ru .nil), _, hT2, rfl, 0, rfl⟩
      · rw [upd_ne hb] at q
        refine (I.hok b v q).stay (fun c y hc' r => ?_) (fun c r => by rw [upd_ne (ne_of_none r hTn)]; exact r) fun c ys r => by rw [upd_ne (ne_of_none r hTn)]; exact r
        have : ∃ o, H c = some o := by
          rcases hc' with rfl | hc'
          · exact ⟨_, q⟩
          · exact ⟨_, hc'⟩
        obtain ⟨o, ho⟩ := this
        exact keep c y (trk c o ho).1 (trk c o ho).2 r
    have I2 : Inv X pins σ (upd H s.heap.objs.size (.tup [.int i, x])) { s with heap := h2, toks := s.toks + 1 } := by
      refine I.call (g' := s.gens) (d' := s.drawn) (t' := s.toks + 1) (ch := [e, it]) ⟨fun b o q n hb hx => ?_, fun b o q n hb hx => ?_, fun b o q n hx => ?_, fun b o q hx => ?_, fun b ys q => ?_, fun b o ys q => ?_, fun b ys q => ?_⟩ ok2 I.bare (fun b hb => ?_)
      · exact keep b o (fun z => hx (by simp [z])) (fun z => hx (by simp [z])) q
      · exact ⟨o.slots, keep b o (fun z => hx (by simp [z])) (fun z => hx (by simp [z])) q⟩
      · rw [upd_ne (new b o q)]; exact n
      · exact ⟨o, keep b o (fun z => hx (by simp [z])) (fun z => hx (by simp [z])) q⟩
      · rw [upd_ne (ne_of_none q hTn)]; exact q
      · rw [upd_ne (ne_of_none q hTn)]; exact q
      · exact ⟨#[], by rw [upd_ne (ne_of_none q hTn), q]; simp⟩
      · obtain ⟨f0, f1, f2, f3, f4, f5⟩ := hf b hb
        exact ⟨f3, f1, f4, f5⟩
    refine ⟨.ref s.heap.objs.size, _, I2, rfl, ⟨_, x, hTn, rfl, rfl, fun ys hy => by rw [I.list_inj hy hq]; exact hx⟩, ⟨⟨_, by simpa using he2⟩, ?_⟩, fun b hb => ?_⟩
    · obtain ⟨o, ho, hr⟩ := hi1
      exact ⟨o, (hs2.2 it (Ne.symm hne)).trans ho, hr⟩
    · rw [upd_ne (fun z => ?_)]
      · exact (hf b hb).1
      · rcases List.mem_cons.mp hb with rfl | hb
        · exact hTe z.symm
        · rw [List.mem_singleton.mp hb] at z
          obtain ⟨o, ho, _⟩ := hi
          exact new it o ho z
  done := by
    intro X hP hw hK hc i pins s σ H E I hf st hg
    subst hP hw hK
    obtain ⟨⟨old, he⟩, hi⟩ := st
    obtain ⟨xs, hq, hx⟩ := hg
    obtain ⟨its, rv, p, hz⟩ := I.list hq
    obtain ⟨f0, f1, f2, f3, f4, f5⟩ := hf it (by simp)
    have hl := rv.length
    exact wpAny_pyNext_enum_end (I.ok.hd hc) he hi p.isList (by simp; omega) fun h' eb => ⟨rfl, I.turned (t' := s.toks) (fun b o hb q => eb b o hb q) f0 f1 f3 f4 f5⟩
  self := fun _ _ _ _ _ st h => by
    obtain ⟨⟨old, he⟩, _⟩ := st
    exact wpAny_pyIter_enum he h
def iEnum (K : PySem.W.Frag) (tl : TE) : TI := fun σ H R => tl σ H fun x H1 => ∃ a, x = .ref a ∧ (∃ xs, SqL K H1 a xs) ∧ R (Ite K a) H1
theorem pi_enumC {X : Cx} {K0 : PySem.W.Frag} {elts : List Expr} {k : Nat} {tpos p pos : Pos} {l : Expr} {tl : TE} (hK : X.K = K0) (hm : X.mg "enumerate" = none) (hl : PE X l tl) (hg : Gl X "enumerate" := by rfl) (hs : notStar l = true := by rfl) :
    PI X (.Tuple elts k tpos) (.Call (.Name "enumerate" p) [l] [] pos) (iEnum K0 tl) := by
  subst hK
  intro pins s σ H R I h
  refine wpAny_Call_Name_kw (ld_blt I hg hm boot_enumerate ?_)
  have h' : (tCons tl tNil) σ H (fun vs H1 => match vs with | [x] => (∃ a, x = .ref a ∧ (∃ xs, SqL X.K H1 a xs) ∧ R (Ite X.K a) H1) | _ => False) := h
  refine PyProof.Rows.callWith_type1 (thn ((pa_c hl pa_nil hs) pos pins s σ H _ I h') fun us s1 ⟨vs, H1, I1, r1, q1⟩ => ?_) (star_cons hs) (star_none rfl)
  match vs, q1, r1 with
  | [x], q1, r1 =>
  obtain ⟨a, rfl, ⟨xs, hq⟩, q⟩ := q1
  obtain ⟨u, rfl, ru⟩ := r1.one
  cases ru
  obtain ⟨its, rv, pl, hz⟩ := I1.list hq
  refine call_enumerate_list pl.isList fun h2 he hi hsz hk => ?_
  refine wpAny_pyIter_enum he ?_
  have I2 : Inv X pins σ H1 { s1 with heap := h2 } := I1.kept (t' := s1.toks) hk
  have hne : s1.heap.objs.size + 1 ≠ s1.heap.objs.size := Nat.succ_ne_self _
  refine ⟨_, _, _, _, H1, rfl, I2, turn_enum a (s1.heap.objs.size + 1) s1.heap.objs.size hne, ⟨⟨_, he⟩, hi⟩, fun b hb => ?_, q⟩
  have hb2 : s1.heap.objs.size ≤ b := by
    rcases List.mem_cons.mp hb with rfl | hb
    · exact Nat.le_succ _
    · rw [List.mem_singleton.mp hb]; exact Nat.le_refl _
  have f := I1.fpOk hb2 (I1.hok.fresh hb2)
  exact f
theorem pi_enum {X : Cx} {elts : List Expr} {k : Nat} {tpos p pos : Pos} {l : Expr} {tl : TE} (hm : X.mg "enumerate" = none) (hl : PE X l tl) (hg : Gl X "enumerate" := by rfl) (hs : notStar l = true := by rfl) :
    PI X (.Tuple elts k tpos) (.Call (.Name "enumerate" p) [l] [] pos) (iEnum X.K tl) := pi_enumC rfl hm hl hg hs
theorem for_enum {K : PySem.W.Frag} {l : Addr} {xs : List V} {g : TG} {tb : TS} {D : Ends} {σ : St} {H : Hp} (Pv : Nat → St → Hp → Prop) (h0 : Pv 0 σ H) (hl : ∀ i σ H, i ≤ xs.length → Pv i σ H → SqL K H l xs)
    (hs : ∀ i x σ H T, xs[i]? = some x → Pv i σ H → H T = none → g (.ref T) σ (upd H T (.tup [.int i, x])) fun σ2 H2 => tb { D with nx := Pv (i + 1), ct := Pv (i + 1), bk := D.nx } σ2 H2) (hd : ∀ σ H, Pv xs.length σ H → D.nx σ H) :
    ∃ W : Nat → Nat → St → Hp → Prop, (∃ m, W 0 m σ H) ∧ ∀ i m σ H, W i m σ H →
      ((Ite K l).stop i H ∧ D.nx σ H) ∨ ((Ite K l).go i H ∧ ∃ N : St → Hp → Prop, (∀ σ' H', N σ' H' → ∃ m', m' < m ∧ W (i + 1) m' σ' H') ∧ ∀ x H', (Ite K l).yld i H x H' → g x σ H' fun σ2 H2 => tb { D with nx := N, ct := N, bk := D.nx } σ2 H2) := by
  refine ⟨fun i m σ H => m = xs.length - i ∧ i ≤ xs.length ∧ Pv i σ H, ⟨xs.length, by simp, Nat.zero_le _, h0⟩, ?_⟩
  rintro i m σ H ⟨rfl, hi, p⟩
  have q := hl i σ H hi p
  by_cases hlt : i < xs.length
  · refine .inr ⟨⟨xs, xs[i], q, by simp [hlt]⟩, Pv (i + 1), fun σ' H' p' => ⟨xs.length - (i + 1), by omega, rfl, hlt, p'⟩, fun x H' y => ?_⟩
    obtain ⟨T, x', hT, rfl, rfl, hx⟩ := y
    exact hs i x' σ H T (hx xs q) p hT
  · have e : i = xs.length := by omega
    subst e
    exact .inl ⟨⟨xs, q, Nat.le_refl _⟩, hd σ H p⟩
end L2

set_option Elab.async false
set_option linter.all false
set_option maxRecDepth 100000
namespace L2
open PySem PySem.Spec PyProof.Rows
open PySem.AutoSeq1 (wpAny_loadPart')
open PySem.MeetsSeq

/-! ### in, not in, != of data -/
theorem eqD_l (xs ys : List D) : eqD (.l xs) (.l ys) = eqDs xs ys := by unfold eqD; rfl
theorem eqD_t (xs ys : List D) : eqD (.t xs) (.t ys) = eqDs xs ys := by unfold eqD; rfl
section
variable {X : Cx}
theorem rcne_fl {s : Shared} {A : Around} {x : V} {u : Value} {p : Addr} {items : Array Value} (f : flatV x = true) (r : RelV x u) (hl : s.heap.IsList p items) (hu : A.units < cLine) : SeqAt.RcNeAt A s u (.ref p) true := by
  cases x with
  | non => cases r; exact .none_list hl hu
  | bl b => cases r; exact .bool_list b hl hu
  | int b => obtain ⟨t, rfl⟩ := r; exact .int_list b t hl hu
  | str b => obtain ⟨t, rfl⟩ := r; exact .str_list b t hl hu
  | _ => exact absurd (show false = true from f) Bool.false_ne_true
theorem rcne_lf {s : Shared} {A : Around} {x : V} {u : Value} {p : Addr} {items : Array Value} (f : flatV x = true) (r : RelV x u) (hl : s.heap.IsList p items) (hu : A.units < cLine) : SeqAt.RcNeAt A s (.ref p) u true := by
  cases x with
  | non => cases r; exact .list_none hl hu
  | bl b => cases r; exact .list_bool b hl hu
  | int b => obtain ⟨t, rfl⟩ := r; exact .list_int b t hl hu
  | str b => obtain ⟨t, rfl⟩ := r; exact .list_str b t hl hu
  | _ => exact absurd (show false = true from f) Bool.false_ne_true
theorem rcne_ft {s : Shared} {A : Around} {x : V} {u : Value} {p : Addr} {items : Array Value} (f : flatV x = true) (r : RelV x u) (hl : s.heap.IsTuple p items) (hu : A.units < cLine) : SeqAt.RcNeAt A s u (.ref p) true := by
  cases x with
  | non => cases r; exact .none_tuple hl hu
  | bl b => cases r; exact .bool_tuple b hl hu
  | int b => obtain ⟨t, rfl⟩ := r; exact .int_tuple b t hl hu
  | str b => obtain ⟨t, rfl⟩ := r; exact .str_tuple b t hl hu
  | _ => exact absurd (show false = true from f) Bool.false_ne_true
theorem rcne_tf {s : Shared} {A : Around} {x : V} {u : Value} {p : Addr} {items : Array Value} (f : flatV x = true) (r : RelV x u) (hl : s.heap.IsTuple p items) (hu : A.units < cLine) : SeqAt.RcNeAt A s (.ref p) u true := by
  cases x with
  | non => cases r; exact .tuple_none hl hu
  | bl b => cases r; exact .tuple_bool b hl hu
  | int b => obtain ⟨t, rfl⟩ := r; exact .tuple_int b t hl hu
  | str b => obtain ⟨t, rfl⟩ := r; exact .tuple_str b t hl hu
  | _ => exact absurd (show false = true from f) Bool.false_ne_true
theorem rcne_flat {s : Shared} {A : Around} {y x : V} {u v : Value} (ry : RelV y u) (rx : RelV x v) (fy : flatV y = true) (fx : flatV x = true) : SeqAt.RcNeAt A s u v (!eqV y x) := by
  cases y with
  | non =>
    cases ry
    cases x with
    | non => cases rx; exact SeqAt.RcNeAt.none_none
    | bl b => cases rx; exact SeqAt.RcNeAt.none_bool b
    | int b => obtain ⟨t, rfl⟩ := rx; exact SeqAt.RcNeAt.none_int b t
    | str b => obtain ⟨t, rfl⟩ := rx; exact SeqAt.RcNeAt.none_str b t
    | _ => exact absurd (show false = true from fx) Bool.false_ne_true
  | bl c =>
    cases ry
    cases x with
    | non => cases rx; exact SeqAt.RcNeAt.bool_none c
    | bl b => cases rx; exact SeqAt.RcNeAt.bool_bool c b
    | int b => obtain ⟨t, rfl⟩ := rx; exact SeqAt.RcNeAt.bool_int c b t
    | str b => obtain ⟨t, rfl⟩ := rx; exact SeqAt.RcNeAt.bool_str c b t
    | _ => exact absurd (show false = true from fx) Bool.false_ne_true
  | int c =>
    obtain ⟨t', rfl⟩ := ry
    cases x with
    | non => cases rx; exact SeqAt.RcNeAt.int_none c t'
    | bl b => cases rx; exact SeqAt.RcNeAt.int_bool c t' b
    | int b => obtain ⟨t, rfl⟩ := rx; exact SeqAt.RcNeAt.int_int c t' b t
    | str b => obtain ⟨t, rfl⟩ := rx; exact SeqAt.RcNeAt.int_str c t' b t
    | _ => exact absurd (show false = true from fx) Bool.false_ne_true
  | str c =>
    obtain ⟨t', rfl⟩ := ry
    cases x with
    | non => cases rx; exact SeqAt.RcNeAt.str_none c t'
    | bl b => cases rx; exact SeqAt.RcNeAt.str_bool c t' b
    | int b => obtain ⟨t, rfl⟩ := rx; exact SeqAt.RcNeAt.str_int c t' b t
    | str b => obtain ⟨t, rfl⟩ := rx; exact SeqAt.RcNeAt.str_str c t' b t
    | _ => exact absurd (show false = true from fx) Bool.false_ne_true
  | _ => exact absurd (show false = true from fy) Bool.false_ne_true
def rNeD (K : PySem.W.Frag) : R2 := fun x y H Q => ∃ d e, Rep K H x d ∧ Rep K H y e ∧ depD d ≤ 60 ∧ Q (.bl (!eqD d e)) H
theorem op_neD (hu : X.A.units + 64 < cLine) : OpR X (compareOp .NotEq) (rNeD X.K) := by
  intro pins s σ H x y v u Q I rx ry h
  obtain ⟨d, e, r1, r2, hd, q⟩ := h
  have hu' : X.A.units < cLine := by omega
  have hin : X.A.in1.units + 60 < cLine := by show X.A.units + 1 + 60 < cLine; omega
  have fin : ∀ b, (!eqD d e) = b → EP X pins σ Q (.bool b) s := fun b hb => ⟨.bl b, H, I, rfl, by rw [← hb]; exact q⟩
  cases r1 with
  | a f =>
    cases r2 with
    | a f' => exact EqBoolInt.of_rcne (rcne_flat rx ry f f') (fin _ (by unfold eqD; rfl))
    | l h r => cases ry; obtain ⟨_, _, pl, _⟩ := I.list h; exact EqBoolInt.of_rcne (rcne_fl f rx pl.isList hu') (fin _ (by unfold eqD; rfl))
    | t h r => cases ry; obtain ⟨_, _, pl, _⟩ := I.tuple h; exact EqBoolInt.of_rcne (rcne_ft f rx pl hu') (fin _ (by unfold eqD; rfl))
  | @l p vs ds h r =>
    cases rx
    obtain ⟨its, rv, pl, _⟩ := I.list h
    cases r2 with
    | a f' => exact EqBoolInt.of_rcne (rcne_lf f' ry pl.isList hu') (fin _ (by unfold eqD; rfl))
    | @t p' vs' ds' h' r' =>
      cases ry
      obtain ⟨its', rv', pt, _⟩ := I.tuple h'
      exact EqBoolInt.of_rcne (.list_tuple pl.isList pt hu') (fin _ (by unfold eqD; rfl))
    | @l p' vs' ds' h' r' =>
      cases ry
      obtain ⟨its', rv', pl', _⟩ := I.list h'
      have e1 := rv.length
      have e2 := rv'.length
      have e3 := r.len
      have e4 := r'.len
      by_cases hl : ds.length = ds'.length
      · refine EqBoolInt.of_rcne (SeqAt.RcNeAt.lists (e := fun j => eqD (ds.getD j (.l [])) (ds'.getD j (.l []))) pl.isList pl'.isList (by simp only [List.size_toArray]; omega) hu' (fun j h1 h2 => ?_)) (fin _ ?_)
        · obtain ⟨v1, a1, b1, c1⟩ := getD_rep j h1 rv r
          obtain ⟨v2, a2, b2, c2⟩ := getD_rep j h2 rv' r'
          have hdj : depD (ds.getD j (.l [])) ≤ 60 := Nat.le_trans (depDs_mem c1) (by unfold depD at hd; omega)
          exact (eqD_at I 60 hdj hin b1 b2 a1 a2).2
        · rw [eqD_l, List.size_toArray, ← e1, e3, eqDs_range hl]
      · refine EqBoolInt.of_rcne (SeqAt.RcNeAt.lists_lengths pl.isList pl'.isList (by simp only [List.size_toArray]; simp; omega) hu') (fin _ ?_)
        rw [eqD_l, eqDs_len hl]
        rfl
  | @t p vs ds h r =>
    cases rx
    obtain ⟨its, rv, pl, _⟩ := I.tuple h
    cases r2 with
    | a f' => exact EqBoolInt.of_rcne (rcne_tf f' ry pl hu') (fin _ (by unfold eqD; rfl))
    | @l p' vs' ds' h' r' =>
      cases ry
      obtain ⟨its', rv', pl', _⟩ := I.list h'
      exact EqBoolInt.of_rcne (.tuple_list pl pl'.isList hu') (fin _ (by unfold eqD; rfl))
    | @t p' vs' ds' h' r' =>
      cases ry
      obtain ⟨its', rv', pl', _⟩ := I.tuple h'
      have e1 := rv.length
      have e2 := rv'.length
      have e3 := r.len
      have e4 := r'.len
      refine EqBoolInt.of_rcne (SeqAt.RcNeAt.tuples (e := fun j => eqD (ds.getD j (.l [])) (ds'.getD j (.l []))) pl pl' hu' (fun j h1 h2 => ?_)) (fin _ ?_)
      · obtain ⟨v1, a1, b1, c1⟩ := getD_rep j h1 rv r
        obtain ⟨v2, a2, b2, c2⟩ := getD_rep j h2 rv' r'
        have hdj : depD (ds.getD j (.l [])) ≤ 60 := Nat.le_trans (depDs_mem c1) (by unfold depD at hd; omega)
        exact (eqD_at I 60 hdj hin b1 b2 a1 a2).2
      · rw [eqD_t]
        by_cases hl : ds.length = ds'.length
        · have em : min its.toArray.size its'.toArray.size = ds.length := by simp only [List.size_toArray]; omega
          have eb : (its.toArray.size == its'.toArray.size) = true := by simp only [List.size_toArray]; simp; omega
          rw [em, eb, Bool.and_true, eqDs_range hl]
        · have eb : (its.toArray.size == its'.toArray.size) = false := by simp only [List.size_toArray]; simp; omega
          rw [eb, Bool.and_false, eqDs_len hl]
/-! ### xs.insert(i, y), xs.remove(y), a ** n -/
def CPowS (i j : Int) : Prop := 0 ≤ j ∧ (Builtin.Int.intBits i : Int) * j ≤ 2 ^ 27
theorem op_powS : OpR X (binaryOp .Pow) (rI CPowS fun i j => .int (i ^ j.toNat)) := opI fun _ _ _ _ _ _ _ hc q => pow_int hc.1 hc.2 q
end
end L2

set_option Elab.async false
set_option linter.all false
set_option maxRecDepth 100000
namespace L2
open PySem PySem.Spec PyProof.Rows
section
variable {X : Cx} {pos : Pos}
theorem pg_tupC {K0 : PySem.W.Frag} {es : List Expr} {k : Nat} {t : TGs} {n : Nat} (hK : X.K = K0) (hc : X.calm = true) (h : PGs X es t)
    (hn : (assignEach es X.env).length = n := by rfl) (hst : (assignEach es X.env).findIdx? (·.1) = none := by rfl) : PG X (.Tuple es k pos) (gTup K0 n t) := by
  subst hK
  exact pg_tup hc h hn hst
end
/-- a comprehension over pairs of an enumerate: two own names -/
theorem pe_comp2 {X : Cx} {elt iter : Expr} {x y : Str} {px py ptt pos : Pos} {kk : Nat} {scope : Scope} {wi : TI} {te : TE} (js : List Nat) (N' : List Str) (hc : X.calm = true)
    (hi : PI X (.Tuple [.Name x px, .Name y py] kk ptt) iter wi)
    (he : ∀ C s₀ H₀ ex, PE (cxComp X scope N' C s₀ H₀ ex) elt te)
    (nd : N'.Nodup := by decide +kernel)
    (hx : scope.names.lookup x = some .local := by rfl) (hy : scope.names.lookup y = some .local := by rfl)
    (hN' : N' = [x, y] ++ js.map fun j => X.N.getD j Str.empty := by rfl)
    (hk : scope.kind = .function := by rfl)
    (hcell : ∀ y ∈ scope.names, y.2 ≠ .cell := by decide +kernel)
    (hnames : ∀ y ∈ scope.names, y.2 = .local → scope.names.lookup y.1 = some .local := by decide +kernel)
    (hfr : (scope.names.all fun y => y.2 != .free || X.env.scope.names.lookup y.1 == some .cell) = true := by rfl)
    (hjs : (js.all fun j => scope.names.lookup (X.N.getD j Str.empty) == some .free && (X.N[j]?).isSome) = true := by rfl)
    (hs : ∀ z, foldedSetIterable iter X.env z = pure z := by intro _; rfl) :
    PE X (.ListComp elt [⟨.Tuple [.Name x px, .Name y py] kk ptt, iter, [], 0⟩] scope pos) (tComp 2 js wi (gTup X.K 2 (gCons (gName 0) (gCons (gName 1) gNil))) tTrue te) :=
  pe_comp [x, y] js N' hc hi (fun C s₀ H₀ ex => pg_tupC (X := cxComp X scope N' C s₀ H₀ ex) rfl hc
      (pgs_cons (pg_name (X := cxComp X scope N' C s₀ H₀ ex) (i := 0) nd (by show N'[0]? = some x; rw [hN']; rfl) (Or.inl (lookup_relabel_local hx)) (.inr (lookup_relabel_local hx)))
        (pgs_cons (pg_name (X := cxComp X scope N' C s₀ H₀ ex) (i := 1) nd (by show N'[1]? = some y; rw [hN']; rfl) (Or.inl (lookup_relabel_local hy)) (.inr (lookup_relabel_local hy))) pgs_nil)))
    (fun _ _ _ _ => pts_nil) he hN' hk hcell hnames hfr hjs hs
theorem comp2_enum {K : PySem.W.Frag} {l : Addr} {js : List Nat} {xs : List V} {σ : St} {H1 : Hp} {te : TE} {Q : VK} (Pv : Nat → List V → Hp → Prop) (h0 : Pv 0 [] H1) (hP : ∀ i ys H, i ≤ xs.length → Pv i ys H → SqL K H l xs ∧ ys.length ≤ i) (hsz : xs.length ≤ sizeLine)
    (hs : ∀ i x ys H T (Nx : List V → Hp → Prop), xs[i]? = some x → Pv i ys H → H T = none → (∀ ys' H', Pv (i + 1) ys' H' → Nx ys' H') → te (some (.int i) :: some x :: caps σ js) (upd H T (.tup [.int i, x])) fun y H4 => Nx (ys ++ [y]) H4)
    (hd : ∀ ys H, Pv xs.length ys H → ∀ D, H D = none → Q (.ref D) (upd H D (.lst ys))) :
    tCompB 2 js (gTup K 2 (gCons (gName 0) (gCons (gName 1) gNil))) tTrue te σ Q (Ite K l) H1 := by
  refine ⟨fun i m ys H => m = xs.length - i ∧ i ≤ xs.length ∧ Pv i ys H, ⟨xs.length, by simp, Nat.zero_le _, h0⟩, ?_⟩
  rintro i m ys H ⟨rfl, hi, p⟩
  obtain ⟨q, hl⟩ := hP i ys H hi p
  by_cases hlt : i < xs.length
  · refine .inr ⟨⟨xs, xs[i], q, by simp [hlt]⟩, by omega, fun x H' y os hos => ?_⟩
    obtain ⟨T, x', hT, rfl, rfl, hx⟩ := y
    match os, hos with
    | [o0, o1], _ =>
      refine ⟨T, _, rfl, SqT.of upd_same, rfl, _, _, rfl, _, _, rfl, rfl, ⟨[some (.int i), some x'], rfl, rfl⟩, ?_⟩
      refine tTrue_use ?_
      exact hs i x' ys H T (fun ys' H' => ∃ m', m' < xs.length - i ∧ m' = xs.length - (i + 1) ∧ i + 1 ≤ xs.length ∧ Pv (i + 1) ys' H') (hx xs q) p hT fun ys' H' p' => ⟨xs.length - (i + 1), by omega, rfl, hlt, p'⟩
  · have e : i = xs.length := by omega
    subst e
    exact .inl ⟨⟨xs, q, Nat.le_refl _⟩, by omega, hd ys H p⟩

/-! ### the law's head, with the size of the script's ints -/
theorem weight_all {ns : List Int} : ∀ v ∈ ns, (PySem.W.WData.weight (.int v)) ≤ PySem.W.WData.weightAll (ns.map .int) := by
  intro v hv
  induction ns with
  | nil => cases hv
  | cons n r ih =>
    have e : PySem.W.WData.weightAll ((n :: r).map PySem.W.WData.int) = PySem.W.WData.weight (.int n) + 1 + PySem.W.WData.weightAll (r.map .int) := by
      rw [List.map_cons, PySem.W.WData.weightAll]
    rw [e]
    rcases List.mem_cons.mp hv with rfl | hv
    · omega
    · have := ih hv
      omega
end L2

set_option Elab.async false
set_option linter.all false
set_option maxRecDepth 100000
namespace Att
open PySem PySem.W PySem.Calls PyProof.Rows L2
theorem small_of {ns : List Int} (h : WData.layableAll [WData.list (ns.map WData.int)] = true) : ∀ v ∈ ns, Builtin.Int.intBits v ≤ 1048576 := by
  intro v hv
  unfold WData.layableAll at h
  rw [List.all_cons, Bool.and_eq_true] at h
  have h1 := h.1
  unfold WData.layable at h1
  rw [Bool.and_eq_true] at h1
  have h2 := of_decide_eq_true h1.2
  have e : WData.weight (WData.list (ns.map WData.int)) = WData.weightAll (ns.map WData.int) := by rw [WData.weight]
  rw [e] at h2
  have h3 := weight_all v hv
  have e2 : WData.weight (.int v) = Builtin.Int.intBits v := by
    rw [WData.weight]
    rfl
  rw [e2] at h3
  have : (2 : Nat) ^ 20 = 1048576 := by decide
  omega
theorem attach_callW {l : OpenLaw} {n : Nat} {q : Program} {loose : List Str} {XP : (Str → Option Value) → Heap → Prop} {YP : World → Heap → Prop} {d : DefRec}
    (hn : l.most = some n) (hdf : d.params.defaults = [])
    (call : ∀ (w : World) (s₀ s₁ : Shared) (mg mb : Str → Option Value) (fa : Addr) (o : Obj) (pm cd doc : Value) (a : Addr) (vs : List Value) (ns : List Int),
      Ground q loose [] XP w s₀ mg mb s₁.heap → YP w s₁.heap →
      s₁.heap.get? fa = some o → o.data = .func (docDef d.name d.params d.body d.scope pm cd doc) → s₁.heap.CodeRec cd d.name → mg d.name = some (.ref fa) →
      s₁.heap.get? a = some { cls := .type "list", data := .seq vs.toArray } → IntsAre vs ns → ns.length ≤ n → (∀ v ∈ ns, Builtin.Int.intBits v ≤ 1048576) → s₁.gens = #[] →
      codeAny (model l.prog w) callerA (.call (.ref fa) ⟨[.ref a], []⟩) (fun r s' => r = .ok (.ret (.bool true)) ∧ OldK s₁.heap s'.heap ∧ s'.os = s₁.os ∧ AllBare s'.gens) s₁) :
    WalkO q loose XP YP l.row.toRowW d [] (fun f vs => PySem.call f vs) := by
  intro w s₀ s₁ mg mb G Y fa o pm cd doc dV kV ho hd hcd hD hmg hg args vals as hpre hlay hrd hwl hlo
  obtain rfl : dV = .none := Dflts.none hD hdf
  obtain rfl : kV = .none := Dflts.noKw hD
  obtain ⟨a, vs, ns, rfl, rfl, hobj, hints, hlen⟩ := script_of hn hpre hwl
  refine enter_call (codeAny_mono (call w s₀ s₁ mg mb fa o pm cd doc a vs ns G Y ho (fd_plain hd) hcd hmg hobj hints hlen (small_of hlay) hg) fun r s' hq => ?_)
  obtain ⟨rfl, h2, h3, h4⟩ := hq
  exact ⟨.inl ⟨.bool true, .bool true, [], rfl, fun _ => rfl, .bool true, post_true l _, fun _ => ⟨List.Pairwise.nil, fun _ hm => (nomatch hm)⟩⟩, h2, h3, h4⟩
end Att
namespace L2
open PySem PySem.Spec PyProof.Rows
theorem walk_ofW {l : PySem.W.OpenLaw} {n k : Nat} {q : Program} {loose : List Str} {XP : (Str → Option Value) → Heap → Prop} {YP : World → Heap → Prop} {d : DefRec} {K : Params → PySem.W.Frag} {CX : World → CXT} {sp : World → Sp} {x : Str}
    (hn : l.most = some n) (hn2 : n ≤ sizeLine) (hdf : d.params.defaults = []) (hr : Room k callerA)
    (hY : ∀ (w : World) (h : Heap), YP w h → (K w.params).In h)
    (F : ∀ (w : World) (mg : Str → Option Value) (fa : Addr) (h : Heap), (K w.params).In h → h.Ns mainGlobals mg → mg d.name = some (.ref fa) →
      ∃ fd : FuncData, (∀ (s : Shared) (u : Value), BindsTo s fd ⟨[u], []⟩ [(x, u)]) ∧
        ∀ base : Heap, (K w.params).In base → base.Ns mainGlobals mg → FnOk l.prog w (K w.params) mg base (CX w) k fa fd [x] (sp w))
    (hsp : ∀ (w : World) (H : Hp) (a : Addr) (ns : List Int), ns.length ≤ n → (∀ v ∈ ns, Builtin.Int.intBits v ≤ 1048576) → Only H → SqL (K w.params) H a (ns.map V.int) → sp w [.ref a] H (fun v _ => v = .bl true) fun _ _ _ => False)
    (hCX : ∀ (w : World) (H : Hp) (s : Shared) (e : Value) (s' : Shared), CX w [] H s (fun _ _ _ => False) e s' → False) :
    PySem.W.WalkO q loose XP YP l.row.toRowW d [] (fun f vs => PySem.call f vs) := by
  refine Att.attach_callW hn hdf fun w s₀ s₁ mg mb fa o pm cd doc a vs ns G Y ho hd hcd hmg hobj hints hlen hsm hg => ?_
  have KX := hY w _ Y
  obtain ⟨fd, hb, hF⟩ := F w mg fa _ KX G.T.g hmg
  exact law_call KX G.T.g G.T.b G.T.builtins G.T.nolimit hg hobj hints (Nat.le_trans hlen hn2) hr hF hb (fun H hO hS => hsp w H a ns hlen hsm hO hS) fun H e s' => hCX w H s₁ e s'
end L2

set_option Elab.async false
set_option linter.all false
set_option maxRecDepth 100000
namespace L2
open PySem PySem.Spec PyProof.Rows
/-- a class of the text whose __init__ has a contract -/
def KnowsI (CX : CXT) (P : Program) (w : World) (K : PySem.W.Frag) (mg : Str → Option Value) (base : Heap) (k : Nat) (C : Addr) (ps : List Str) (sp : Sp) : Prop :=
  ∃ f fd, Mk K C f ∧ Binds K fd ps [] ∧ FnOk P w K mg base CX k f fd ps sp
section
variable {X : Cx} {CX : CXT} {x : Str} {ps : List Str} {sp : Sp} {j k : Nat} {e : Expr} {es : List Expr} {t : TA} {p pos : Pos} {E : XK} {C : Addr}
theorem pe_makeM (F : KnowsI CX X.prog X.w X.K X.mg X.base j C ps sp) (hr : Room k X.A) (hm : X.mg x = some (.ref C)) (hx : Passes CX X E) (ha : PA X (e :: es) t) (hjk : j + 1 ≤ k := by decide) (hg : Gl X x := by rfl)
    (hdb : (x == ("__debug__" : Str)) = false := by decide) (he : notStar e = true := by rfl) (hpl : es.all notStar = true := by rfl) : PE X (.Call (.Name x p) (e :: es) [] pos) (tMake C sp [] E t) := by
  obtain ⟨f, fd, M, hb, F⟩ := F
  exact pe_make M F (hr.mono hjk) hg hm hb .nil hx ha hdb (star_cons he) (star_none hpl)
end
end L2

set_option Elab.async false
set_option linter.all false
set_option maxRecDepth 100000
namespace L2
open PySem PySem.Spec PyProof.Rows
theorem def_mk {K : PySem.W.Frag} {h : Heap} {mg : Str → Option Value} (X : K.In h) (G : h.Ns mainGlobals mg) {x : Str} {st : Stmt} {ps : List Str} {f : Addr} {oc : Value} {od an : Option Addr} {osl : Array (Option Value)} {kV doc pm cdv ct : Value}
    (a : PySem.W.nsIn K mainGlobals x = some (some (.ref f))) (l : K.lookup f = some ⟨oc, od, .func (PySem.W.fnOf x x (defArgs st) (defBody st) (defScope st) .none kV doc pm an cdv ct), osl⟩) (c : PySem.W.codeIn K cdv x = true) (k : PySem.W.keepIn K (.ref f) = true)
    (b : ∀ (kV doc pm : Value) (an : Option Addr) (cdv ct : Value) (us : List Value), us.length = ps.length → bindArgs (PySem.W.fnOf x x (defArgs st) (defBody st) (defScope st) .none kV doc pm an cdv ct) ⟨us, []⟩ = pure (ps.zip us)) : Def K mg x st ps :=
  ⟨⟨_, _, fun_mk l c k, PySem.W.mg_of X G a, (fun_mk l c k).binds b⟩⟩
/-- a method's def -/
structure MDef (K : PySem.W.Frag) (C : Addr) (m qual : Str) (st : Stmt) (ps : List Str) : Prop where
  ex : ∃ f fd, Meth K C m f ∧ Fun K m qual st f fd ∧ Binds K fd ps []
/-- the def of __init__ of a class that is called -/
structure IDef (K : PySem.W.Frag) (C : Addr) (qual : Str) (st : Stmt) (ps : List Str) : Prop where
  ex : ∃ f fd, Mk K C f ∧ Fun K "__init__" qual st f fd ∧ Binds K fd ps []
theorem meth_mk {K : PySem.W.Frag} {C : Addr} {m qual : Str} {st : Stmt} {ps : List Str} {f : Addr} {oc : Value} {od an : Option Addr} {osl : Array (Option Value)} {kV doc pm cdv ct : Value}
    (a : PySem.W.findIn K (.ref C) m = some (some (.ref f))) (n : PySem.W.isFn K (.ref f) = true) (l : K.lookup f = some ⟨oc, od, .func (PySem.W.fnOf m qual (defArgs st) (defBody st) (defScope st) .none kV doc pm an cdv ct), osl⟩) (c : PySem.W.codeIn K cdv qual = true) (k : PySem.W.keepIn K (.ref f) = true)
    (b : ∀ (kV doc pm : Value) (an : Option Addr) (cdv ct : Value) (us : List Value), us.length = ps.length → bindArgs (PySem.W.fnOf m qual (defArgs st) (defBody st) (defScope st) .none kV doc pm an cdv ct) ⟨us, []⟩ = pure (ps.zip us)) : MDef K C m qual st ps :=
  ⟨⟨f, _, ⟨a, n, k⟩, fun_mk l c k, (fun_mk l c k).binds b⟩⟩
theorem init_mk {K : PySem.W.Frag} {C : Addr} {qual : Str} {st : Stmt} {ps : List Str} {f : Addr} {oc : Value} {od an : Option Addr} {osl : Array (Option Value)} {kV doc pm cdv ct : Value}
    (a : PySem.W.findIn K (.ref C) "__init__" = some (some (.ref f))) (n : PySem.W.isFn K (.ref f) = true) (l : K.lookup f = some ⟨oc, od, .func (PySem.W.fnOf "__init__" qual (defArgs st) (defBody st) (defScope st) .none kV doc pm an cdv ct), osl⟩) (c : PySem.W.codeIn K cdv qual = true) (k : PySem.W.keepIn K (.ref f) = true)
    (mk : PySem.W.makesIn K C = true) (kC : PySem.W.keepIn K (.ref C) = true)
    (b : ∀ (kV doc pm : Value) (an : Option Addr) (cdv ct : Value) (us : List Value), us.length = ps.length → bindArgs (PySem.W.fnOf "__init__" qual (defArgs st) (defBody st) (defScope st) .none kV doc pm an cdv ct) ⟨us, []⟩ = pure (ps.zip us)) : IDef K C qual st ps :=
  ⟨⟨f, _, ⟨mk, a, n, kC⟩, fun_mk l c k, (fun_mk l c k).binds b⟩⟩
section
variable {P : Program} {w : World} {K : PySem.W.Frag} {mg : Str → Option Value} {base : Heap} {C : Addr}
theorem MDef.knows {CX : CXT} {m qual : Str} {st : Stmt} {ps : List Str} {k : Nat} {sp : Sp} (D : MDef K C m qual st ps) (h : ∀ f fd, Fun K m qual st f fd → FnOk P w K mg base CX k f fd ps sp) : KnowsM CX P w K mg base k C m ps sp := by
  obtain ⟨f, fd, hm, F, hb⟩ := D.ex
  exact ⟨f, fd, hm, hb, h f fd F⟩
theorem IDef.knows {CX : CXT} {qual : Str} {st : Stmt} {ps : List Str} {k : Nat} {sp : Sp} (D : IDef K C qual st ps) (h : ∀ f fd, Fun K "__init__" qual st f fd → FnOk P w K mg base CX k f fd ps sp) : KnowsI CX P w K mg base k C ps sp := by
  obtain ⟨f, fd, hm, F, hb⟩ := D.ex
  exact ⟨f, fd, hm, hb, h f fd F⟩
end
end L2

set_option Elab.async false
set_option linter.all false
set_option maxRecDepth 100000
namespace L2
open PySem PySem.Spec PyProof.Rows
section
variable {X : Cx}
theorem kvLen {κ : Type} : ∀ {a : List (κ × V)} {b : List (κ × Value)}, KV a b → a.length = b.length
  | _, _, .nil => rfl
  | _, _, .cons _ r => by rw [List.length_cons, List.length_cons, kvLen r]
theorem vals_of : ∀ {vs : List V} {us : List Value}, vs.length = us.length → (∀ (i : Nat) (v : V) (u : Value), vs[i]? = some v → us[i]? = some u → RelV v u) → Vals vs us
  | [], [], _, _ => .nil
  | [], _ :: _, h, _ => by cases h
  | _ :: _, [], h, _ => by cases h
  | v :: vs, u :: us, h, k => .cons (k 0 v u rfl rfl) (vals_of (Nat.succ.inj h) fun i v' u' a b => k (i + 1) v' u' (by simpa using a) (by simpa using b))
end
end L2

set_option Elab.async false
set_option linter.all false
set_option maxRecDepth 100000
namespace L2
open PySem PySem.Spec PyProof.Rows
set_option maxHeartbeats 1000000 in
/-- what is known of the block's own dict at its end -/
structure CEnd (X : Cx) (pins : List (Addr × Obj)) (H : Hp) (C : Addr) : Prop where
  no : H C = none
  ne : C ≠ X.env.locals
  new : X.s₀.heap.objs.size ≤ C
  cl : ∀ x c, X.env.cells.lookup x = some c → c ≠ C
  pn : ∀ p ∈ X.pn ++ pins, p.1 ≠ C
set_option maxHeartbeats 1000000 in
theorem comp_gen {X : Cx} {elt iter tg : Expr} {pos ppos : Pos} {ifs : List Expr} {scope : Scope} {wi : TI} {g : TG} {tc : TT} {te : TE} {use : Option (Value → Sem Unit)} {Qf : Value → Shared → Prop} (own : List Str) (js : List Nat) (N' : List Str) (hc : X.calm = true)
    (hi : PI X tg iter wi)
    (hg : ∀ C s₀ H₀ ex, PG (cxComp X scope N' C s₀ H₀ ex) tg g)
    (ht : ∀ C s₀ H₀ ex, PTs (cxComp X scope N' C s₀ H₀ ex) ifs tc)
    (he : ∀ C s₀ H₀ ex, PE (cxComp X scope N' C s₀ H₀ ex) elt te)
    (hN' : N' = own ++ js.map fun j => X.N.getD j Str.empty)
    (hk : scope.kind = .function)
    (hcell : ∀ y ∈ scope.names, y.2 ≠ .cell)
    (hnames : ∀ y ∈ scope.names, y.2 = .local → scope.names.lookup y.1 = some .local)
    (hfr : (scope.names.all fun y => y.2 != .free || X.env.scope.names.lookup y.1 == some .cell) = true)
    (hjs : (js.all fun j => scope.names.lookup (X.N.getD j Str.empty) == some .free && (X.N[j]?).isSome) = true)
    (hs : ∀ z, foldedSetIterable iter X.env z = pure z)
    {pins : List (Addr × Obj)} {s : Shared} {σ : St} {H : Hp} {Q : VK} (I : Inv X pins σ H s) (h : tComp own.length js wi g tc te σ H Q)
    (fin : ∀ (D C : Addr) (H' : Hp) (s4 : Shared) (m : Str → Option Value), Inv X pins σ H' s4 → Q (.ref D) H' → s4.heap.Ns C m → CEnd X pins H' C → compPost (model X.prog X.w) X.A X.xe use Qf (.ref D) C (.ok .next) s4) :
    wpAny (model X.prog X.w) X.A (comprehension (.ListComp elt [⟨tg, iter, ifs, 0⟩] scope pos) scope X.env ppos (newList []) false (eval iter X.env) use) Qf X.xe s := by
  have free_cell : ∀ y ∈ scope.names, y.2 = .free → X.env.kindOf y.1 = some .cell := fun y hy hf => by
    have := List.all_eq_true.mp hfr y hy
    rw [hf] at this
    simp at this
    exact this
  have hcl : ∀ y ∈ scope.names, y.2 = .free → ∃ c, X.env.cells.lookup y.1 = some c := fun y hy hf => I.ok.has y.1 (.inl (free_cell y hy hf))
  refine wpAny_comprehension_free (use := use) rfl hs (closureFor_eq hcl) hk hnames ?_
  refine thn (hi pins s σ H _ I h) fun v s1 h1 => thn h1 fun itv s2 h2 => ?_
  obtain ⟨it, fp, tn, J, H2, e, I2, T, st2, f2, W, ⟨m0, w0⟩, turn⟩ := h2
  subst e
  refine wpAny_newObj_type (wpAny_newFunctionEnv hcell (by intro y hy; simp at hy) (fun h₁ hns₁ hsb₁ => ?_) hk)
  dsimp only at hns₁ hsb₁ ⊢
  generalize hG : s2.heap.push { cls := .type "list", dict := none, data := .seq ([] : List Value).toArray } = G at hns₁ hsb₁ ⊢
  have hC : G.objs.size = s2.heap.objs.size + 1 := by rw [← hG, Heap.size_push]
  have hDC : s2.heap.objs.size ≠ G.objs.size := by rw [hC]; exact Nat.ne_of_lt (Nat.lt_succ_self _)
  have below : ∀ b, b < s2.heap.objs.size → b ≠ G.objs.size ∧ b ≠ s2.heap.objs.size := fun b hb => ⟨by rw [hC]; exact Nat.ne_of_lt (Nat.lt_succ_of_lt hb), Nat.ne_of_lt hb⟩
  have old : ∀ b o, s2.heap.get? b = some o → h₁.get? b = some o := fun b o e => hsb₁.extBut b o (below b (Heap.lt_size e)).1 (Heap.get?_push_of_some _ (hG ▸ Heap.get?_push_of_some _ e))
  have hacc : h₁.get? s2.heap.objs.size = some { cls := .type "list", data := .seq ([] : List Value).toArray 0 } := hsb₁.extBut _ _ hDC (Heap.get?_push_of_some _ (hG ▸ Heap.get?_push_size _ rfl))
  have fplt : ∀ b ∈ fp, b < s2.heap.objs.size := fun b hb => let ⟨_, e, _⟩ := T.obj _ _ st2 b hb; Heap.lt_size e
  have ok' : (cxComp X scope N' G.objs.size s2 H2 fp).Ok := by
    refine ⟨I2.ok.mod, hk, I2.ok.glob, I2.ok.blt, by show s2.heap.objs.size ≤ G.objs.size; rw [hC]; exact Nat.le_succ _, fun x y c e1 e2 => I2.ok.inj x y c (lookup_closOf hcl e1) (lookup_closOf hcl e2), fun x hx => ?_,
      fun x c hx _ => (nomatch hx), I2.ok.hd, I2.ok.frames, .inl rfl, fun b hb => ⟨(below b (fplt b hb)).1, fun x c e => (f2 b hb).2.2.2.2.1 x c (lookup_closOf hcl e)⟩, I2.bs, Nat.le_trans I2.ok.bsz I2.sz, fun b o e hb => ?_, fun b hb z => ?_, I2.stack, I2.stkFree⟩
    · have hx' : (relabel scope X.env).names.lookup x = some .cell ∨ (relabel scope X.env).names.lookup x = some .free := hx
      have : (x, NameKind.free) ∈ scope.names ∨ (x, NameKind.cell) ∈ scope.names := by
        rcases hx' with z | z
        · exact relabel_back z (.inl rfl)
        · exact relabel_back z (.inr rfl)
      rcases this with z | z
      · exact has_closOf z
      · exact absurd rfl (hcell _ z)
    · rcases (f2 b hb).2.2.2.1 with z | z
      · exact I2.ok.noex b o e z
      · have h1 : b < X.base.objs.size := Heap.lt_size e
        exact absurd (Nat.lt_of_lt_of_le h1 (Nat.le_trans I2.ok.bsz z)) (Nat.lt_irrefl _)
    · rcases List.mem_cons.mp (I2.stkSub b z) with e | e
      · exact (f2 b hb).2.1 e
      · exact (f2 b hb).2.2.1 e
  have kindCap : ∀ i y, (js.map fun j => X.N.getD j Str.empty)[i]? = some y → ∃ j, js[i]? = some j ∧ X.N[j]? = some y ∧ scope.names.lookup y = some .free := fun i y e => by
    rw [List.getElem?_map] at e
    cases q : js[i]? with
    | none => rw [q] at e; cases e
    | some j =>
      rw [q] at e
      have e' : X.N.getD j Str.empty = y := Option.some.inj e
      have hj := List.all_eq_true.mp hjs j (List.mem_of_getElem? q)
      rw [Bool.and_eq_true] at hj
      obtain ⟨hj1, hj2⟩ := hj
      rw [e'] at hj1
      obtain ⟨z, hz⟩ := Option.isSome_iff_exists.mp hj2
      rw [List.getD_eq_getElem?_getD, hz] at e'
      exact ⟨j, q, by rw [hz]; exact congrArg some e', by simpa using hj1⟩
  have I0 : ∀ tk : Nat, Inv (cxComp X scope N' G.objs.size s2 H2 fp) [(s2.heap.objs.size, { cls := .type "list", data := .seq ([] : List Value).toArray 0 })] (List.replicate own.length none ++ caps σ js) H2 { s2 with heap := h₁, toks := tk } := fun tk => by
    refine ⟨ok', rfl, I2.bare, Un.kept old, ⟨_, hns₁, fun i y v e1 e2 e3 => ?_⟩, fun x c e => ?_, I2.hok.fresh (by show s2.heap.objs.size ≤ G.objs.size; rw [hC]; exact Nat.le_succ _), fun x c e => I2.freeC x c (lookup_closOf hcl e), fun p hp => ?_, I2.hok.kept old, ?_⟩
    · by_cases hlt : i < own.length
      · rw [List.getElem?_append_left (by simpa using hlt), List.getElem?_replicate] at e2
        split at e2 <;> cases e2
      · have e1' : N'[i]? = some y := e1
        rw [hN', List.getElem?_append_right (by omega)] at e1'
        rw [List.getElem?_append_right (by simpa using hlt), List.length_replicate] at e2
        obtain ⟨j, hj, hs2⟩ := caps_get e2
        obtain ⟨j', hj', hN, hfree⟩ := kindCap _ _ e1'
        rw [hj] at hj'; cases hj'
        obtain ⟨m, hm, hl⟩ := I2.loc
        have hcell' : X.env.kindOf y = some .cell := free_cell (y, .free) (PySem.mem_of_lookup hfree) rfl
        obtain ⟨u, r, l⟩ := hl j y v hN hs2 (.inr (.inl hcell'))
        refine ⟨u, r, ?_⟩
        rcases l with ⟨hk', _⟩ | ⟨hk', c, hc', z⟩
        · rw [hcell'] at hk'; cases hk'
        · obtain ⟨c', e'⟩ := has_closOf (env := X.env) (PySem.mem_of_lookup hfree)
          have := lookup_closOf hcl e'
          rw [hc'] at this; cases this
          refine .inr ⟨.inl (lookup_relabel_free I2.ok.kind hfree hcell'), c, e', ?_⟩
          obtain ⟨o, ho, hd⟩ := z
          exact ⟨o, old _ _ ho, hd⟩
    · obtain ⟨v, o, ho, hd⟩ := I2.cell x c (lookup_closOf hcl e)
      exact ⟨v, o, old _ _ ho, hd⟩
    · have hp' : p = (s2.heap.objs.size, { cls := .type "list", data := .seq ([] : List Value).toArray 0 }) := by
        rcases List.mem_append.mp hp with z | z
        · exact absurd (show p ∈ ([] : List (Addr × Obj)) from z) (by simp)
        · simpa using z
      subst hp'
      refine ⟨hacc, I2.hok.fresh (Nat.le_refl _), hDC, fun z => ?_, fun v z => by cases z⟩
      exact absurd (show s2.heap.objs.size ∈ frs X.stack from z) fun z => by
        rcases List.mem_cons.mp (I2.stkSub _ z) with e | e
        · have := I2.lt
          rw [← e] at this
          exact Nat.lt_irrefl _ this
        · exact I2.nofs (Nat.le_refl _) e
    · show _ = N'.length
      rw [hN']
      simp [caps]
  have stat : ∀ {H' : Hp} {ob : Obj}, (∀ b ∈ fp, H' b = none) → ∀ b ∈ fp, FpOk (cxComp X scope N' G.objs.size s2 H2 fp) [(s2.heap.objs.size, ob)] H' b := fun {H' ob} hn b hb =>
    ⟨hn b hb, (below b (fplt b hb)).1, fun z => ok'.exfs b hb z, .inl hb, fun x c e => (f2 b hb).2.2.2.2.1 x c (lookup_closOf hcl e), fun p hp => by
      have hp' : p = (s2.heap.objs.size, ob) := by
        rcases List.mem_append.mp hp with z | z
        · exact absurd (show p ∈ ([] : List (Addr × Obj)) from z) (by simp)
        · simpa using z
      subst hp'
      exact Ne.symm (below b (fplt b hb)).2⟩
  have loop : ∀ s₃ : Shared, s₃ = { s2 with heap := h₁, toks := s2.toks + ([] : List (Str × Value)).length } →
      codeAny (model X.prog X.w) X.A (.compLoop (.ListComp elt [⟨tg, iter, ifs, 0⟩] scope pos) 0 (.ref it) (.ref s2.heap.objs.size) (compEnvC scope (closOf scope X.env) G.objs.size X.env))
        (compPost (model X.prog X.w) X.A X.xe use Qf (.ref s2.heap.objs.size) G.objs.size) s₃ := by
    rintro s₃ rfl
    refine comp_loop (fun n s' => ∃ (i : Nat) (os : St) (H' : Hp) (ys : List V) (its : List Value) (k : Nat), os.length = own.length ∧
      Inv (cxComp X scope N' G.objs.size s2 H2 fp) [(s2.heap.objs.size, { cls := .type "list", data := .seq its.toArray k })] (os ++ caps σ js) H' s' ∧ tn i s'.heap ∧ (∀ b ∈ fp, H' b = none) ∧ Vals ys its ∧ W i n ys H') ?_ m0
      ⟨0, _, H2, [], [], 0, by simp, I0 _, T.keep _ _ _ st2 fun b _ o e => old b o e, fun b hb => (f2 b hb).1, .nil, w0⟩
    rintro n s3 ⟨i, os, H3, ys, its, k, hos, I3, st3, fr3, rv3, w3⟩
    have pinD : ∀ {σ' : St} {H' : Hp} {s' : Shared}, Inv (cxComp X scope N' G.objs.size s2 H2 fp) [(s2.heap.objs.size, { cls := .type "list", data := .seq its.toArray k })] σ' H' s' → s'.heap.get? s2.heap.objs.size = some { cls := .type "list", data := .seq its.toArray k } ∧ H' s2.heap.objs.size = none :=
      fun I => let q := I.pin (s2.heap.objs.size, { cls := .type "list", data := .seq its.toArray k }) (List.mem_append_right _ (by simp)); ⟨q.1, q.2.1⟩
    rcases turn i n ys H3 w3 with ⟨stop, hz, qn⟩ | ⟨go, hz, step⟩
    · refine thn (T.done (cxComp X scope N' G.objs.size s2 H2 fp) rfl rfl rfl hc i _ s3 _ H3 _ I3 (stat fr3) st3 stop) fun r s4 ⟨hr, I4⟩ => ?_
      subst hr
      obtain ⟨hD4, hn4⟩ := pinD I4
      obtain ⟨m, hm, _⟩ := I4.loc
      have hsb : Heap.SameBut G.objs.size s4.heap s4.heap := ⟨rfl, fun _ _ => rfl⟩
      have b4 := I4.base
      have nC : ∀ b o, s2.heap.get? b = some o → b ≠ G.objs.size := fun b o e => (below b (Heap.lt_size e)).1
      have nD : ∀ b o, s2.heap.get? b = some o → b ≠ s2.heap.objs.size := fun b o e => (below b (Heap.lt_size e)).2
      have hok' : HOk X.prog X.w H3 s4.heap := fun b ob e => by
        refine (I4.hok b ob e).stay (fun c w' hc' q => (hsb.2 c ?_).trans q) (fun _ q => q) fun _ _ q => q
        rintro rfl
        rcases hc' with hc' | hc'
        · rw [← hc', show H3 G.objs.size = none from I4.free] at e; cases e
        · rw [show H3 G.objs.size = none from I4.free] at hc'; cases hc'
      have hD' : s4.heap.get? s2.heap.objs.size = some { cls := .type "list", data := .seq its.toArray k } := (hsb.2 _ hDC).trans hD4
      have hCn : H3 G.objs.size = none := I4.free
      have hC2 : s2.heap.objs.size ≤ G.objs.size := by rw [hC]; exact Nat.le_succ _
      refine fin s2.heap.objs.size G.objs.size (upd H3 s2.heap.objs.size (.lst ys)) s4 m ?_ (qn _ hn4) hm ⟨by rw [upd_ne (Ne.symm hDC)]; exact hCn, fun z => ?_, Nat.le_trans I2.sz hC2, fun x c e z => ?_, fun p hp z => ?_⟩
      rotate_left
      · have h9 := I2.lt
        rw [← z] at h9
        exact Nat.lt_irrefl _ (Nat.lt_of_lt_of_le h9 hC2)
      · obtain ⟨v, o, ho, _⟩ := I2.cell x c e
        have h9 := Heap.lt_size ho
        rw [z] at h9
        exact Nat.lt_irrefl _ (Nat.lt_of_lt_of_le h9 hC2)
      · have h9 := Heap.lt_size (I2.pin p hp).1
        rw [z] at h9
        exact Nat.lt_irrefl _ (Nat.lt_of_lt_of_le h9 hC2)
      refine I2.call' (ch := fp) I4.os ⟨fun b o e n hb hx => ?_, fun b o e n hb hx => ?_, fun b o e n hx => ?_, fun b o e hx => ?_, fun b xs q => ?_, fun b o u q => ?_, fun b ps q => ?_⟩ (hok'.track hn4 ⟨hz, its, k, rv3, hD'⟩) I4.bare fun b hb => ⟨(f2 b hb).2.2.2.1, (f2 b hb).2.1, (f2 b hb).2.2.2.2.1, (f2 b hb).2.2.2.2.2⟩
      · exact (hsb.2 b (nC b o e)).trans (b4.keep b o e n hb hx)
      · obtain ⟨sl, e1⟩ := b4.slot b o e n hb hx
        exact ⟨sl, (hsb.2 b (nC b o e)).trans e1⟩
      · rw [upd_ne (nD b o e)]; exact b4.free b o e n hx
      · obtain ⟨o', e1⟩ := b4.there b o e hx
        exact ⟨o', (hsb.2 b (nC b o e)).trans e1⟩
      · have z := b4.tups b xs q
        rw [upd_ne (ne_of_none z hn4)]; exact z
      · have z := b4.frzs b o u q
        rw [upd_ne (ne_of_none z hn4)]; exact z
      · obtain ⟨more, z⟩ := b4.tbls b ps q
        exact ⟨more, by rw [upd_ne (ne_of_none z hn4)]; exact z⟩
    · refine thn (T.item (cxComp X scope N' G.objs.size s2 H2 fp) rfl rfl rfl hc i _ s3 _ H3 _ I3 (stat fr3) st3 go) fun r s4 ⟨u, hr, h4⟩ => ?_
      subst hr
      refine thn h4 fun _ s5 ⟨x, H5, I5, r5, y5, st5, fr5⟩ => ?_
      have fpo := T.obj _ _ st5
      have I5' := I5.pinned (stat fr5) fpo
      refine wpAny_mono (hg _ _ _ _ _ s5 _ H5 x u _ I5' r5 (step x H5 y5 os hos)) (fun _ s6 ⟨σ6, H6, I6, ⟨os', hos', e6⟩, q6⟩ => ?_) fun _ _ z => False.elim z
      subst e6
      refine wpAny_mono (ht _ _ _ _ _ s6 _ H6 _ I6 q6) (fun ok s7 ⟨H7, I7, q7⟩ => ?_) fun _ _ z => False.elim z
      have keepFp : ∀ {σ' : St} {H' : Hp} {s' : Shared}, Inv (cxComp X scope N' G.objs.size s2 H2 fp) ([(s2.heap.objs.size, { cls := .type "list", data := .seq its.toArray k })] ++ pinsAt fp s5.heap) σ' H' s' → tn (i + 1) s'.heap ∧ ∀ b ∈ fp, H' b = none := fun I => by
        refine ⟨T.keep _ _ _ st5 fun b hb o e => (I.pin (b, o) (List.mem_append_right _ (List.mem_append_right _ (mem_pinsAt hb e)))).1, fun b hb => ?_⟩
        obtain ⟨o, e, d⟩ := fpo b hb
        exact (I.pin (b, o) (List.mem_append_right _ (List.mem_append_right _ (mem_pinsAt hb e)))).2.1
      cases ok with
      | false =>
        obtain ⟨m', hm', w'⟩ := q7
        obtain ⟨k1, k2⟩ := keepFp I7
        exact ⟨m', hm', i + 1, os', H7, ys, its, k, hos', I7.unpinned, k1, k2, rv3, w'⟩
      | true =>
        rw [if_pos rfl]
        refine wpAny_mono (he _ _ _ _ _ s7 _ H7 _ I7 q7) (fun yv s8 ⟨y, H8, I8, r8, q8⟩ => ?_) fun _ _ z => False.elim z
        obtain ⟨m', hm', w'⟩ := q8
        obtain ⟨k1, k2⟩ := keepFp I8
        have I8' := I8.unpinned
        obtain ⟨hD8, hn8⟩ := pinD I8'
        have hil : its.length < sizeLine := by rw [← rv3.length]; exact hz
        refine call_meets F.slot_list_append ⟨_, hD8, rfl⟩ F.entry_list_append (F.args_list_append_2 _ _) (PySem.list_append _ its.toArray k yv (by rw [List.size_toArray]; omega)) ⟨hD8, ?_⟩
        have q : (s8.heap.update s2.heap.objs.size (Obj.mapSeq fun a => a.push yv)).get? s2.heap.objs.size = some { cls := .type "list", data := .seq (its ++ [yv]).toArray (if (its.toArray.push yv).size == its.toArray.size then k else k + 1) } := by
          have q0 := PySem.IsL.update hD8 (fun a : Array Value => a.push yv)
          have ea : its.toArray.push yv = (its ++ [yv]).toArray := by simp
          rw [← ea]
          exact q0
        refine ⟨m', hm', i + 1, os', H8, ys ++ [y], its ++ [yv], (if (its.toArray.push yv).size == its.toArray.size then k else k + 1), hos', ?_, T.keep _ _ _ k1 fun b hb o e => (Heap.get?_update_other s8.heap _ (below b (fplt b hb)).2.symm).trans e, k2, rv3.append (.cons r8 .nil), w'⟩
        have In : Inv (cxComp X scope N' G.objs.size s2 H2 fp) [] (os' ++ caps σ js) H8 s8 := I8'.pins_of fun p hp => absurd hp (by simp)
        have It : Inv (cxComp X scope N' G.objs.size s2 H2 fp) [] (os' ++ caps σ js) H8 { s8 with heap := s8.heap.update s2.heap.objs.size (Obj.mapSeq fun a => a.push yv) } :=
          In.turned (it := s2.heap.objs.size) (t' := s8.toks) (fun b o hb e => (Heap.get?_update_other s8.heap _ (Ne.symm hb)).trans e) hn8 hDC (.inr (Nat.le_refl _)) (fun x c e z => by
            obtain ⟨v, o, ho, hd⟩ := I8'.cell x c e
            rw [z, hD8] at ho
            cases ho
            cases hd) fun p hp => absurd hp (by simp [cxComp])
        refine It.pins_of fun p hp => ?_
        have hp' : p = (s2.heap.objs.size, { cls := .type "list", data := .seq (its ++ [yv]).toArray (if (its.toArray.push yv).size == its.toArray.size then k else k + 1) }) := List.mem_singleton.mp hp
        subst hp'
        exact ⟨q, hn8, hDC, (I8'.pin _ (List.mem_append_right _ (List.mem_singleton.mpr rfl))).2.2.2.1, fun v z => by cases z⟩
  exact codeAny_compStart_list (loop _ rfl) (T.self _ 0 _ _ _ (T.keep _ _ _ st2 fun b _ o e => old b o e) (loop _ rfl))
/-- y = [elt for x in iter if ..], y a local name of the def: it is stored ahead of the block's own names' end -/
theorem ps_setC {X : Cx} {elt iter : Expr} {x y : Str} {px py pos spos : Pos} {ifs : List Expr} {scope : Scope} {wi : TI} {tc : TT} {te : TE} {i : Nat} (js : List Nat) (N' : List Str) (hN : X.N.Nodup) (hy : X.N[i]? = some y) (hl : Loc X.env.scope y) (hc : X.calm = true)
    (hi : PI X (.Name x px) iter wi)
    (ht : ∀ C s₀ H₀ ex, PTs (cxComp X scope N' C s₀ H₀ ex) ifs tc)
    (he : ∀ C s₀ H₀ ex, PE (cxComp X scope N' C s₀ H₀ ex) elt te)
    (hsw : swapsWith (.ListComp elt [⟨.Name x px, iter, ifs, 0⟩] scope pos) (some (.Name y py)) spos.line X.env = pure true := by rfl)
    (hf : X.fn y = true ∨ X.env.scope.names.lookup y = some .local := by first | exact .inl rfl | exact .inr rfl | assumption)
    (nd : N'.Nodup := by decide +kernel)
    (hx : scope.names.lookup x = some .local := by rfl)
    (hN' : N' = [x] ++ js.map fun j => X.N.getD j Str.empty := by rfl)
    (hk : scope.kind = .function := by rfl)
    (hcell : ∀ y ∈ scope.names, y.2 ≠ .cell := by decide +kernel)
    (hnames : ∀ y ∈ scope.names, y.2 = .local → scope.names.lookup y.1 = some .local := by decide +kernel)
    (hfr : (scope.names.all fun y => y.2 != .free || X.env.scope.names.lookup y.1 == some .cell) = true := by rfl)
    (hjs : (js.all fun j => scope.names.lookup (X.N.getD j Str.empty) == some .free && (X.N[j]?).isSome) = true := by rfl)
    (hs : ∀ z, foldedSetIterable iter X.env z = pure z := by intro _; rfl) :
    PS X (.Assign [.Name y py] (.ListComp elt [⟨.Name x px, iter, ifs, 0⟩] scope pos) spos) (tAsg (tComp 1 js wi (gName 0) tc te) (gName i)) := by
  intro pins s σ H D I h
  rw [exec_Assign_Name_used _ _ _ _ hsw]
  refine wpAny_bind (wpAny_standAt (wpAny_bind ?_))
  show wpAny _ _ (do let _ ← comprehension (.ListComp elt [⟨.Name x px, iter, ifs, 0⟩] scope pos) scope X.env _ (newList []) false (eval iter X.env) (some (assign (.Name y py) X.env))) _ _ s
  refine wpAny_bind (wpAny_mono (comp_gen (use := some (assign (.Name y py) X.env)) (Qf := fun _ s' => SP X pins D .next s') [x] js N' hc hi (fun C s₀ H₀ ex => pg_name (X := cxComp X scope N' C s₀ H₀ ex) (i := 0) nd (by show N'[0]? = some x; rw [hN']; rfl) (Or.inl (lookup_relabel_local hx)) (.inr (lookup_relabel_local hx)))
    ht he hN' hk hcell hnames hfr hjs hs I h ?_) (fun _ s' hq => wpAny_pure (wpAny_pure hq)) fun _ _ e => e)
  intro B C H' s4 m I4 q hn ce
  refine wpAny_assign_Name (store_ok2 I4 hN hy hl (v := .ref B) rfl (fun s5 I5 ⟨a, sb, ha⟩ => ?_) hf)
  have hne : C ≠ a := by
    rcases ha with rfl | ha
    · exact ce.ne
    · exact Ne.symm (ce.cl _ _ ha)
  refine ⟨m, hn.sameBut sb hne, fun h' hsb => ⟨_, H', I5.turned (t' := s5.toks) (it := C) (fun b o hb e => (hsb.2 b hb).trans e) ce.no ce.ne (.inr ce.new) ce.cl ce.pn, q⟩⟩
end L2

set_option Elab.async false
set_option linter.all false
set_option maxRecDepth 100000
set_option maxHeartbeats 1000000
namespace L2
open PySem PySem.Spec PyProof.Rows
/-! ### for x, y in zip(t, u), t and u tuples -/
section
variable {P : Program} {w : World} {A : Around} {E : Value → Shared → Prop} {s : Shared}
end
end L2

set_option Elab.async false
set_option linter.all false
set_option maxRecDepth 100000
set_option maxHeartbeats 3200000
namespace L2
open PySem PySem.Spec PyProof.Rows
/-! ### the unlike ones of a row of keys -/
@[reducible] def keyBEq : BEq Key := instBEqOfDecidableEq
local instance (priority := 10000) keyBEqI : BEq Key := keyBEq
local instance (priority := 10000) keyLaw : @LawfulBEq Key keyBEq := inferInstanceAs (@LawfulBEq Key instBEqOfDecidableEq)
def addK (σ : List Key) (k : Key) : List Key := if k ∈ σ then σ else σ ++ [k]
def metK (val : Nat → Key) : Nat → List Key
  | 0 => []
  | i + 1 => addK (metK val i) (val i)
theorem metK_le (val : Nat → Key) : ∀ i, (metK val i).length ≤ i
  | 0 => Nat.le_refl _
  | i + 1 => by
    have := metK_le val i
    show (addK (metK val i) (val i)).length ≤ i + 1
    unfold addK
    split
    · omega
    · rw [List.length_append]; simp; omega
def uniqK (ks : List Key) : List Key := metK (fun i => ks.getD i (.inl 0)) ks.length
section
variable {P : Program} {w : World} {A : Around} {R : Result → Shared → Prop} {I : Addr} {fp wr : List Addr} {G : Array GenState → Array GenState → Prop} {n : Nat} {Pr : Nat → Value → Prop} {St : Nat → Shared → Prop}
theorem setFill (W : WalksS P w A.in1 I fp wr G n Pr St) (D : Addr) (hD : D ∉ fp) (val : Nat → Key) (hval : ∀ i v, Pr i v → (mixKind P w).is (val i) v = true ∧ v.scannable = true) (hb : n + 1 < scanBound) :
    ∀ (k i : Nat) (s : Shared), n - i = k → i ≤ n → St i s → s.heap.SetOf (mixKind P w) D (fun q => decide (q ∈ metK val i)) (metK val i).length →
      (∀ s', Moved (D :: wr) G s s' → s'.heap.SetOf (mixKind P w) D (fun q => decide (q ∈ metK val n)) (metK val n).length → R (.ok (.ret .none)) s') →
      codeAny (model P w) A (.builtin "set.update.loop" ⟨[.ref D, .ref I], []⟩) R s := by
  have hDw : D ∉ wr := fun h => hD (W.sub _ h)
  have sub : ∀ b ∈ wr, b ∈ D :: wr := fun b h => List.mem_cons_of_mem _ h
  have mv : ∀ {s s' : Shared} {T : Key → Bool} {m : Nat}, Moved wr G s s' → s.heap.SetOf (mixKind P w) D T m → s'.heap.SetOf (mixKind P w) D T m := fun hm h => by
    obtain ⟨o, es, ep, tb, ho, rest⟩ := h
    exact ⟨o, es, ep, tb, hm.heap D _ hDw ho, rest⟩
  intro k
  induction k with
  | zero =>
    intro i s hk hi hst hS hR
    obtain rfl : i = n := by omega
    refine codeAny_builtin F.entry_set_update_loop ?_
    rw [Around.under_plainId F.plain_set_update_loop _]
    exact wpAny_bind (m := pyNext (.ref I)) (W.done s _ _ hst fun s' hm => wpAny_pure (hR s' (hm.mono sub) (mv hm hS)))
  | succ k ih =>
    intro i s hk hi hst hS hR
    have lt : i < n := by omega
    refine codeAny_builtin F.entry_set_update_loop ?_
    rw [Around.under_plainId F.plain_set_update_loop _]
    refine wpAny_bind (m := pyNext (.ref I)) (W.item i s _ _ lt hst fun v s' hP hst' hm => ?_)
    obtain ⟨hi1, hi2⟩ := hval i v hP
    have hS' := mv hm hS
    refine wpAny_bind (m := holding [v] (setAdd D v)) (wpAny_holding ?_)
    unfold setAdd
    refine wpAny_holding (wpAny_bind ((mixKind P w).pyHash (k := val i) hi1 ?_))
    have room : (metK val i).length + 1 < scanBound := by have := metK_le val i; omega
    refine wpAny_setAddHashed_of (knd := mixKind P w) (s := { s' with toks := s'.toks + 1 }) hi1 hi2 hS' room fun h' sb S2 => ?_
    have Sn : h'.SetOf (mixKind P w) D (fun q => decide (q ∈ metK val (i + 1))) (metK val (i + 1)).length := by
      refine SetOf_congr S2 (fun q => ?_) ?_
      · show (decide (q ∈ metK val i) || decide (q = val i)) = decide (q ∈ addK (metK val i) (val i))
        unfold addK
        by_cases h1 : val i ∈ metK val i
        · rw [if_pos h1]
          by_cases e : q = val i
          · subst e; simp [h1]
          · simp [e]
        · rw [if_neg h1]
          simp
      · show (if decide (val i ∈ metK val i) = true then _ else _) = (addK (metK val i) (val i)).length
        unfold addK
        by_cases h1 : val i ∈ metK val i
        · rw [if_pos h1, if_pos (decide_eq_true h1)]
        · rw [if_neg h1, if_neg (by simpa using h1)]
          simp
    refine wpAny_pure ⟨plainId_quiet F.plain_set_update_loop _, ih (i + 1) _ (by omega) lt (W.frame _ s' _ _ hst' (Nat.le_succ _) fun b hb' o e => ?_) Sn fun s'' m2 T2 => ?_⟩
    · rw [sb.2 b (fun h => hD (h ▸ hb'))]; exact e
    · refine hR s'' (Moved.trans W.gtrans ((hm.mono sub).then_heap (Nat.le_succ _) fun b o hb' e => ?_) m2) T2
      rw [sb.2 b (fun h => hb' (h ▸ List.mem_cons_self))]; exact e
end
section
variable {P : Program} {w : World} {A : Around} {E : Value → Shared → Prop} {s : Shared}
theorem call_set_keys {l : Addr} {items : Array Value} {ks : List Key} {Q : Value → Shared → Prop} (hh : A.handled = none) (hl : s.heap.IsList l items) (hlen : items.size = ks.length) (hi : ∀ i v, items[i]? = some v → (mixKind P w).is (ks.getD i (.inl 0)) v = true ∧ v.scannable = true) (hb : items.size + 1 < scanBound)
    (h : ∀ (h' : Heap) (tk : Nat), h'.SetOf (mixKind P w) s.heap.objs.size (fun q => decide (q ∈ uniqK ks)) (uniqK ks).length → (∀ b o, b < s.heap.objs.size → s.heap.get? b = some o → h'.get? b = some o) → Q (.ref s.heap.objs.size) { s with heap := h', toks := tk }) :
    wpAny (model P w) A (call (.type "set") [.ref l]) Q E s := by
  obtain ⟨c, tl, hmro⟩ := F.called_set.mro
  have hmade := F.called_set.made
  have hsub := F.called_set.sub
  refine wpAny_call (codeAny_of_tree (?_ : wpAny _ _ (callAny (.type "set") _) _ _ _))
  refine wpAny_pure ⟨Code.quiet_builtin _ (by decide +kernel), codeAny_builtin F.entry_type_call ?_⟩
  rw [Around.under_plain (weight_type_call_type "set" [.ref l] []) rfl]
  have k1 := F.called_set.notType
  have k2 := F.called_set.canCreate
  have hct := F.typeCall_set_1 (.ref l)
  repeat (any_goals (first | assumption | wp_step))
  refine codeAny_mono (code_set_new_1 (.ref l) (E := E) (Q₁ := fun obj s₁ => ∃ led : Bool, obj = .ref s.heap.objs.size ∧ s₁ = { s with heap := s.heap.push ⟨.type "set", none, .set #[] 0 (.fresh 0 0 led), #[]⟩ }) fun led => ⟨led, rfl, rfl⟩) fun r s₁ hr => ?_
  cases r with
  | error e => exact hr
  | ok fl =>
    cases fl with
    | ret obj =>
      obtain ⟨led, rfl, rfl⟩ := hr
      have hS : (s.heap.push ⟨.type "set", none, .set #[] 0 (.fresh 0 0 led), #[]⟩).get? s.heap.objs.size = some ⟨.type "set", none, .set #[] 0 (.fresh 0 0 led), #[]⟩ := Heap.get?_push_size _ rfl
      have hT : Shared.TypeIs { s with heap := s.heap.push ⟨.type "set", none, .set #[] 0 (.fresh 0 0 led), #[]⟩ } (.ref s.heap.objs.size) "set" := ⟨_, hS, rfl⟩
      have hli := F.called_set.init.lookup
      have hbi := F.called_set.init.bind (.ref s.heap.objs.size)
      repeat (any_goals (first | assumption | wp_step))
      refine codeAny_mono (codeAny_call_builtin (R := wants (fun r s₂ => r = .none ∧ ∃ h' tk, s₂ = { s with heap := h', toks := tk } ∧ h'.SetOf (mixKind P w) s.heap.objs.size (fun q => decide (q ∈ uniqK ks)) (uniqK ks).length ∧ (∀ b o, b < s.heap.objs.size → s.heap.get? b = some o → h'.get? b = some o)) E) F.called_set.init.plain F.entry_set_init (check_set_init_1 hT ?_)) fun r₂ s₂ hr₂ => ?_
      · obtain ⟨ol, hol, hcl, nl, hdl⟩ := hl
        obtain ⟨ocls, odict, odata, oslots⟩ := ol
        simp only at hcl hdl
        subst hcl; subst hdl
        have hol' : (s.heap.push ⟨.type "set", none, .set #[] 0 (.fresh 0 0 led), #[]⟩).get? l = some { cls := .type "list", dict := odict, data := .seq items nl, slots := oslots } := Heap.get?_push_of_some _ hol
        have hsls := F.sub_list_set
        have hslf := F.sub_list_frozenset
        have hne : (Value.type "list" == Value.type "dict") = false := by decide
        have hl1 : (s.heap.push ⟨.type "set", none, .set #[] 0 (.fresh 0 0 led), #[]⟩).IsList l items := ⟨_, hol', rfl, nl, rfl⟩
        unfold Builtin.«set.__init__» noKeywords Builtin.Frozenset.updateFrom
        generalize hPI : pyIter = PI
        wp_walk
        subst hPI
        refine wpAny_pyIter_list hl1 (wpAny_bind (wpAny_runValue ?_))
        have hlS : l < s.heap.objs.size := Heap.lt_size hol
        have hh3 : A.in1.in1.in1.handled = none := by simp [hh]
        have hneI : l ≠ (s.heap.push ⟨.type "set", none, .set #[] 0 (.fresh 0 0 led), #[]⟩).objs.size := by rw [Heap.size_push]; exact Nat.ne_of_lt (Nat.lt_succ_of_lt hlS)
        have hSf : s.heap.objs.size ∉ [(s.heap.push ⟨.type "set", none, .set #[] 0 (.fresh 0 0 led), #[]⟩).objs.size, l] := by
          rw [Heap.size_push]
          intro q
          rcases List.mem_cons.mp q with q | q
          · exact Nat.ne_of_lt (Nat.lt_succ_self _) q
          · exact Nat.ne_of_gt hlS (List.mem_singleton.mp q)
        refine setFill ((Walks.list hh3 _ l hneI items).toS) s.heap.objs.size hSf (fun i => ks.getD i (.inl 0)) hi hb (items.size - 0) 0 _ (by omega) (Nat.zero_le _) ⟨⟨_, Heap.get?_push_size _ rfl, rfl, rfl⟩, (hl1.push _)⟩ ?hS0 ?hR
        case hS0 =>
          have hget : ((s.heap.push ⟨.type "set", none, .set #[] 0 (.fresh 0 0 led), #[]⟩).push { cls := .type "list_iterator", data := .fields #[.ref l, .int 0 0] }).get? s.heap.objs.size = some ⟨.type "set", none, .set #[] 0 (.fresh 0 0 led), #[]⟩ := Heap.get?_push_of_some _ hS
          exact SetOf_congr ((setObjOf_fresh (knd := mixKind P w) led).setOf hget (by unfold scanBound; omega)) (fun q => by show false = decide (q ∈ ([] : List Key)); simp) rfl
        case hR =>
          intro s' hm hS'
          obtain ⟨h', g', d', tk', os'⟩ := s'
          obtain rfl : g' = s.gens := hm.gens
          obtain rfl : d' = s.drawn := hm.drawn
          obtain rfl : os' = s.os := hm.os
          show wpAny _ _ _ _ _ _
          refine wpAny_pure (?_ : wpAny _ _ (ret Value.none) _ _ _)
          rw [hlen] at hS'
          refine wpAny_pure ⟨rfl, h', tk', rfl, hS', fun b o hb' e => ?_⟩
          have n1 : b ≠ s.heap.objs.size := Nat.ne_of_lt hb'
          have n2 : b ≠ (s.heap.push ⟨.type "set", none, .set #[] 0 (.fresh 0 0 led), #[]⟩).objs.size := by rw [Heap.size_push]; exact Nat.ne_of_lt (Nat.lt_succ_of_lt hb')
          refine hm.heap b o (fun q => ?_) (Heap.get?_push_of_some _ (Heap.get?_push_of_some _ e))
          rcases List.mem_cons.mp q with q | q
          · exact n1 q
          · exact n2 (List.mem_singleton.mp q)
      · cases r₂ with
        | error e => exact hr₂
        | ok fl₂ =>
          cases fl₂ with
          | ret r =>
            obtain ⟨rfl, h', tk, rfl, hS', hk'⟩ := hr₂
            repeat (any_goals (first | assumption | wp_step))
            exact h _ _ hS' hk'
          | _ => exact hr₂.elim
    | _ => exact hr.elim
end
end L2

set_option Elab.async false
set_option linter.all false
set_option maxRecDepth 100000
set_option maxHeartbeats 1000000
namespace L2
open PySem PySem.Spec PyProof.Rows
/-! ### len(set(l)), sum(l), list(range(n)), l[a:b:c] -/
section
variable {X : Cx} {e l : Expr} {te tl : TE} {p pos p2 pos2 : Pos}
def tLenSet (K : PySem.W.Frag) (tl : TE) : TE := fun σ H Q => tl σ H fun x H1 => ∃ a ks, x = .ref a ∧ SqL K H1 a (ks.map kV) ∧ ks.length + 1 < scanBound ∧ Q (.int ((uniqK ks).length : Int)) H1
theorem boot_set : bootBuiltins "set" = some (.type "set") := by kernel_rfl
theorem kV_scan {k : Key} {u : Value} (r : RelV (kV k) u) : u.scannable = true := by
  cases k with
  | inl i => obtain ⟨t, rfl⟩ := (show ∃ t, u = Value.int i t from r); rfl
  | inr x => obtain ⟨t, rfl⟩ := (show ∃ t, u = Value.str x t from r); rfl
theorem pe_lenset (hc : X.calm = true) (h1 : X.mg "len" = none) (h2 : X.mg "set" = none) (hl : PE X l tl) (hg1 : Gl X "len" := by rfl) (hg2 : Gl X "set" := by rfl) (hs : notStar l = true := by rfl) :
    PE X (.Call (.Name "len" p) [.Call (.Name "set" p2) [l] [] pos2] [] pos) (tLenSet X.K tl) := by
  intro pins s σ H Q I h
  refine wpAny_Call_Name_kw (ld_blt I hg1 h1 boot_len ?_)
  refine PyProof.Rows.callWith_builtin1 ?_ (star_cons rfl) (star_none rfl)
  rw [star_cons rfl]
  refine (Calls.spliced_cons ?_ : wpAny _ _ (spliced ((false, eval (.Call (.Name "set" p2) [l] [] pos2) X.env) :: backTo pos (starEach [] X.env))) _ _ s)
  refine wpAny_Call_Name_kw (ld_blt I hg2 h2 boot_set ?_)
  have h' : (tCons tl tNil) σ H (fun vs H1 => match vs with | [x] => (∃ a ks, x = .ref a ∧ SqL X.K H1 a (ks.map kV) ∧ ks.length + 1 < scanBound ∧ Q (.int ((uniqK ks).length : Int)) H1) | _ => False) := h
  refine PyProof.Rows.callWith_type1 (thn ((pa_c hl pa_nil hs) pos2 pins s σ H _ I h') fun us s1 ⟨vs, H1, I1, r1, q1⟩ => ?_) (star_cons hs) (star_none rfl)
  match vs, q1, r1 with
  | [x], q1, r1 =>
  obtain ⟨a, ks, rfl, hq, hb, q⟩ := q1
  obtain ⟨u, rfl, ru⟩ := r1.one
  cases ru
  obtain ⟨its, rv, pl, hz⟩ := I1.list hq
  have hlen := rv.length
  rw [List.length_map] at hlen
  refine call_set_keys (ks := ks) (I1.ok.hd hc) pl.isList (by simpa using hlen.symm) (fun i v hv => ?_) (by rw [List.size_toArray, ← hlen]; exact hb) fun h' tk so k => Calls.spliced_nil ?_
  · have hv' : its[i]? = some v := by simpa using hv
    have hi : i < ks.length := by have := (List.getElem?_eq_some_iff.mp hv').1; omega
    obtain ⟨u', e', r'⟩ := rv.get (i := i) (x := kV ks[i]) (by simp [hi])
    rw [e'] at hv'
    cases hv'
    have e2 : ks.getD i (.inl 0) = ks[i] := by simp [List.getD_eq_getElem?_getD, hi]
    rw [e2]
    exact ⟨kV_is r', kV_scan r'⟩
  · obtain ⟨o, es, ep, t, ho, hex, hd, _, _, hsz, hf, hn⟩ := so
    have hbig : scanBound ≤ 2 ^ 62 := by decide
    refine call_len_set ho hex hd hf (by omega) ⟨.int ((uniqK ks).length : Int), H1, ?_, ⟨_, by rw [hn]⟩, q⟩
    exact I1.kept fun b o e => k b o (Heap.lt_size e) e
variable {lo hi : Option Expr} {st : Expr} {t1 t2 t3 : TO}
end
/-! ### isinstance(x, (T, ..)) -/
section
variable {X : Cx} {pins : List (Addr × Obj)} {σ : St} {H : Hp} {s : Shared}
end
end L2

set_option Elab.async false
set_option linter.all false
set_option maxRecDepth 100000
set_option maxHeartbeats 1000000
namespace L2
open PySem PySem.Spec PyProof.Rows
/-! ### a class of the text that is called with keywords, defaults left out -/
section
variable {P : Program} {w : World} {K : PySem.W.Frag} {mg : Str → Option Value} {base : Heap}
end
section
variable {X : Cx} {CX : CXT} {x : Str} {ps ks : List Str} {sp : Sp} {j k np : Nat} {T : List Bi} {e : Expr} {es : List Expr} {kws : List Keyword} {t tk : TA} {p pos : Pos} {E : XK} {C f : Addr} {fd : FuncData} {Bs : PySem.W.Frag → FuncData → Prop}
end
end L2

set_option Elab.async false
set_option linter.all false
set_option maxRecDepth 100000
set_option maxHeartbeats 3200000
namespace L2
open PySem PySem.Spec PyProof.Rows
/-! ### dict(l), l a list of pairs -/
section
variable {P : Program} {w : World} {A : Around} {E : Value → Shared → Prop} {s : Shared}
end
namespace F
end F
section
variable {P : Program} {w : World} {A : Around} {R : Result → Shared → Prop} {I : Addr} {fp wr : List Addr} {G : Array GenState → Array GenState → Prop} {n : Nat} {Pr : Nat → Value → Prop} {St : Nat → Shared → Prop}
end
section
variable {P : Program} {w : World} {A : Around} {E : Value → Shared → Prop} {s : Shared}
end
section
variable {X : Cx}
end
end L2

set_option Elab.async false
set_option linter.all false
set_option maxRecDepth 100000
set_option maxHeartbeats 1000000
namespace L2
open PySem PySem.Spec PyProof.Rows
section
variable {X : Cx}
end
/-! ### isinstance(x, C), C a class of the text -/
section
variable {X : Cx} {pins : List (Addr × Obj)} {σ : St} {H : Hp} {s : Shared}
end
end L2

set_option Elab.async false
set_option linter.all false
set_option maxRecDepth 100000
namespace L2
open PySem PySem.Spec PyProof.Rows
end L2

set_option Elab.async false
set_option linter.all false
set_option maxRecDepth 100000
namespace L2
open PySem PySem.Spec PyProof.Rows
/-! ### a method of an object whose class is one of some -/
section
variable {X : Cx} {CX : CXT} {ι : Type} {c : ι → Addr} {m : Str} {ps : List Str} {sp : ι → Sp} {j k : Nat} {o e : Expr} {es : List Expr} {ta : TE} {t : TA} {apos pos : Pos} {E : XK}
end
/-! ### a comprehension over a list of pairs, with a test -/
end L2

set_option Elab.async false
set_option linter.all false
set_option maxRecDepth 100000
namespace L2
open PySem PySem.Spec PyProof.Rows
/-! ### what is being handled, if anything is, has no context of its own -/
def Quiet (A : Around) (h : Heap) : Prop := A.handled = none ∨ ∃ (a : Addr) (o : Obj) (fs : Array Value), A.handled = some (.ref a) ∧ h.get? a = some o ∧ o.data = .fields fs ∧ fs[2]? = some .none
theorem Quiet.ext {A : Around} {h h' : Heap} (q : Quiet A h) (e : ∀ a o, A.handled = some (.ref a) → h.get? a = some o → h'.get? a = some o) : Quiet A h' := by
  rcases q with q | ⟨a, o, fs, a1, a2, a3, a4⟩
  · exact .inl q
  · exact .inr ⟨a, o, fs, a1, e a o a1 a2, a3, a4⟩
theorem Quiet.in1 {A : Around} {h : Heap} (q : Quiet A h) : Quiet A.in1 h := q
theorem entry_unchain : entryFor table "proto.unchain" = some Builtin.«proto.unchain» := by kernel_rfl
section
variable {prog : Program} {w : World} {A : Around} {E : Value → Shared → Prop} {s : Shared}
theorem raiseNewQ {α : Type} {x : Addr} {ox : Obj} {vs : Array Value} {Q : α → Shared → Prop} (hq : Quiet A s.heap) (hx : s.heap.get? x = some ox) (hd : ox.data = .fields vs) (h3 : 2 < vs.size) (hne : A.handled ≠ some (.ref x))
    (hE : ∀ h', Heap.SameBut x s.heap h' → (∃ o', h'.get? x = some o' ∧ o'.cls = ox.cls) → E (.ref x) { s with heap := h' }) : wpAny (model prog w) A (raiseNew (.ref x) : Sem α) Q E s := by
  simp only [raiseNew]
  refine wpAny_bind (wpAny_handled ?_)
  rcases hq with q | ⟨a, o, fs, a1, a2, a3, a4⟩
  · rw [q]
    exact wpAny_bind (wpAny_pure (wpAny_throw (hE s.heap (Heap.SameBut.refl ..) ⟨_, hx, rfl⟩)))
  · rw [a1]
    have hax : a ≠ x := fun z => hne (by rw [a1, z])
    have hb : ((Value.ref a) != (Value.ref x)) = true := by
      rw [bne_iff_ne]
      exact fun z => hax (by injection z)
    dsimp only
    rw [if_pos hb]
    refine wpAny_bind (wpAny_holding (wpAny_runValue ?_))
    refine codeAny_builtin entry_unchain ?_
    show wpAny _ _ (field (.ref a) 2 >>= _) _ _ s
    refine wpAny_bind (wpAny_field a2 a3 a4 ?_)
    show wpAny _ _ (ret Value.none) _ _ s
    refine wpAny_pure ?_
    refine wpAny_bind ?_
    simp only [updateField]
    refine wpAny_bind (wpAny_load hx ?_)
    rw [hd]
    dsimp only
    rw [if_pos h3]
    exact wpAny_update hx (wpAny_throw (hE _ (Heap.SameBut.update ..) ⟨_, Heap.get?_update_self _ hx (Obj.isFreed_of_fields (Obj.data_mapFields hd _)), Obj.cls_mapFields ..⟩))
end
end L2

set_option Elab.async false
set_option linter.all false
set_option maxRecDepth 100000
namespace L2
open PySem PySem.Spec PyProof.Rows
/-! ### an exception that is being handled, tracked -/
/-- an exception without a dict and without a context, of the class at C -/
def ExcO (a C : Addr) : HO := .ext fun h => ∃ o fs, h.get? a = some o ∧ o.cls = .ref C ∧ o.data = .fields fs ∧ fs[2]? = some Value.none ∧ o.dict = none
theorem exc_ok {P : Program} {w : World} {H : Hp} {h : Heap} {a C : Addr} (c : Ctx0 a h) (hc : ∃ o, h.get? a = some o ∧ o.cls = .ref C) : ObjOk P w H h a (ExcO a C) := by
  obtain ⟨o, fs, e, d, g, k⟩ := c
  obtain ⟨o', e', q⟩ := hc
  rw [e] at e'; cases e'
  refine ⟨⟨o, fs, e, q, d, g, k⟩, ⟨o, e⟩, fun h1 h2 p st => ?_⟩
  obtain ⟨o, fs, e, rest⟩ := p
  exact ⟨o, fs, st o e, rest⟩
theorem exc_at {P : Program} {w : World} {H : Hp} {h : Heap} {a C : Addr} (ok : HOk P w H h) (e : H a = some (ExcO a C)) : ∃ o fs, h.get? a = some o ∧ o.cls = .ref C ∧ o.data = .fields fs ∧ fs[2]? = some Value.none ∧ o.dict = none := (ok a _ e).1
/-- what of the text an exception's class must have -/
structure ECls (K : PySem.W.Frag) (C : Addr) : Prop where
  ga : PySem.W.findIn K (.ref C) "__getattribute__" = some (some (.builtin "BaseException.__getattribute__"))
  gh : PySem.W.findIn K (.ref C) "__getattr__" = some none
  be : PySem.W.mroIn K C (.type "BaseException") = some true
  hd : PySem.W.hasDictIn K C = true
  ha : PySem.W.findIn K (.ref C) "__class__" = some (some (.builtin "object.__class__"))
  hm : PySem.W.mroIn K C (.type "object") = some true
structure ECls0 (K : PySem.W.Frag) : Prop where
  hn : PySem.W.specialIn K (.builtin "object.__class__") "__get__" = some (some (.builtin "getset_descriptor.__get__"))
  htk : PySem.W.takesIn K (.builtin "object.__class__") = some true
theorem exc_class {prog : Program} {w : World} {A : Around} {E : Value → Shared → Prop} {s : Shared} {K : PySem.W.Frag} {x C : Addr} {ox : Obj} {Q : Option Value → Shared → Prop} (X : K.In s.heap) (I : PySem.W.InstAt s.heap x ox C none) (c : ECls K C) (c0 : ECls0 K)
    (q : Q (some (.ref C)) { s with toks := s.toks + 1 }) : wpAny (model prog w) A (getAttr? (.ref x) "__class__") Q E s := by
  obtain ⟨cd, hcd, _⟩ := PySem.W.any_some c.hd
  have hf : PySem.W.findObj K C none "__class__" = some (.bind (.builtin "getset_descriptor.__get__") (.builtin "object.__class__")) := by
    unfold PySem.W.findObj
    rw [hcd, Option.bind_some, c.ha, Option.bind_some]
    simp [c0.hn, c0.htk]
  obtain ⟨hh, g, d, t, os⟩ := s
  have L0 := I.type (M := model prog w)
  have L1 := PySem.W.looks_findIn (M := model prog w) X c.ga
  have LH : PySem.W.Looks (model prog w) hh (hookBefore (.ref C)) none := PySem.W.looks_hook X (by exact c.gh)
  have L2 := PySem.W.looks_find (M := model prog w) X I hf
  unfold getAttr? getAttrBy? getAttrBy
  refine wpAny_bind (wpAny_mkText (wpAny_bind (wpAny_attempt (wpAny_holding (wpAny_bind (L0.at (wpAny_bind (L1.at ?_))))))))
  dsimp only
  rw [show (onTheHeap (Value.ref C) && Value.builtin "BaseException.__getattribute__" == Value.builtin "object.__getattribute__") = false from by rw [show (Value.builtin "BaseException.__getattribute__" == Value.builtin "object.__getattribute__") = false from by decide +kernel, Bool.and_false], if_neg (by decide)]
  unfold getAttrByItsOwn
  refine wpAny_bind (LH.at (wpAny_bind (wpAny_attempt (wpAny_holding ?_))))
  unfold callGetattribute
  rw [show (false && onTheHeap (Value.builtin "BaseException.__getattribute__")) = false from rfl, if_neg (by decide)]
  unfold boundAndCalled
  rw [F.excAttr_ValueError.ga.bind]
  refine wpAny_bind (wpAny_pure ?_)
  show wpAny _ _ (call (.builtin "BaseException.__getattribute__") [.ref x, .str "__class__" t]) _ _ _
  refine wpAny_call ?_
  refine codeAny_call_builtin F.excAttr_ValueError.ga.plain F.entry_bexc_ga ?_
  refine @PySem.W.check_slot (model prog w) _ _ { heap := hh, gens := g, drawn := d, toks := t + 1, os := os } "BaseException.__getattribute__" "BaseException" "__getattribute__" (.ref x) [.str "__class__" t] [] _ (by decide +kernel) (by decide +kernel) (L0.andThen (PySem.W.looks_subIn X c.be)) (F.args_bexc_ga _ _) ?_
  unfold Builtin.«object.__getattribute__»
  refine wpAny_bind (wpAny_pure (wpAny_bind (wpAny_pure (wpAny_bind (L0.at (wpAny_bind (L2.at ?_)))))))
  show wpAny _ _ (holding [.builtin "object.__class__"] (call (.builtin "getset_descriptor.__get__") [.builtin "object.__class__", .ref x, .ref C]) >>= ret) _ _ _
  refine wpAny_bind (wpAny_holding (wpAny_call (PySem.W.class_get (s := { heap := hh, gens := g, drawn := d, toks := t + 1, os := os }) (ox := ox) (od := none) X I c.hm ?_)))
  refine wpAny_pure ?_
  exact PySem.W.handed_on rfl (wpAny_pure q)
theorem kitx_exc {K : PySem.W.Frag} {a C : Addr} (c : ECls K C) (c0 : ECls0 K) : PySem.W.KitX K (.ref a) (.ref C) (fun h => ∃ ox, PySem.W.InstAt h a ox C none) := by
  obtain ⟨cd, hcd, _⟩ := PySem.W.any_some c.hd
  have hc : ∃ o, K.lookup C = some o ∧ ∃ d, o.data = .cls d := by
    unfold PySem.W.clsIn at hcd
    split at hcd
    · rename_i ho
      exact ⟨_, ho, _, rfl⟩
    · cases hcd
  obtain ⟨oc, hl, dc, hdc⟩ := hc
  refine ⟨fun M h X p => ?_, fun M h X p => ?_, fun h tp dd its n sl X htp => ?_, fun {prog w A E Q s} X p q => ?_⟩
  · obtain ⟨ox, I⟩ := p
    exact I.type
  · intro A' Q' E' s' k q
    unfold isType loadHead
    refine wpAny_bind (wpAny_loadPart (k _ _ (X _ _ hl)) ?_)
    rw [hdc]
    exact wpAny_pure q
  · refine Bool.eq_false_iff.mpr fun q => ?_
    have e : C = tp := Value.ref.inj (beq_iff_eq.mp q)
    subst e
    have z := (X _ _ hl).symm.trans htp
    injection z with z
    rw [z] at hdc
    cases hdc
  · obtain ⟨ox, I⟩ := p
    exact exc_class X I c c0 q
section
variable {X : Cx}
/-- isinstance(e, D), e an exception, D a class of the text or a built-in one -/
def rIsiE (K : PySem.W.Frag) (D : Value) (vD : V) : List V → Hp → VK → Prop := fun xs H Q => ∃ a C b, xs = [.ref a, vD] ∧ H a = some (ExcO a C) ∧ ECls K C ∧ PySem.W.kitOne K (.ref C) D = some b ∧ Q (.bl b) H
theorem call_isiE {D : Value} {vD : V} (hD : ∀ u, RelV vD u → u = D) (c0 : ECls0 X.K) : CallR X (.builtin "isinstance") (rIsiE X.K D vD) := by
  intro pins s σ H xs us Q I r h
  obtain ⟨a, C, b, rfl, e, c, kit, q⟩ := h
  cases r with
  | cons rx rest =>
  obtain ⟨u, rfl, ru⟩ := Vals.one rest
  cases hD _ ru
  cases rx
  obtain ⟨o, fs, e1, e2, e3, e4, e5⟩ := exc_at I.hok e
  refine PySem.W.kia_one (kitx_exc c c0) I.kIn ⟨o, e1, e2, ?_, ?_⟩ kit (fun z => nomatch z) fun tk => ⟨.bl b, H, I.tok _, rfl, q⟩
  · unfold PySem.W.notCls
    rw [e3]
  · rw [e5]
    trivial
end
end L2

set_option Elab.async false
set_option linter.all false
set_option maxRecDepth 100000
namespace L2
open PySem PySem.Spec PyProof.Rows
section
variable {prog : Program} {w : World} {A : Around} {E : Value → Shared → Prop} {s : Shared}
/-- StopIteration is raised: what it leaves -/
theorem stopQ {α : Type} {Q : α → Shared → Prop} (hq : Quiet A s.heap) (hlt : ∀ a, A.handled = some (.ref a) → a < s.heap.objs.size)
    (hE : ∀ x h', s.heap.objs.size ≤ x → (∀ b o, s.heap.get? b = some o → h'.get? b = some o) → (∃ o', h'.get? x = some o' ∧ o'.cls = .type "StopIteration") → E (.ref x) { s with heap := h' }) :
    wpAny (model prog w) A (newExc (.type "StopIteration") [] >>= fun e => (raiseNew e : Sem α)) Q E s := by
  have ht : (s.heap.push { cls := Value.type "tuple", data := Data.seq #[] }).objs.size = s.heap.objs.size + 1 := by simp [Heap.push]
  have none_ : firstArgMember (.type "StopIteration") [] = pure Value.none := by first | rfl | (simp only [firstArgMember]; rfl)
  refine wpAny_bind ?_
  simp only [newExc, newTuple]
  refine wpAny_bind (wpAny_newObj_type (wpAny_bind (m := firstArgMember _ _) (wpAny_of_eq none_ (wpAny_newObj_type ?_ (by size_fits)))) (by size_fits))
  refine raiseNewQ (hq.ext fun a o h1 h2 => Heap.get?_push_of_some _ (Heap.get?_push_of_some _ h2)) (Heap.get?_push_size _ rfl) rfl (show 2 < 6 by decide) (fun z => ?_) fun h' sb ho => ?_
  · have h3 : (s.heap.push { cls := Value.type "tuple", data := Data.seq #[] }).objs.size < s.heap.objs.size := hlt _ z
    omega
  · obtain ⟨o', h1, h2⟩ := ho
    refine hE _ h' ?_ (fun b o e => ?_) ⟨o', h1, h2⟩
    · show s.heap.objs.size ≤ (s.heap.push { cls := Value.type "tuple", data := Data.seq #[] }).objs.size
      omega
    · exact (sb.2 b (Nat.ne_of_lt (Nat.lt_of_lt_of_le (Heap.lt_size e) (by rw [ht]; exact Nat.le_succ _)))).trans (Heap.get?_push_of_some _ (Heap.get?_push_of_some _ e))
/-- the iterator at it has come to its end: its sequence is let go, StopIteration is raised -/
theorem letGoQ {it : Addr} {o : Obj} {fs : Array Value} {x : Value} {Q : Option Value → Shared → Prop} {α : Type} {Q0 : α → Shared → Prop} (hq : Quiet A s.heap) (hni : A.handled ≠ some (.ref it)) (hlt : ∀ a, A.handled = some (.ref a) → a < s.heap.objs.size) (ho : s.heap.get? it = some o) (hd : o.data = .fields fs) (h0 : 0 < fs.size)
    (hE : ∀ x h', Heap.ExtBut it s.heap h' → (∃ o', h'.get? x = some o' ∧ o'.cls = .type "StopIteration") → E (.ref x) { s with heap := h' }) :
    wpAny (model prog w) A (setField (.ref it) 0 x >>= fun _ => newExc (.type "StopIteration") [] >>= fun e => (raiseNew e : Sem α)) Q0 E s := by
  refine wpAny_bind (wpAny_setField ho hd h0 (stopQ (hq.ext fun a oa h1 h2 => ?_) (fun a ha => ?_) fun y h' hx1 hx2 hx3 => ?_))
  · exact ((Heap.SameBut.update ..).2 a fun z => hni (by rw [← z]; exact h1)).trans h2
  · show a < (Heap.update _ _ _).objs.size
    rw [show (Heap.update s.heap it _).objs.size = s.heap.objs.size by simp [Heap.update]]
    exact hlt a ha
  · exact hE y h' (fun b ob hb e => hx2 b ob (((Heap.SameBut.update ..).2 b hb).trans e)) hx3
theorem list_endQ {it l : Addr} {i : Nat} {items : Array Value} {Q : Option Value → Shared → Prop} (hq : Quiet A s.heap) (hni : A.handled ≠ some (.ref it)) (hlt : ∀ a, A.handled = some (.ref a) → a < s.heap.objs.size)
    (hit : s.heap.IsListIter it l i) (hl : s.heap.IsList l items) (hx : items[i]? = none)
    (hQ : ∀ h', Heap.ExtBut it s.heap h' → Q none { s with heap := h' }) : wpAny (model prog w) A (pyNext (.ref it)) Q E s := by
  have ty := hit.typeIs
  obtain ⟨o, ho, hc, hd⟩ := hit
  obtain ⟨ol, hol, _, nl, hdl⟩ := hl
  unfold pyNext
  refine wpAny_bind (wpAny_attempt ?_)
  refine wpAny_callSpecial?_slot (name := Str.ofString "__next__") ty slot_listiter_next ?_
  refine wpAny_call_entry slot_listiter_next ty entry_listiter_next ?_ (args_listiter_next _)
  refine (show wpAny (model prog w) A.in1 (field (.ref it) 0 >>= _) _ _ s from wpAny_bind (wpAny_field (x := .ref l) ho hd rfl ?_))
  have nn : ¬ ((Value.ref l == Value.none) = true) := by simp
  dsimp only
  rw [if_neg nn]
  refine wpAny_bind (wpAny_field (x := .int i 0) ho hd rfl ?_)
  refine wpAny_bind (wpAny_seqItems hol hdl ?_)
  simp only [Int.toNat_natCast, hx]
  refine wpAny_bind (wpAny_rule ?_)
  refine letGoQ (Q := Q) hq.in1 hni hlt ho hd (show 0 < 2 by decide) fun y h' ext ⟨o', g1, g2⟩ => ?_
  exact wpAny_bind (wpAny_isInstance (T := "StopIteration") (b := true) ⟨o', g1, g2⟩ isSubtype_stop (wpAny_pure (hQ _ ext)))
theorem tup_endQ {it t : Addr} {i : Nat} {items : Array Value} {Q : Option Value → Shared → Prop} (hq : Quiet A s.heap) (hni : A.handled ≠ some (.ref it)) (hlt : ∀ a, A.handled = some (.ref a) → a < s.heap.objs.size)
    (hit : IsTupIter s.heap it t i) (ht : IsTup s.heap t items) (hx : items[i]? = none)
    (hQ : ∀ h', Heap.ExtBut it s.heap h' → Q none { s with heap := h' }) : wpAny (model prog w) A (pyNext (.ref it)) Q E s := by
  have ty := hit.typeIs
  obtain ⟨o, ho, hc, hd⟩ := hit
  obtain ⟨ol, hol, _, nl, hdl⟩ := ht
  unfold pyNext
  refine wpAny_bind (wpAny_attempt ?_)
  refine wpAny_callSpecial?_slot (name := Str.ofString "__next__") ty slot_tupleiter_next ?_
  refine wpAny_call_entry slot_tupleiter_next ty entry_tupleiter_next ?_ (args_tupleiter_next _)
  refine (show wpAny (model prog w) A.in1 (field (.ref it) 0 >>= _) _ _ s from wpAny_bind (wpAny_field (x := .ref t) ho hd rfl ?_))
  have nn : ¬ ((Value.ref t == Value.none) = true) := by simp
  dsimp only
  rw [if_neg nn]
  refine wpAny_bind (wpAny_field (x := .int i 0) ho hd rfl ?_)
  refine wpAny_bind (wpAny_seqItems hol hdl ?_)
  simp only [Int.toNat_natCast, hx]
  refine wpAny_bind (wpAny_rule ?_)
  refine letGoQ (Q := Q) hq.in1 hni hlt ho hd (show 0 < 2 by decide) fun y h' ext ⟨o', g1, g2⟩ => ?_
  exact wpAny_bind (wpAny_isInstance (T := "StopIteration") (b := true) ⟨o', g1, g2⟩ isSubtype_stop (wpAny_pure (hQ _ ext)))
/-- a tuple taken apart -/
theorem unpackQ {t : Addr} {items : Array Value} {targets : List (Bool × (Value → Sem Unit))} {Q : Unit → Shared → Prop} (hq : Quiet A s.heap) (hlt : ∀ a, A.handled = some (.ref a) → a < s.heap.objs.size) (ht : IsTup s.heap t items)
    (hn : targets.length = items.size) (hstar : targets.findIdx? (·.1) = none)
    (h : ∀ h', Heap.ExtBut s.heap.objs.size s.heap h' → wpAny (model prog w) A (assignInOrder (targets.map (·.2)) items.toList) Q E { s with heap := h' }) : wpAny (model prog w) A (unpack (.ref t) targets) Q E s := by
  have hne : t ≠ s.heap.objs.size := by obtain ⟨o, ho, _⟩ := ht; exact Nat.ne_of_lt (Heap.lt_size ho)
  have new : ∀ a, A.handled = some (.ref a) → a ≠ s.heap.objs.size := fun a ha => Nat.ne_of_lt (hlt a ha)
  have all : List.take items.size (List.drop 0 items.toList) = items.toList := by rw [List.drop_zero]; exact List.take_of_length_le (by simp)
  unfold unpack unpackItems notIterableAtAll
  rw [hn, hstar]
  refine wpAny_bind (wpAny_holding (wpAny_bind (wpAny_bind (wpAny_specialOf ht.typeIs slot_tuple_iter.lookup (wpAny_pure ?_)))))
  simp only [Bool.false_eq_true, if_false]
  refine wpAny_bind (wpAny_holding (iter_tuple ht (wpAny_bind (wpAny_holding (draw_tuple hne items.size 0 _ _ ⟨_, Heap.get?_push_size _ rfl, rfl, rfl⟩ (ht.push _) (by omega) fun h1 hit1 hs1 => ?_)))))
  rw [all, if_neg (by simp)]
  have q1 : Quiet A h1 := hq.ext fun a o ha e => hs1.extBut a o (new a ha) (Heap.get?_push_of_some _ e)
  have l1 : ∀ a, A.handled = some (.ref a) → a < h1.objs.size := fun a ha => by
    rcases q1 with z | ⟨a', o', fs', z, e, _⟩
    · rw [z] at ha; cases ha
    · rw [z] at ha
      cases ha
      exact Heap.lt_size e
  refine wpAny_bind (wpAny_holding (tup_endQ (s := { s with heap := h1 }) q1 (fun z => new _ z rfl) l1 hit1 ((ht.push _).extBut hs1.extBut hne) (by simp) fun h2 he2 => ?_))
  simp only [Option.isSome_none, Bool.false_eq_true, if_false]
  exact wpAny_pure (h h2 fun b o hb e => he2 b o hb (hs1.extBut b o hb (Heap.get?_push_of_some _ e)))
end
/-! ### the exception that is handled is tracked -/
def HQ (A : Around) (H : Hp) : Prop := ∃ a C, A.handled = some (.ref a) ∧ H a = some (ExcO a C)
section
variable {X : Cx} {pins : List (Addr × Obj)} {σ : St} {H : Hp} {s : Shared}
theorem HQ.quiet (q : HQ X.A H) (I : Inv X pins σ H s) : Quiet X.A s.heap := by
  obtain ⟨a, C, h1, h2⟩ := q
  obtain ⟨o, fs, e1, e2, e3, e4, e5⟩ := exc_at I.hok h2
  exact .inr ⟨a, o, fs, h1, e1, e3, e4⟩
theorem HQ.lt (q : HQ X.A H) (I : Inv X pins σ H s) : ∀ a, X.A.handled = some (.ref a) → a < s.heap.objs.size := by
  obtain ⟨a, C, h1, h2⟩ := q
  obtain ⟨o, fs, e1, _⟩ := exc_at I.hok h2
  intro b hb
  rw [h1] at hb; cases hb
  exact Heap.lt_size e1
theorem HQ.ne {A : Around} {it : Addr} (q : HQ A H) (h : H it = none) : A.handled ≠ some (.ref it) := by
  obtain ⟨a, C, h1, h2⟩ := q
  intro z
  rw [h1] at z; cases z
  rw [h2] at h; cases h
theorem HQ.same {A : Around} {H' : Hp} (q : HQ A H) (e : Same H H') : HQ A H' := by
  obtain ⟨a, C, h1, h2⟩ := q
  exact ⟨a, C, h1, e _ _ h2⟩
/-- (a, b, ..) = a tuple of that length -/
def gTupQ (A : Around) (K : PySem.W.Frag) (n : Nat) (t : TGs) : TG := fun v σ H Q => HQ A H ∧ gTup K n t v σ H Q
theorem pg_tupQ {K0 : PySem.W.Frag} {es : List Expr} {k : Nat} {t : TGs} {n : Nat} {pos : Pos} (hK : X.K = K0) (h : PGs X es t)
    (hn : (assignEach es X.env).length = n := by rfl) (hst : (assignEach es X.env).findIdx? (·.1) = none := by rfl) : PG X (.Tuple es k pos) (gTupQ X.A K0 n t) := by
  subst hK
  intro pins s σ H v u Q I r hw
  obtain ⟨hq, a, xs, e1, hs, hl, hw⟩ := hw
  subst e1
  cases r
  obtain ⟨its, rv, ht, hz⟩ := I.tuple hs
  rw [assign_Tuple]
  refine wpAny_bind (wpAny_standAt (unpackQ (hq.quiet I) (hq.lt I) ht (by simp [hn, ← hl, rv.length]) hst fun h' hx => ?_))
  exact h pins _ σ H xs _ Q (I.kept (t' := s.toks) fun b o e => hx b o (Nat.ne_of_lt (Heap.lt_size e)) e) (by simpa using rv) hw
end
end L2

set_option Elab.async false
set_option linter.all false
set_option maxRecDepth 100000
namespace L2
open PySem PySem.Spec PyProof.Rows
/-! ### comprehensions where an exception is handled -/
structure TurnQ (P : Program) (w : World) (K : PySem.W.Frag) (A0 : Around) (tg : Expr) (J : It) (fp : List Addr) (it : Addr) (tn : Nat → Heap → Prop) : Prop where
  mem : it ∈ fp
  obj : ∀ i h, tn i h → ∀ b ∈ fp, ∃ o, h.get? b = some o ∧ ∀ v, o.data ≠ .cell v
  keep : ∀ i h h', tn i h → (∀ b ∈ fp, ∀ o, h.get? b = some o → h'.get? b = some o) → tn i h'
  item : ∀ (X : Cx), X.prog = P → X.w = w → X.K = K → X.A = A0 → ∀ (i : Nat) (pins : List (Addr × Obj)) (s : Shared) (σ : St) (H : Hp) (E : Value → Shared → Prop), Inv X pins σ H s → (∀ b ∈ fp, FpOk X pins H b) → tn i s.heap → J.go i H →
    wpAny (model P w) X.A (pyNext (.ref it)) (fun r s1 => ∃ u, r = some u ∧
      wpAny (model P w) X.A (letOwnedTupleGo tg (.ref it) u) (fun _ s2 => ∃ x H', Inv X pins σ H' s2 ∧ RelV x u ∧ J.yld i H x H' ∧ tn (i + 1) s2.heap ∧ ∀ b ∈ fp, H' b = none) E s1) E s
  done : ∀ (X : Cx), X.prog = P → X.w = w → X.K = K → X.A = A0 → ∀ (i : Nat) (pins : List (Addr × Obj)) (s : Shared) (σ : St) (H : Hp) (E : Value → Shared → Prop), Inv X pins σ H s → (∀ b ∈ fp, FpOk X pins H b) → tn i s.heap → J.stop i H →
    wpAny (model P w) X.A (pyNext (.ref it)) (fun r s1 => r = none ∧ Inv X pins σ H s1) E s
  self : ∀ (A : Around) (i : Nat) (s : Shared) (Q : Value → Shared → Prop) (E : Value → Shared → Prop), tn i s.heap → Q (.ref it) s → wpAny (model P w) A (pyIter (.ref it)) Q E s
def PIEQ (X : Cx) (pins : List (Addr × Obj)) (σ : St) (tg : Expr) (R : It → Hp → Prop) (itv : Value) (s2 : Shared) : Prop :=
  ∃ (it : Addr) (fp : List Addr) (tn : Nat → Heap → Prop) (J : It) (H' : Hp), itv = .ref it ∧ Inv X pins σ H' s2 ∧ TurnQ X.prog X.w X.K X.A tg J fp it tn ∧ tn 0 s2.heap ∧ (∀ b ∈ fp, FpOk X pins H' b) ∧ R J H'
def PIQ (X : Cx) (tg iter : Expr) (wi : TI) : Prop :=
  ∀ (pins : List (Addr × Obj)) (s : Shared) (σ : St) (H : Hp) (R : It → Hp → Prop), Inv X pins σ H s → wi σ H R →
    wpAny (model X.prog X.w) X.A (eval iter X.env) (fun v s1 => wpAny (model X.prog X.w) X.A (pyIter v) (PIEQ X pins σ tg R) X.xe s1) X.xe s
/-- the list at a, where an exception is handled -/
def Itq (K : PySem.W.Frag) (A : Around) (a : Addr) : It := ⟨(Itl K a).go, (Itl K a).yld, fun i H => (Itl K a).stop i H ∧ HQ A H⟩
theorem turn_listQ {P : Program} {w : World} {K : PySem.W.Frag} {A0 : Around} {tg : Expr} (a it : Addr) : TurnQ P w K A0 tg (Itq K A0 a) [it] it (fun i h => h.IsListIter it a i) where
  mem := (turn_list (P := P) (w := w) (K := K) (tg := tg) a it).mem
  obj := (turn_list (P := P) (w := w) (K := K) (tg := tg) a it).obj
  keep := (turn_list (P := P) (w := w) (K := K) (tg := tg) a it).keep
  item := by
    intro X hP hw hK hA i pins s σ H E I hf st hg
    subst hP hw hK
    obtain ⟨xs, x, hq, hx⟩ := hg
    obtain ⟨its, rv, p, hz⟩ := I.list hq
    obtain ⟨u, hu, ru⟩ := rv.get hx
    obtain ⟨f0, f1, f2, f3, f4, f5⟩ := hf it (by simp)
    refine wpAny_pyNext_list_item st p.isList (x := u) (by simpa using hu) fun h' st' sb => ?_
    have I1 : Inv X pins σ H { s with heap := h' } := I.turned (t' := s.toks) (fun b o hb e => (sb.2 b hb).trans e) f0 f1 f3 f4 f5
    obtain ⟨o, e, c, d⟩ := id st'
    exact ⟨u, rfl, go_of (s := { s with heap := h' }) e c d (by decide) ⟨x, H, I1, ru, ⟨rfl, fun ys hy => by rw [I.list_inj hy hq]; exact hx⟩, st', fun b hb => (hf b hb).1⟩⟩
  done := by
    intro X hP hw hK hA i pins s σ H E I hf st hg
    subst hP hw hK hA
    obtain ⟨⟨xs, hq, hx⟩, hQ⟩ := hg
    obtain ⟨its, rv, p, hz⟩ := I.list hq
    obtain ⟨f0, f1, f2, f3, f4, f5⟩ := hf it (by simp)
    have hl := rv.length
    exact list_endQ (hQ.quiet I) (hQ.ne f0) (hQ.lt I) st p.isList (by simp; omega) fun h' eb => ⟨rfl, I.turned (t' := s.toks) (fun b o hb e => eb b o hb e) f0 f1 f3 f4 f5⟩
  self := (turn_list (P := P) (w := w) (K := K) (tg := tg) a it).self
def iListQ (K : PySem.W.Frag) (A : Around) (tl : TE) : TI := fun σ H R => tl σ H fun x H1 => ∃ a, x = .ref a ∧ (∃ xs, SqL K H1 a xs) ∧ R (Itq K A a) H1
theorem pi_listQ {X : Cx} {tg l : Expr} {tl : TE} (hl : PE X l tl) : PIQ X tg l (iListQ X.K X.A tl) := by
  intro pins s σ H R I h
  refine thn (hl pins s σ H _ I h) fun v s1 ⟨x, H1, I1, r1, q1⟩ => ?_
  obtain ⟨a, e, ⟨xs, hq⟩, q⟩ := q1
  subst e
  cases r1
  obtain ⟨its, rv, p, hz⟩ := I1.list hq
  refine wpAny_pyIter_list p.isList ?_
  refine ⟨s1.heap.objs.size, [s1.heap.objs.size], _, _, H1, rfl, I1.kept (t' := s1.toks) fun b o e => Heap.get?_push_of_some _ e, turn_listQ a _, ⟨_, Heap.get?_push_size _ rfl, rfl, rfl⟩, fun b hb => ?_, q⟩
  have e : b = s1.heap.objs.size := by simpa using hb
  subst e
  exact I1.fpOk (Nat.le_refl _) (I1.hok.fresh (Nat.le_refl _))
theorem comp2_listQ {K : PySem.W.Frag} {A : Around} {l : Addr} {js : List Nat} {xs : List V} {σ : St} {H1 : Hp} {tc : TT} {te : TE} {Q : VK} (Pv : Nat → List V → Hp → Prop) (h0 : Pv 0 [] H1) (hP : ∀ i ys H, i ≤ xs.length → Pv i ys H → SqL K H l xs ∧ HQ A H ∧ ys.length ≤ i) (hsz : xs.length ≤ sizeLine)
    (hs : ∀ i x ys H (Nx : List V → Hp → Prop), xs[i]? = some x → Pv i ys H → (∀ ys' H', Pv (i + 1) ys' H' → Nx ys' H') → ∃ T u v, x = .ref T ∧ SqT K H T [u, v] ∧ tc (some u :: some v :: caps σ js) H fun b H3 => if b = true then te (some u :: some v :: caps σ js) H3 fun y H4 => Nx (ys ++ [y]) H4 else Nx ys H3)
    (hd : ∀ ys H, Pv xs.length ys H → ∀ D, H D = none → Q (.ref D) (upd H D (.lst ys))) :
    tCompB 2 js (gTupQ A K 2 (gCons (gName 0) (gCons (gName 1) gNil))) tc te σ Q (Itq K A l) H1 := by
  have wk := wk_list K l xs
  refine ⟨fun i m ys H => m = xs.length - i ∧ i ≤ xs.length ∧ Pv i ys H, ⟨xs.length, by simp, Nat.zero_le _, h0⟩, ?_⟩
  rintro i m ys H ⟨rfl, hi, p⟩
  obtain ⟨q, hqq, hl⟩ := hP i ys H hi p
  by_cases hlt : i < xs.length
  · refine .inr ⟨wk.go i H hlt q, by omega, fun x H' y os hos => ?_⟩
    obtain ⟨e, y2⟩ := wk.yld i H x H' q y
    subst e
    obtain ⟨T, u, v, rfl, ht, hh⟩ := hs i x ys _ (fun ys' H' => ∃ m', m' < xs.length - i ∧ m' = xs.length - (i + 1) ∧ i + 1 ≤ xs.length ∧ Pv (i + 1) ys' H') (y2 hlt) p fun ys' H' p' => ⟨xs.length - (i + 1), by omega, rfl, hlt, p'⟩
    match os, hos with
    | [o0, o1], _ =>
      exact ⟨hqq, T, _, rfl, ht, rfl, _, _, rfl, _, _, rfl, rfl, ⟨[some u, some v], rfl, rfl⟩, hh⟩
  · have e : i = xs.length := by omega
    subst e
    exact .inl ⟨⟨wk.stop H q, hqq⟩, by omega, hd ys H p⟩
end L2

set_option Elab.async false
set_option linter.all false
set_option maxRecDepth 100000
namespace L2
open PySem PySem.Spec PyProof.Rows
/-! ### a def that is called where an exception is handled -/
structure RoomQ (k : Nat) (A : Around) : Prop where
  dp : A.depth + 3 * k + 5 < recursionLimit
  un : A.units + 16 * k + 200 < cLine
theorem RoomQ.mono {j k : Nat} {A : Around} (r : RoomQ k A) (h : j ≤ k) : RoomQ j A := ⟨by have := r.dp; omega, by have := r.un; omega⟩
theorem RoomQ.deeper {k : Nat} {A : Around} (r : RoomQ (k + 1) A) (env : Env) : RoomQ k (A.deeper env) :=
  ⟨by have := r.dp; show A.depth + 1 + 3 * k + 5 < _; omega, by have := r.un; show A.units + 3 + 16 * k + 200 < _; omega⟩
theorem RoomQ.depth {k : Nat} {A : Around} (r : RoomQ k A) : A.depth < recursionLimit := by have := r.dp; omega
theorem RoomQ.units0 {k : Nat} {A : Around} (r : RoomQ k A) : A.units < cLine := by have := r.un; omega
theorem Room.q {k : Nat} {A : Around} (r : Room k A) : RoomQ k A := ⟨r.dp, r.un⟩
theorem RoomQ.mark {k : Nat} {A : Around} (r : RoomQ k A) (h : Option Value) : RoomQ k (A.mark h) := ⟨r.dp, r.un⟩
structure FnOkQ (P : Program) (w : World) (K : PySem.W.Frag) (mg : Str → Option Value) (base : Heap) (CX : CXT) (k : Nat) (f : Addr) (fd : FuncData) (ps : List Str) (sp : Sp) : Prop where
  len : ∀ vs H Q E, sp vs H Q E → vs.length = ps.length
  run : ∀ (A : Around) (outer : List Env) (s : Shared) (H : Hp) (args : Args) (us : List Value) (vs : List V) (Q : VK) (E : XK), RoomQ k A → HQ A H → Env0 P w K mg base A outer s H → BindsTo s fd args (ps.zip us) → Vals vs us → sp vs H Q E →
    codeAny (model P w) A (.call (.ref f) args) (CR CX outer P w H s Q E) s
def cxOfQ (CX : CXT) (P : Program) (w : World) (K : PySem.W.Frag) (mg : Str → Option Value) (base : Heap) (N : List Str) (qual : Str) (scope : Scope) (f : Addr) (cd : Value) (A : Around) (outer : List Env) (s : Shared) (H : Hp) (E : XK) : Cx :=
  { cxOf CX P w K mg base N qual scope f cd A outer s H E with calm := false }
theorem inv_startQ {CX : CXT} {P : Program} {w : World} {K : PySem.W.Frag} {mg : Str → Option Value} {base : Heap} {N ps : List Str} {qual : Str} {scope : Scope} {f : Addr} {cd : Value} {A : Around} {outer : List Env} {s s1 : Shared} {H : Hp} {E : XK} {us : List Value} {vs : List V}
    (S : FnScope N ps scope) (e0 : Env0 P w K mg base A outer s H) (hl : vs.length = ps.length) (r : Vals vs us)
    (x : InCallC s s.heap.objs.size (bindL (envOfC qual scope s.heap.objs.size f cd).kindOf (ps.zip us) fun _ => none) (cellsFrom (s.heap.objs.size + 1) scope.names []) (bindC (envOfC qual scope s.heap.objs.size f cd).kindOf (ps.zip us) fun _ => none) s1) :
    Inv (cxOfQ CX P w K mg base N qual scope f cd A outer s H E) [] (start N vs) H s1 := by
  have hpl : ps.length ≤ N.length := by have := congrArg List.length S.pre; rw [List.length_take] at this; omega
  obtain ⟨h1, tk, rfl, hk⟩ := x.done
  have noA : ∀ b : Addr, b ∉ (cxOfQ CX P w K mg base N qual scope f cd A outer s H E).ex := fun b z => absurd (show b ∈ ([] : List Addr) from z) (by simp)
  refine ⟨⟨e0.mod, S.kind, rfl, rfl, Nat.le_refl _, fun y z c h1 h2 => ?_, fun y hy => ?_, fun y c _ h => ?_, (fun z => by cases z), Around.frames_deeper e0.frames, .inr ⟨rfl, rfl⟩, fun b z => absurd z (noA b), e0.bs, e0.bsz, fun b _ _ => noA b, fun b z => absurd z (noA b), e0.funs, e0.frf⟩,
    rfl, e0.bare, Un.kept hk, ⟨_, x.toInCall.ns, fun i y v h1 h2 h3 => ?_⟩, fun y c h => ⟨_, x.cell y c h⟩, e0.hok.fresh (Nat.le_refl _), fun y c h => ?_, fun p hp => absurd (show p ∈ ([] : List (Addr × Obj)) from hp) (by simp), e0.hok.kept hk, ?_⟩
  · exact name_of_addr x.apart (PySem.mem_of_lookup h1) (PySem.mem_of_lookup h2)
  · have hy : scope.names.lookup y = some .cell ∨ scope.names.lookup y = some .free := hy
    rcases hy with hy | hy
    · exact cell_has hy
    · exact absurd rfl (S.nofree _ (PySem.mem_of_lookup hy))
  · exact Nat.le_of_lt (x.above y c (PySem.mem_of_lookup h))
  · have hi : i < vs.length := by
      unfold start at h2
      by_cases hi : i < vs.length
      · exact hi
      · rw [List.getElem?_append_right (by simpa using hi)] at h2
        rw [List.getElem?_replicate] at h2
        split at h2 <;> cases h2
    have ha : vs[i]? = some v := by
      unfold start at h2
      rw [List.getElem?_append_left (by simpa using hi), List.getElem?_map] at h2
      cases e : vs[i]? with
      | none => rw [e] at h2; cases h2
      | some a => rw [e] at h2; cases h2; rfl
    obtain ⟨u, hu, rv⟩ := r.get ha
    have hp : ps[i]? = some y := by
      rw [← S.pre, List.getElem?_take_of_lt (by omega)]; exact h1
    have ndP : ps.Nodup := by rw [← S.pre]; exact S.nd.sublist (List.take_sublist _ _)
    refine ⟨u, rv, ?_⟩
    rcases S.par y (List.mem_of_getElem? hp) with k | k
    · exact .inl ⟨k, bindL_get ndP hp hu k⟩
    · obtain ⟨c, e⟩ := cell_has (n := s.heap.objs.size + 1) k
      refine .inr ⟨.inl k, c, e, ?_⟩
      have q := x.cell y c e
      rw [bindC_get ndP hp hu (by show scope.names.lookup y ≠ _; rw [k]; decide)] at q
      exact q
  · exact e0.hok.fresh (Nat.le_of_lt (x.above y c (PySem.mem_of_lookup h)))
  · unfold start
    show _ = N.length
    rw [List.length_append, List.length_map, List.length_replicate]
    omega

theorem fn_ofQ {CX : CXT} {P : Program} {w : World} {K : PySem.W.Frag} {mg : Str → Option Value} {base : Heap} {k : Nat} {f : Addr} {name qual : Str} {params : Arguments} {body : List Stmt} {scope : Scope} {dV kV doc pm cdv ct oc : Value} {an od : Option Addr}
    {osl : Array (Option Value)} {N ps : List Str} {sp : Sp} (lk : K.lookup f = some ⟨oc, od, .func (PySem.W.fnOf name qual params body scope dV kV doc pm an cdv ct), osl⟩) (hcd : PySem.W.codeIn K cdv qual = true) (S : FnScope N ps scope)
    (len : ∀ vs H Q E, sp vs H Q E → vs.length = ps.length)
    (hbody : ∀ (A : Around) (outer : List Env) (s : Shared) (H : Hp) (vs : List V) (Q : VK) (E : XK), RoomQ k (A.deeper (envOfC qual scope s.heap.objs.size f cdv)) → HQ (A.deeper (envOfC qual scope s.heap.objs.size f cdv)) H → sp vs H Q E →
      ∃ t, PSs (cxOfQ CX P w K mg base N qual scope f cdv A outer s H E) body t ∧ t { nx := fun _ H' => Q .non H', rt := Q } (start N vs) H) :
    FnOkQ P w K mg base CX (k + 1) f (PySem.W.fnOf name qual params body scope dV kV doc pm an cdv ct) ps sp := by
  refine ⟨len, fun A outer s H args us vs Q E hr hq0 e0 hb r hsp => ?_⟩
  have hl := len _ _ _ _ hsp
  have KX : K.In s.heap := e0.mod.kin.keeps fun b o e => (e0.bs b o e).1
  have lim : s.heap.NoLimit := e0.mod.nolimit.keeps fun b o e => (e0.bs b o e).1
  have hkind : ∀ y ∈ ps.zip us, scope.names.lookup y.1 = some .local ∨ (scope.names.lookup y.1 = some .cell ∧ ((cellsFrom (s.heap.objs.size + 1) scope.names []).lookup y.1).isSome = true) := fun ⟨n, v⟩ hy => by
    rcases S.par n (List.of_mem_zip hy).1 with q | q
    · exact .inl q
    · exact .inr ⟨q, PySem.W.cellsFrom_some _ _ _ (.inl q)⟩
  refine codeAny_call_function hr.depth (KX _ _ lk) rfl S.co S.gen rfl (PySem.W.codeRec_of KX hcd) (hb _ _ _ _ ?_)
  refine wpAny_newFunctionEnv_cells S.kind hkind fun env he s1 x => ?_
  subst he
  refine ⟨lim.keeps x.toInCall.keep, codeAny_func ?_⟩
  obtain ⟨t, ht, hq⟩ := hbody A outer s H vs Q E (hr.deeper _) hq0 hsp
  have I : Inv (cxOfQ CX P w K mg base N qual scope f cdv A outer s H E) [] (start N vs) H s1 := inv_startQ S e0 hl r x
  refine wpAny_mono (ht [] s1 (start N vs) H _ I hq) (fun fl s' hs => ?_) fun e s' hs => hs
  have fin : ∀ {σ' : St} {H' : Hp} {v : V} {u : Value}, Inv (cxOfQ CX P w K mg base N qual scope f cdv A outer s H E) [] σ' H' s' → RelV v u → Q v H' → CE outer P w H s Q u s' :=
    fun {σ' H' v u} J rv q => ⟨v, H', J.os, J.bare, J.base, J.hok, rv, q⟩
  cases fl with
  | ret u =>
    obtain ⟨v, σ', H', J, rv, q⟩ := hs
    exact fin J rv q
  | next =>
    obtain ⟨σ', H', J, q⟩ := hs
    exact fin (v := V.non) (u := Value.none) J rfl q
  | brk =>
    obtain ⟨_, _, _, q⟩ := hs
    exact False.elim q
  | cont =>
    obtain ⟨_, _, _, q⟩ := hs
    exact False.elim q

def KnowsQ (P : Program) (w : World) (K : PySem.W.Frag) (mg : Str → Option Value) (base : Heap) (k : Nat) (x : Str) (ps : List Str) (sp : Sp) : Prop :=
  ∃ f fd, mg x = some (.ref f) ∧ PySem.W.keepIn K (.ref f) = true ∧ Binds K fd ps [] ∧ FnOkQ P w K mg base CX0 k f fd ps sp
theorem Def.okQ {P : Program} {w : World} {K : PySem.W.Frag} {mg : Str → Option Value} {base : Heap} {x : Str} {st : Stmt} {N ps : List Str} {k : Nat} {sp : Sp} (D : Def K mg x st ps) (S : FnScope N ps (defScope st)) (len : ∀ vs H Q E, sp vs H Q E → vs.length = ps.length)
    (hbody : ∀ (f : Addr) (cdv : Value) (A : Around) (outer : List Env) (s : Shared) (H : Hp) (vs : List V) (Q : VK) (E : XK), RoomQ k (A.deeper (envOfC x (defScope st) s.heap.objs.size f cdv)) → HQ (A.deeper (envOfC x (defScope st) s.heap.objs.size f cdv)) H → sp vs H Q E →
      ∃ t, PSs (cxOfQ CX0 P w K mg base N x (defScope st) f cdv A outer s H E).nox (defBody st) t ∧ t { nx := fun _ H' => Q .non H', rt := Q } (start N vs) H) : KnowsQ P w K mg base (k + 1) x ps sp := by
  obtain ⟨f, fd, F, hm, hb⟩ := D.ex
  refine ⟨f, fd, hm, F.kp, hb, ?_⟩
  obtain ⟨oc, od, kV, doc, pm, an, cdv, ct, osl, rfl, lk, hcd⟩ := F.ex
  refine fn_ofQ lk hcd S len fun A outer s H vs Q E hr hq hsp => ?_
  obtain ⟨t, h, q⟩ := hbody f cdv A outer s H vs Q E hr hq hsp
  exact ⟨t, h.nox, q⟩
def tCallQ (A : Around) (sp : Sp) (t : TA) : TE := fun σ H Q => t σ H fun vs H1 => HQ A H1 ∧ sp vs H1 Q E0
section
variable {X : Cx} {x : Str} {ps : List Str} {sp : Sp} {j k : Nat} {e : Expr} {es : List Expr} {t : TA} {p pos : Pos}
theorem pe_callQ (F : KnowsQ X.prog X.w X.K X.mg X.base j x ps sp) (hr : RoomQ k X.A) (ha : PA X (e :: es) t) (hjk : j ≤ k := by decide) (hg : Gl X x := by rfl) (hdb : (x == ("__debug__" : Str)) = false := by decide)
    (he : notStar e = true := by rfl) (hpl : es.all notStar = true := by rfl) : PE X (.Call (.Name x p) (e :: es) [] pos) (tCallQ X.A sp t) := by
  obtain ⟨f, fd, hm, hk, hb, F⟩ := F
  intro pins s σ H Q I h
  refine wpAny_Call_Name_kw (ld_glob I hg hm ?_ hdb)
  refine PySem.W.callWith_K (h₀ := X.base) I.ok.mod.kin hk (thn (ha pos pins s σ H _ I h) fun us s1 ⟨vs, H1, I1, r, q0, q⟩ => ⟨I1.kIn, ?_⟩) (star_cons he) (star_none hpl)
  have hl : us.length = ps.length := by rw [← r.length]; exact F.len _ _ _ _ q
  have hbind := hb s1 us I1.kIn (by rw [List.append_nil]; exact hl)
  rw [List.append_nil] at hbind
  refine wpAny_call (codeAny_mono (F.run X.A X.stack s1 H1 ⟨us, []⟩ us vs Q E0 (hr.mono hjk) q0 I1.env0 hbind r q) fun res s' hq => ?_)
  cases res with
  | error e => exact pass0 pins σ H1 s1 e s' I1 hq
  | ok fl =>
    cases fl with
    | ret u => exact I1.after hq
    | next => exact False.elim hq
    | brk => exact False.elim hq
    | cont => exact False.elim hq
end
end L2

set_option Elab.async false
set_option linter.all false
set_option maxRecDepth 100000
namespace L2
open PySem PySem.Spec PyProof.Rows
/-! ### try: .. except NAME as n: return .. -/
theorem un_track {fs ex : List Addr} {H H' : Hp} {h h' : Heap} {a : Addr} {o : HO} (u : Un fs ex H H' h h') (n : H' a = none) (new : h.get? a = none) : Un fs ex H (upd H' a o) h h' := by
  refine ⟨u.keep, u.slot, fun b ob e hn hx => ?_, u.there, fun b xs q => ?_, fun b ob v q => ?_, fun b ps q => ?_⟩
  · rw [upd_ne (fun z => by rw [z, new] at e; cases e)]
    exact u.free b ob e hn hx
  · have z := u.tups b xs q
    rw [upd_ne (ne_of_none z n)]; exact z
  · have z := u.frzs b ob v q
    rw [upd_ne (ne_of_none z n)]; exact z
  · obtain ⟨more, z⟩ := u.tbls b ps q
    exact ⟨more, by rw [upd_ne (ne_of_none z n)]; exact z⟩
/-- a name is gone: nothing is said of the names -/
theorem inv_gone {X : Cx} {pins : List (Addr × Obj)} {σ : St} {H : Hp} {s : Shared} {h' : Heap} {m' : Str → Option Value} {t' : Nat} (I : Inv X pins σ H s) (hn' : h'.Ns X.env.locals m') (hs : Heap.SameBut X.env.locals s.heap h') :
    Inv X pins (List.replicate X.N.length none) H { s with heap := h', toks := t' } := by
  have cne := I.cne
  obtain ⟨m, hn, _⟩ := id I.loc
  have lt : ∀ b o, X.s₀.heap.get? b = some o → b ≠ X.env.locals := fun b o e => Nat.ne_of_lt (Nat.lt_of_lt_of_le (Heap.lt_size e) I.ok.above)
  refine ⟨I.ok, I.os, I.bare, ⟨fun b o e n hb hx => ?_, fun b o e n hb hx => ?_, I.base.free, fun b o e hx => ?_, I.base.tups, I.base.frzs, I.base.tbls⟩, ⟨m', hn', fun j y v' e1 e2 e3 => ?_⟩, fun y c e => ?_, I.free, I.freeC, fun p hp => ?_, fun b ob e => ?_, by simp⟩
  · exact (hs.2 b (lt b o e)).trans (I.base.keep b o e n hb hx)
  · obtain ⟨sl, e1⟩ := I.base.slot b o e n hb hx
    exact ⟨sl, (hs.2 b (lt b o e)).trans e1⟩
  · obtain ⟨o', e1⟩ := I.base.there b o e hx
    exact ⟨o', (hs.2 b (lt b o e)).trans e1⟩
  · rw [List.getElem?_replicate] at e2
    split at e2 <;> cases e2
  · obtain ⟨w', z⟩ := I.cell y c e
    exact ⟨w', z.sameBut hs (cne y c e)⟩
  · obtain ⟨e, n, ne, nf, d⟩ := I.pin p hp
    exact ⟨(hs.2 p.1 ne).trans e, n, ne, nf, d⟩
  · refine (I.hok b ob e).stay (fun c w' hc q => (hs.2 c ?_).trans q) (fun _ q => q) fun _ _ q => q
    rintro rfl
    have hfree := I.free
    rcases hc with rfl | hc
    · rw [hfree] at e; cases e
    · rw [hfree] at hc; cases hc
/-- within the except's suite, which raises nothing -/
abbrev Cx.inExcN (X : Cx) (a : Addr) : Cx := { X with A := X.A.mark (some (.ref a)), calm := false, xe := fun _ _ => False }
section
variable {X : Cx} {pins : List (Addr × Obj)} {σ : St} {H : Hp} {s : Shared} {a : Addr}
theorem Inv.inExcN (I : Inv X pins σ H s) (a : Addr) : Inv (X.inExcN a) pins σ H s :=
  ⟨⟨I.ok.mod, I.ok.kind, I.ok.glob, I.ok.blt, I.ok.above, I.ok.inj, I.ok.has, I.ok.cab, (fun z => by cases z), I.ok.frames, I.ok.stk, I.ok.exf, I.ok.bs, I.ok.bsz, I.ok.noex, I.ok.exfs, I.ok.funs, I.ok.frf⟩,
    I.os, I.bare, I.base, I.loc, I.cell, I.free, I.freeC, I.pin, I.hok, I.len⟩
theorem Inv.outExcN (ok : X.Ok) (I : Inv (X.inExcN a) pins σ H s) : Inv X pins σ H s :=
  ⟨ok, I.os, I.bare, I.base, I.loc, I.cell, I.free, I.freeC, I.pin, I.hok, I.len⟩
end
def tTryAs (K : PySem.W.Frag) (Dc : Addr) (i : Nat) (tb : (St → XK) → TS) (ts : Addr → TS) : TS := fun D σ H => ∃ Eb : St → XK, tb Eb D σ H ∧ ∀ σ' C H', Eb σ' (.ref C) none H' → PySem.W.exmOne K (.ref C) (.ref Dc) = some true ∧
  ∀ a, H' a = none → ts a { nx := fun _ _ => False, rt := D.rt } (σ'.set i (some (.ref a))) (upd H' a (ExcO a C))
section
variable {X : Cx} {x n : Str} {i : Nat} {np hpos pos : Pos} {body : List Stmt} {b₀ : Stmt} {suite : List Stmt} {Dc : Addr} {tb : (St → XK) → TS} {ts : Addr → TS}
theorem ps_tryAs (hst : X.stack = X.env :: X.outer) (hfm : X.env.frame = some X.env.locals) (hm : X.mg x = some (.ref Dc)) (hE : ∀ a, PassesOwnAt (model X.prog X.w) (X.A.mark (some (.ref a))) X.A X.env X.xe)
    (hN : X.N.Nodup) (hi : X.N[i]? = some n) (hln : X.env.scope.names.lookup n = some .local)
    (hb : ∀ (Eb : St → XK) (pn : List (Addr × Obj)) (xe : Value → Shared → Prop), Lands (X.inTry pn xe) Eb → PSs (X.inTry pn xe) body (tb Eb)) (hs : ∀ a, PSs (X.inExcN a) (b₀ :: suite) (ts a))
    (hg : Gl X x := by rfl) (hdb : (x == ("__debug__" : Str)) = false := by decide) : PS X (.Try body [.ExceptHandler (some (.Name x np)) (some n) (b₀ :: suite) hpos] [] [] pos) (tTryAs X.K Dc i tb ts) := by
  intro pins s σ H D I h
  obtain ⟨Eb, htb, hts⟩ := h
  refine wpAny_Try_except ?_
  refine wpAny_mono ((hb Eb (X.pn ++ pins) _ ?_) [] s σ H D (I.inTry _) htb) (fun f s1 hsp => ?_) (fun e s1 z => z)
  · intro pins' σ' H1 s1 e s' I1 hx
    obtain ⟨a, C, a0, H', B, rfl, os, bare, un, hok, fl, st, cov, nf, c0, hEb⟩ := hx
    obtain ⟨hmatch, hts'⟩ := hts σ' C H' hEb
    rw [show (X.inTry (X.pn ++ pins) _).stack = X.stack from rfl] at fl un cov nf
    have fl1 := fl
    rw [hst] at fl1
    have hfr : X.A.frames = some (X.env :: X.outer) := by rw [← hst]; exact I.ok.frames
    have afs : a ∉ frs X.stack := fun z => by
      obtain ⟨o, e1, hd⟩ := flying_data fl a z
      obtain ⟨o', fs, e2, d, _⟩ := c0
      rw [e1] at e2; cases e2
      exact hd _ d
    have hBa : B.get? a = none := fl.2.1
    have hHa : H' a = none := by
      cases z : H' a with
      | none => rfl
      | some o =>
        obtain ⟨ob, e⟩ := cov a afs (.inr ⟨o, z⟩)
        rw [hBa] at e; cases e
    have hsa : s1.heap.get? a = none := by
      cases z : s1.heap.get? a with
      | none => rfl
      | some o =>
        obtain ⟨ob, e⟩ := cov a afs (.inl ⟨o, z⟩)
        rw [hBa] at e; cases e
    have go : ∀ (h5 : Heap) (a0' : Value), Heap.FlyingW B (X.env :: X.outer) a (.ref C) a0' h5 → s'.heap.UpToSlots h5 → Inv X pins σ' H' { s' with heap := h5 } := fun h5 a0' fl5 up5 =>
      (I1.call' (s' := { s' with heap := h5 }) os (un_step un cov fl.1 fl5.1 up5 (flying_data fl)) (hok_step hok cov fl.1 fl5.1 nf) bare (fun b z => by cases z)).outTry
    have go2 : ∀ (h5 : Heap) (a0' : Value), Heap.FlyingW B (X.env :: X.outer) a (.ref C) a0' h5 → s'.heap.UpToSlots h5 → Ctx0 a h5 → Inv X pins σ' (upd H' a (ExcO a C)) { s' with heap := h5 } := fun h5 a0' fl5 up5 c5 =>
      (I1.call' (s' := { s' with heap := h5 }) os (un_track (un_step un cov fl.1 fl5.1 up5 (flying_data fl)) hHa hsa) ((hok_step hok cov fl.1 fl5.1 nf).track hHa (exc_ok c5 fl5.there)) bare (fun b z => by cases z)).outTry
    refine wpAny_mono (tame_any (a := a) (s := s') tame_noteFrame c0 (wpAny_looks_onW (E := fun _ _ => False) (Q := fun _ s2 => ∃ h2 : Heap, s2 = { s' with heap := h2 } ∧ Heap.HeldW B (X.env :: X.outer) a (.ref C) a0 X.env.locals h2 ∧ s'.heap.UpToSlots h2) hfr hfm fl1 fun h4 held4 up4 => ⟨h4, rfl, held4, up4⟩)) (fun _ s4 ⟨⟨h4, e4, held4, up4⟩, c4⟩ => ?_) (fun _ _ z => z.1.elim)
    subst e4
    refine wpAny_mono (tame_any (a := a) (s := { s' with heap := h4 }) tame_setFlight c4 (wpAny_landsW (E := fun _ _ => False) (Q := fun _ s2 => ∃ h2 : Heap, s2 = { s' with heap := h2 } ∧ Heap.FlyingW B (X.env :: X.outer) a (.ref C) a0 h2 ∧ h4.UpToSlots h2) held4 fun h5 fl5 up5 => ⟨h5, rfl, fl5, up5⟩)) (fun _ s5 ⟨⟨h5, e5, fl5, up5⟩, c5⟩ => ?_) (fun _ _ z => z.1.elim)
    subst e5
    have I5 := go h5 _ fl5 (up4.trans up5)
    obtain ⟨ob, hob, hobc⟩ := fl5.there
    refine wpAny_handleBy_cons (codeAny_handlers_test (ld_glob (X := X.inExc a) (I5.inExc a) hg hm ?_ hdb)) (by intro q; cases q)
    have LT : PySem.W.Looks (model X.prog X.w) h5 (typeOf (.ref a)) (.ref C) := by
      rw [← hobc]
      exact (PySem.W.Looks.ld hob).andThen .now
    refine PySem.W.exm_one I5.kIn LT hmatch _ _ _ _ (fun b o q => q) ?_
    refine codeAny_handlers_suite_as ?_
    refine wpAny_mono (tame_any (a := a) (s := { s' with heap := h5 }) tame_setFlight c5 (lands_againW (E := fun _ _ => False) (Q := fun _ s2 => ∃ h2 : Heap, s2 = { s' with heap := h2 } ∧ Heap.FlyingW B (X.env :: X.outer) a (.ref C) a0 h2 ∧ h5.UpToSlots h2) fl5 fun h6 fl6 up6 => ⟨h6, rfl, fl6, up6⟩)) (fun _ s6 ⟨⟨h6, e6, fl6, up6⟩, c6⟩ => ?_) (fun _ _ z => z.1.elim)
    subst e6
    have I6 := (go2 h6 _ fl6 ((up4.trans up5).trans up6) c6).inExcN a
    refine store_ok (X := X.inExcN a) (v := .ref a) I6 hN hi (.inl hln) rfl (fun s7 I7 => ?_) (.inr hln)
    refine wpAny_mono (hs a pins s7 _ _ { nx := fun _ _ => False, rt := D.rt } I7 (hts' a hHa)) (fun f s8 q => ?_) (fun _ _ z => z.elim)
    cases f with
    | next => obtain ⟨_, _, _, z⟩ := q; exact z.elim
    | brk => obtain ⟨_, _, _, z⟩ := q; exact z.elim
    | cont => obtain ⟨_, _, _, z⟩ := q; exact z.elim
    | ret u =>
      obtain ⟨v, σ8, H8, I8, rv, q8⟩ := q
      have I8' : Inv X pins σ8 H8 s8 := I8.outExcN I.ok
      obtain ⟨m8, hn8, _⟩ := id I8'.loc
      refine wpAny_nameGoes hln hn8 (by rw [I.ok.kind]; rfl) fun h9 m9 hn9 sb9 => ?_
      exact ⟨v, _, H8, inv_gone I8' hn9 sb9, rv, q8⟩
  · have q := hsp.outTry
    cases f with
    | next => exact wpAny_execs_nil q
    | brk => exact q
    | cont => exact q
    | ret u => exact q
end
end L2

set_option Elab.async false
set_option linter.all false
set_option maxRecDepth 100000
namespace L2
open PySem PySem.Spec PyProof.Rows
set_option maxHeartbeats 1000000 in
theorem comp_genQ {X : Cx} {elt iter tg : Expr} {pos ppos : Pos} {ifs : List Expr} {scope : Scope} {wi : TI} {g : TG} {tc : TT} {te : TE} {use : Option (Value → Sem Unit)} {Qf : Value → Shared → Prop} (own : List Str) (js : List Nat) (N' : List Str) 
    (hi : PIQ X tg iter wi)
    (hg : ∀ C s₀ H₀ ex, PG (cxComp X scope N' C s₀ H₀ ex) tg g)
    (ht : ∀ C s₀ H₀ ex, PTs (cxComp X scope N' C s₀ H₀ ex) ifs tc)
    (he : ∀ C s₀ H₀ ex, PE (cxComp X scope N' C s₀ H₀ ex) elt te)
    (hN' : N' = own ++ js.map fun j => X.N.getD j Str.empty)
    (hk : scope.kind = .function)
    (hcell : ∀ y ∈ scope.names, y.2 ≠ .cell)
    (hnames : ∀ y ∈ scope.names, y.2 = .local → scope.names.lookup y.1 = some .local)
    (hfr : (scope.names.all fun y => y.2 != .free || X.env.scope.names.lookup y.1 == some .cell) = true)
    (hjs : (js.all fun j => scope.names.lookup (X.N.getD j Str.empty) == some .free && (X.N[j]?).isSome) = true)
    (hs : ∀ z, foldedSetIterable iter X.env z = pure z)
    {pins : List (Addr × Obj)} {s : Shared} {σ : St} {H : Hp} {Q : VK} (I : Inv X pins σ H s) (h : tComp own.length js wi g tc te σ H Q)
    (fin : ∀ (D C : Addr) (H' : Hp) (s4 : Shared) (m : Str → Option Value), Inv X pins σ H' s4 → Q (.ref D) H' → s4.heap.Ns C m → CEnd X pins H' C → compPost (model X.prog X.w) X.A X.xe use Qf (.ref D) C (.ok .next) s4) :
    wpAny (model X.prog X.w) X.A (comprehension (.ListComp elt [⟨tg, iter, ifs, 0⟩] scope pos) scope X.env ppos (newList []) false (eval iter X.env) use) Qf X.xe s := by
  have free_cell : ∀ y ∈ scope.names, y.2 = .free → X.env.kindOf y.1 = some .cell := fun y hy hf => by
    have := List.all_eq_true.mp hfr y hy
    rw [hf] at this
    simp at this
    exact this
  have hcl : ∀ y ∈ scope.names, y.2 = .free → ∃ c, X.env.cells.lookup y.1 = some c := fun y hy hf => I.ok.has y.1 (.inl (free_cell y hy hf))
  refine wpAny_comprehension_free (use := use) rfl hs (closureFor_eq hcl) hk hnames ?_
  refine thn (hi pins s σ H _ I h) fun v s1 h1 => thn h1 fun itv s2 h2 => ?_
  obtain ⟨it, fp, tn, J, H2, e, I2, T, st2, f2, W, ⟨m0, w0⟩, turn⟩ := h2
  subst e
  refine wpAny_newObj_type (wpAny_newFunctionEnv hcell (by intro y hy; simp at hy) (fun h₁ hns₁ hsb₁ => ?_) hk)
  dsimp only at hns₁ hsb₁ ⊢
  generalize hG : s2.heap.push { cls := .type "list", dict := none, data := .seq ([] : List Value).toArray } = G at hns₁ hsb₁ ⊢
  have hC : G.objs.size = s2.heap.objs.size + 1 := by rw [← hG, Heap.size_push]
  have hDC : s2.heap.objs.size ≠ G.objs.size := by rw [hC]; exact Nat.ne_of_lt (Nat.lt_succ_self _)
  have below : ∀ b, b < s2.heap.objs.size → b ≠ G.objs.size ∧ b ≠ s2.heap.objs.size := fun b hb => ⟨by rw [hC]; exact Nat.ne_of_lt (Nat.lt_succ_of_lt hb), Nat.ne_of_lt hb⟩
  have old : ∀ b o, s2.heap.get? b = some o → h₁.get? b = some o := fun b o e => hsb₁.extBut b o (below b (Heap.lt_size e)).1 (Heap.get?_push_of_some _ (hG ▸ Heap.get?_push_of_some _ e))
  have hacc : h₁.get? s2.heap.objs.size = some { cls := .type "list", data := .seq ([] : List Value).toArray 0 } := hsb₁.extBut _ _ hDC (Heap.get?_push_of_some _ (hG ▸ Heap.get?_push_size _ rfl))
  have fplt : ∀ b ∈ fp, b < s2.heap.objs.size := fun b hb => let ⟨_, e, _⟩ := T.obj _ _ st2 b hb; Heap.lt_size e
  have ok' : (cxComp X scope N' G.objs.size s2 H2 fp).Ok := by
    refine ⟨I2.ok.mod, hk, I2.ok.glob, I2.ok.blt, by show s2.heap.objs.size ≤ G.objs.size; rw [hC]; exact Nat.le_succ _, fun x y c e1 e2 => I2.ok.inj x y c (lookup_closOf hcl e1) (lookup_closOf hcl e2), fun x hx => ?_,
      fun x c hx _ => (nomatch hx), I2.ok.hd, I2.ok.frames, .inl rfl, fun b hb => ⟨(below b (fplt b hb)).1, fun x c e => (f2 b hb).2.2.2.2.1 x c (lookup_closOf hcl e)⟩, I2.bs, Nat.le_trans I2.ok.bsz I2.sz, fun b o e hb => ?_, fun b hb z => ?_, I2.stack, I2.stkFree⟩
    · have hx' : (relabel scope X.env).names.lookup x = some .cell ∨ (relabel scope X.env).names.lookup x = some .free := hx
      have : (x, NameKind.free) ∈ scope.names ∨ (x, NameKind.cell) ∈ scope.names := by
        rcases hx' with z | z
        · exact relabel_back z (.inl rfl)
        · exact relabel_back z (.inr rfl)
      rcases this with z | z
      · exact has_closOf z
      · exact absurd rfl (hcell _ z)
    · rcases (f2 b hb).2.2.2.1 with z | z
      · exact I2.ok.noex b o e z
      · have h1 : b < X.base.objs.size := Heap.lt_size e
        exact absurd (Nat.lt_of_lt_of_le h1 (Nat.le_trans I2.ok.bsz z)) (Nat.lt_irrefl _)
    · rcases List.mem_cons.mp (I2.stkSub b z) with e | e
      · exact (f2 b hb).2.1 e
      · exact (f2 b hb).2.2.1 e
  have kindCap : ∀ i y, (js.map fun j => X.N.getD j Str.empty)[i]? = some y → ∃ j, js[i]? = some j ∧ X.N[j]? = some y ∧ scope.names.lookup y = some .free := fun i y e => by
    rw [List.getElem?_map] at e
    cases q : js[i]? with
    | none => rw [q] at e; cases e
    | some j =>
      rw [q] at e
      have e' : X.N.getD j Str.empty = y := Option.some.inj e
      have hj := List.all_eq_true.mp hjs j (List.mem_of_getElem? q)
      rw [Bool.and_eq_true] at hj
      obtain ⟨hj1, hj2⟩ := hj
      rw [e'] at hj1
      obtain ⟨z, hz⟩ := Option.isSome_iff_exists.mp hj2
      rw [List.getD_eq_getElem?_getD, hz] at e'
      exact ⟨j, q, by rw [hz]; exact congrArg some e', by simpa using hj1⟩
  have I0 : ∀ tk : Nat, Inv (cxComp X scope N' G.objs.size s2 H2 fp) [(s2.heap.objs.size, { cls := .type "list", data := .seq ([] : List Value).toArray 0 })] (List.replicate own.length none ++ caps σ js) H2 { s2 with heap := h₁, toks := tk } := fun tk => by
    refine ⟨ok', rfl, I2.bare, Un.kept old, ⟨_, hns₁, fun i y v e1 e2 e3 => ?_⟩, fun x c e => ?_, I2.hok.fresh (by show s2.heap.objs.size ≤ G.objs.size; rw [hC]; exact Nat.le_succ _), fun x c e => I2.freeC x c (lookup_closOf hcl e), fun p hp => ?_, I2.hok.kept old, ?_⟩
    · by_cases hlt : i < own.length
      · rw [List.getElem?_append_left (by simpa using hlt), List.getElem?_replicate] at e2
        split at e2 <;> cases e2
      · have e1' : N'[i]? = some y := e1
        rw [hN', List.getElem?_append_right (by omega)] at e1'
        rw [List.getElem?_append_right (by simpa using hlt), List.length_replicate] at e2
        obtain ⟨j, hj, hs2⟩ := caps_get e2
        obtain ⟨j', hj', hN, hfree⟩ := kindCap _ _ e1'
        rw [hj] at hj'; cases hj'
        obtain ⟨m, hm, hl⟩ := I2.loc
        have hcell' : X.env.kindOf y = some .cell := free_cell (y, .free) (PySem.mem_of_lookup hfree) rfl
        obtain ⟨u, r, l⟩ := hl j y v hN hs2 (.inr (.inl hcell'))
        refine ⟨u, r, ?_⟩
        rcases l with ⟨hk', _⟩ | ⟨hk', c, hc', z⟩
        · rw [hcell'] at hk'; cases hk'
        · obtain ⟨c', e'⟩ := has_closOf (env := X.env) (PySem.mem_of_lookup hfree)
          have := lookup_closOf hcl e'
          rw [hc'] at this; cases this
          refine .inr ⟨.inl (lookup_relabel_free I2.ok.kind hfree hcell'), c, e', ?_⟩
          obtain ⟨o, ho, hd⟩ := z
          exact ⟨o, old _ _ ho, hd⟩
    · obtain ⟨v, o, ho, hd⟩ := I2.cell x c (lookup_closOf hcl e)
      exact ⟨v, o, old _ _ ho, hd⟩
    · have hp' : p = (s2.heap.objs.size, { cls := .type "list", data := .seq ([] : List Value).toArray 0 }) := by
        rcases List.mem_append.mp hp with z | z
        · exact absurd (show p ∈ ([] : List (Addr × Obj)) from z) (by simp)
        · simpa using z
      subst hp'
      refine ⟨hacc, I2.hok.fresh (Nat.le_refl _), hDC, fun z => ?_, fun v z => by cases z⟩
      exact absurd (show s2.heap.objs.size ∈ frs X.stack from z) fun z => by
        rcases List.mem_cons.mp (I2.stkSub _ z) with e | e
        · have := I2.lt
          rw [← e] at this
          exact Nat.lt_irrefl _ this
        · exact I2.nofs (Nat.le_refl _) e
    · show _ = N'.length
      rw [hN']
      simp [caps]
  have stat : ∀ {H' : Hp} {ob : Obj}, (∀ b ∈ fp, H' b = none) → ∀ b ∈ fp, FpOk (cxComp X scope N' G.objs.size s2 H2 fp) [(s2.heap.objs.size, ob)] H' b := fun {H' ob} hn b hb =>
    ⟨hn b hb, (below b (fplt b hb)).1, fun z => ok'.exfs b hb z, .inl hb, fun x c e => (f2 b hb).2.2.2.2.1 x c (lookup_closOf hcl e), fun p hp => by
      have hp' : p = (s2.heap.objs.size, ob) := by
        rcases List.mem_append.mp hp with z | z
        · exact absurd (show p ∈ ([] : List (Addr × Obj)) from z) (by simp)
        · simpa using z
      subst hp'
      exact Ne.symm (below b (fplt b hb)).2⟩
  have loop : ∀ s₃ : Shared, s₃ = { s2 with heap := h₁, toks := s2.toks + ([] : List (Str × Value)).length } →
      codeAny (model X.prog X.w) X.A (.compLoop (.ListComp elt [⟨tg, iter, ifs, 0⟩] scope pos) 0 (.ref it) (.ref s2.heap.objs.size) (compEnvC scope (closOf scope X.env) G.objs.size X.env))
        (compPost (model X.prog X.w) X.A X.xe use Qf (.ref s2.heap.objs.size) G.objs.size) s₃ := by
    rintro s₃ rfl
    refine comp_loop (fun n s' => ∃ (i : Nat) (os : St) (H' : Hp) (ys : List V) (its : List Value) (k : Nat), os.length = own.length ∧
      Inv (cxComp X scope N' G.objs.size s2 H2 fp) [(s2.heap.objs.size, { cls := .type "list", data := .seq its.toArray k })] (os ++ caps σ js) H' s' ∧ tn i s'.heap ∧ (∀ b ∈ fp, H' b = none) ∧ Vals ys its ∧ W i n ys H') ?_ m0
      ⟨0, _, H2, [], [], 0, by simp, I0 _, T.keep _ _ _ st2 fun b _ o e => old b o e, fun b hb => (f2 b hb).1, .nil, w0⟩
    rintro n s3 ⟨i, os, H3, ys, its, k, hos, I3, st3, fr3, rv3, w3⟩
    have pinD : ∀ {σ' : St} {H' : Hp} {s' : Shared}, Inv (cxComp X scope N' G.objs.size s2 H2 fp) [(s2.heap.objs.size, { cls := .type "list", data := .seq its.toArray k })] σ' H' s' → s'.heap.get? s2.heap.objs.size = some { cls := .type "list", data := .seq its.toArray k } ∧ H' s2.heap.objs.size = none :=
      fun I => let q := I.pin (s2.heap.objs.size, { cls := .type "list", data := .seq its.toArray k }) (List.mem_append_right _ (by simp)); ⟨q.1, q.2.1⟩
    rcases turn i n ys H3 w3 with ⟨stop, hz, qn⟩ | ⟨go, hz, step⟩
    · refine thn (T.done (cxComp X scope N' G.objs.size s2 H2 fp) rfl rfl rfl rfl i _ s3 _ H3 _ I3 (stat fr3) st3 stop) fun r s4 ⟨hr, I4⟩ => ?_
      subst hr
      obtain ⟨hD4, hn4⟩ := pinD I4
      obtain ⟨m, hm, _⟩ := I4.loc
      have hsb : Heap.SameBut G.objs.size s4.heap s4.heap := ⟨rfl, fun _ _ => rfl⟩
      have b4 := I4.base
      have nC : ∀ b o, s2.heap.get? b = some o → b ≠ G.objs.size := fun b o e => (below b (Heap.lt_size e)).1
      have nD : ∀ b o, s2.heap.get? b = some o → b ≠ s2.heap.objs.size := fun b o e => (below b (Heap.lt_size e)).2
      have hok' : HOk X.prog X.w H3 s4.heap := fun b ob e => by
        refine (I4.hok b ob e).stay (fun c w' hc' q => (hsb.2 c ?_).trans q) (fun _ q => q) fun _ _ q => q
        rintro rfl
        rcases hc' with hc' | hc'
        · rw [← hc', show H3 G.objs.size = none from I4.free] at e; cases e
        · rw [show H3 G.objs.size = none from I4.free] at hc'; cases hc'
      have hD' : s4.heap.get? s2.heap.objs.size = some { cls := .type "list", data := .seq its.toArray k } := (hsb.2 _ hDC).trans hD4
      have hCn : H3 G.objs.size = none := I4.free
      have hC2 : s2.heap.objs.size ≤ G.objs.size := by rw [hC]; exact Nat.le_succ _
      refine fin s2.heap.objs.size G.objs.size (upd H3 s2.heap.objs.size (.lst ys)) s4 m ?_ (qn _ hn4) hm ⟨by rw [upd_ne (Ne.symm hDC)]; exact hCn, fun z => ?_, Nat.le_trans I2.sz hC2, fun x c e z => ?_, fun p hp z => ?_⟩
      rotate_left
      · have h9 := I2.lt
        rw [← z] at h9
        exact Nat.lt_irrefl _ (Nat.lt_of_lt_of_le h9 hC2)
      · obtain ⟨v, o, ho, _⟩ := I2.cell x c e
        have h9 := Heap.lt_size ho
        rw [z] at h9
        exact Nat.lt_irrefl _ (Nat.lt_of_lt_of_le h9 hC2)
      · have h9 := Heap.lt_size (I2.pin p hp).1
        rw [z] at h9
        exact Nat.lt_irrefl _ (Nat.lt_of_lt_of_le h9 hC2)
      refine I2.call' (ch := fp) I4.os ⟨fun b o e n hb hx => ?_, fun b o e n hb hx => ?_, fun b o e n hx => ?_, fun b o e hx => ?_, fun b xs q => ?_, fun b o u q => ?_, fun b ps q => ?_⟩ (hok'.track hn4 ⟨hz, its, k, rv3, hD'⟩) I4.bare fun b hb => ⟨(f2 b hb).2.2.2.1, (f2 b hb).2.1, (f2 b hb).2.2.2.2.1, (f2 b hb).2.2.2.2.2⟩
      · exact (hsb.2 b (nC b o e)).trans (b4.keep b o e n hb hx)
      · obtain ⟨sl, e1⟩ := b4.slot b o e n hb hx
        exact ⟨sl, (hsb.2 b (nC b o e)).trans e1⟩
      · rw [upd_ne (nD b o e)]; exact b4.free b o e n hx
      · obtain ⟨o', e1⟩ := b4.there b o e hx
        exact ⟨o', (hsb.2 b (nC b o e)).trans e1⟩
      · have z := b4.tups b xs q
        rw [upd_ne (ne_of_none z hn4)]; exact z
      · have z := b4.frzs b o u q
        rw [upd_ne (ne_of_none z hn4)]; exact z
      · obtain ⟨more, z⟩ := b4.tbls b ps q
        exact ⟨more, by rw [upd_ne (ne_of_none z hn4)]; exact z⟩
    · refine thn (T.item (cxComp X scope N' G.objs.size s2 H2 fp) rfl rfl rfl rfl i _ s3 _ H3 _ I3 (stat fr3) st3 go) fun r s4 ⟨u, hr, h4⟩ => ?_
      subst hr
      refine thn h4 fun _ s5 ⟨x, H5, I5, r5, y5, st5, fr5⟩ => ?_
      have fpo := T.obj _ _ st5
      have I5' := I5.pinned (stat fr5) fpo
      refine wpAny_mono (hg _ _ _ _ _ s5 _ H5 x u _ I5' r5 (step x H5 y5 os hos)) (fun _ s6 ⟨σ6, H6, I6, ⟨os', hos', e6⟩, q6⟩ => ?_) fun _ _ z => False.elim z
      subst e6
      refine wpAny_mono (ht _ _ _ _ _ s6 _ H6 _ I6 q6) (fun ok s7 ⟨H7, I7, q7⟩ => ?_) fun _ _ z => False.elim z
      have keepFp : ∀ {σ' : St} {H' : Hp} {s' : Shared}, Inv (cxComp X scope N' G.objs.size s2 H2 fp) ([(s2.heap.objs.size, { cls := .type "list", data := .seq its.toArray k })] ++ pinsAt fp s5.heap) σ' H' s' → tn (i + 1) s'.heap ∧ ∀ b ∈ fp, H' b = none := fun I => by
        refine ⟨T.keep _ _ _ st5 fun b hb o e => (I.pin (b, o) (List.mem_append_right _ (List.mem_append_right _ (mem_pinsAt hb e)))).1, fun b hb => ?_⟩
        obtain ⟨o, e, d⟩ := fpo b hb
        exact (I.pin (b, o) (List.mem_append_right _ (List.mem_append_right _ (mem_pinsAt hb e)))).2.1
      cases ok with
      | false =>
        obtain ⟨m', hm', w'⟩ := q7
        obtain ⟨k1, k2⟩ := keepFp I7
        exact ⟨m', hm', i + 1, os', H7, ys, its, k, hos', I7.unpinned, k1, k2, rv3, w'⟩
      | true =>
        rw [if_pos rfl]
        refine wpAny_mono (he _ _ _ _ _ s7 _ H7 _ I7 q7) (fun yv s8 ⟨y, H8, I8, r8, q8⟩ => ?_) fun _ _ z => False.elim z
        obtain ⟨m', hm', w'⟩ := q8
        obtain ⟨k1, k2⟩ := keepFp I8
        have I8' := I8.unpinned
        obtain ⟨hD8, hn8⟩ := pinD I8'
        have hil : its.length < sizeLine := by rw [← rv3.length]; exact hz
        refine call_meets F.slot_list_append ⟨_, hD8, rfl⟩ F.entry_list_append (F.args_list_append_2 _ _) (PySem.list_append _ its.toArray k yv (by rw [List.size_toArray]; omega)) ⟨hD8, ?_⟩
        have q : (s8.heap.update s2.heap.objs.size (Obj.mapSeq fun a => a.push yv)).get? s2.heap.objs.size = some { cls := .type "list", data := .seq (its ++ [yv]).toArray (if (its.toArray.push yv).size == its.toArray.size then k else k + 1) } := by
          have q0 := PySem.IsL.update hD8 (fun a : Array Value => a.push yv)
          have ea : its.toArray.push yv = (its ++ [yv]).toArray := by simp
          rw [← ea]
          exact q0
        refine ⟨m', hm', i + 1, os', H8, ys ++ [y], its ++ [yv], (if (its.toArray.push yv).size == its.toArray.size then k else k + 1), hos', ?_, T.keep _ _ _ k1 fun b hb o e => (Heap.get?_update_other s8.heap _ (below b (fplt b hb)).2.symm).trans e, k2, rv3.append (.cons r8 .nil), w'⟩
        have In : Inv (cxComp X scope N' G.objs.size s2 H2 fp) [] (os' ++ caps σ js) H8 s8 := I8'.pins_of fun p hp => absurd hp (by simp)
        have It : Inv (cxComp X scope N' G.objs.size s2 H2 fp) [] (os' ++ caps σ js) H8 { s8 with heap := s8.heap.update s2.heap.objs.size (Obj.mapSeq fun a => a.push yv) } :=
          In.turned (it := s2.heap.objs.size) (t' := s8.toks) (fun b o hb e => (Heap.get?_update_other s8.heap _ (Ne.symm hb)).trans e) hn8 hDC (.inr (Nat.le_refl _)) (fun x c e z => by
            obtain ⟨v, o, ho, hd⟩ := I8'.cell x c e
            rw [z, hD8] at ho
            cases ho
            cases hd) fun p hp => absurd hp (by simp [cxComp])
        refine It.pins_of fun p hp => ?_
        have hp' : p = (s2.heap.objs.size, { cls := .type "list", data := .seq (its ++ [yv]).toArray (if (its.toArray.push yv).size == its.toArray.size then k else k + 1) }) := List.mem_singleton.mp hp
        subst hp'
        exact ⟨q, hn8, hDC, (I8'.pin _ (List.mem_append_right _ (List.mem_singleton.mpr rfl))).2.2.2.1, fun v z => by cases z⟩
  exact codeAny_compStart_list (loop _ rfl) (T.self _ 0 _ _ _ (T.keep _ _ _ st2 fun b _ o e => old b o e) (loop _ rfl))
theorem ps_setC2Q {X : Cx} {elt iter : Expr} {x x2 y : Str} {px px2 py ptt pos spos : Pos} {kk : Nat} {ifs : List Expr} {scope : Scope} {wi : TI} {tc : TT} {te : TE} {i : Nat} (js : List Nat) (N' : List Str) (hN : X.N.Nodup) (hy : X.N[i]? = some y) (hl : Loc X.env.scope y)
    (hi : PIQ X (.Tuple [.Name x px, .Name x2 px2] kk ptt) iter wi)
    (ht : ∀ C s₀ H₀ ex, PTs (cxComp X scope N' C s₀ H₀ ex) ifs tc)
    (he : ∀ C s₀ H₀ ex, PE (cxComp X scope N' C s₀ H₀ ex) elt te)
    (hsw : swapsWith (.ListComp elt [⟨.Tuple [.Name x px, .Name x2 px2] kk ptt, iter, ifs, 0⟩] scope pos) (some (.Name y py)) spos.line X.env = pure true := by rfl)
    (hf : X.fn y = true ∨ X.env.scope.names.lookup y = some .local := by first | exact .inl rfl | exact .inr rfl | assumption)
    (nd : N'.Nodup := by decide +kernel)
    (hx : scope.names.lookup x = some .local := by rfl) (hx2 : scope.names.lookup x2 = some .local := by rfl)
    (hN' : N' = [x, x2] ++ js.map fun j => X.N.getD j Str.empty := by rfl)
    (hk : scope.kind = .function := by rfl)
    (hcell : ∀ y ∈ scope.names, y.2 ≠ .cell := by decide +kernel)
    (hnames : ∀ y ∈ scope.names, y.2 = .local → scope.names.lookup y.1 = some .local := by decide +kernel)
    (hfr : (scope.names.all fun y => y.2 != .free || X.env.scope.names.lookup y.1 == some .cell) = true := by rfl)
    (hjs : (js.all fun j => scope.names.lookup (X.N.getD j Str.empty) == some .free && (X.N[j]?).isSome) = true := by rfl)
    (hs : ∀ z, foldedSetIterable iter X.env z = pure z := by intro _; rfl) :
    PS X (.Assign [.Name y py] (.ListComp elt [⟨.Tuple [.Name x px, .Name x2 px2] kk ptt, iter, ifs, 0⟩] scope pos) spos) (tAsg (tComp 2 js wi (gTupQ X.A X.K 2 (gCons (gName 0) (gCons (gName 1) gNil))) tc te) (gName i)) := by
  intro pins s σ H D I h
  rw [exec_Assign_Name_used _ _ _ _ hsw]
  refine wpAny_bind (wpAny_standAt (wpAny_bind ?_))
  show wpAny _ _ (do let _ ← comprehension (.ListComp elt [⟨.Tuple [.Name x px, .Name x2 px2] kk ptt, iter, ifs, 0⟩] scope pos) scope X.env _ (newList []) false (eval iter X.env) (some (assign (.Name y py) X.env))) _ _ s
  refine wpAny_bind (wpAny_mono (comp_genQ (use := some (assign (.Name y py) X.env)) (Qf := fun _ s' => SP X pins D .next s') [x, x2] js N' hi (fun C s₀ H₀ ex => pg_tupQ (X := cxComp X scope N' C s₀ H₀ ex) rfl
      (pgs_cons (pg_name (X := cxComp X scope N' C s₀ H₀ ex) (i := 0) nd (by show N'[0]? = some x; rw [hN']; rfl) (Or.inl (lookup_relabel_local hx)) (.inr (lookup_relabel_local hx)))
        (pgs_cons (pg_name (X := cxComp X scope N' C s₀ H₀ ex) (i := 1) nd (by show N'[1]? = some x2; rw [hN']; rfl) (Or.inl (lookup_relabel_local hx2)) (.inr (lookup_relabel_local hx2))) pgs_nil)))
    ht he hN' hk hcell hnames hfr hjs hs I h ?_) (fun _ s' hq => wpAny_pure (wpAny_pure hq)) fun _ _ e => e)
  intro B C H' s4 m I4 q hn ce
  refine wpAny_assign_Name (store_ok2 I4 hN hy hl (v := .ref B) rfl (fun s5 I5 ⟨a, sb, ha⟩ => ?_) hf)
  have hne : C ≠ a := by
    rcases ha with rfl | ha
    · exact ce.ne
    · exact Ne.symm (ce.cl _ _ ha)
  refine ⟨m, hn.sameBut sb hne, fun h' hsb => ⟨_, H', I5.turned (t' := s5.toks) (it := C) (fun b o hb e => (hsb.2 b hb).trans e) ce.no ce.ne (.inr ce.new) ce.cl ce.pn, q⟩⟩
end L2

set_option Elab.async false
set_option linter.all false
set_option maxRecDepth 100000
namespace WM
open PySem PySem.StrLaws

end WM

set_option Elab.async false
set_option linter.all false
set_option maxRecDepth 100000
namespace L2
open PySem PySem.Spec PyProof.Rows
/-! ### any(xs) of a list of truths -/
section
variable {X : Cx}
end
/-! ### a def that a name of the frame holds -/
section
variable {X : Cx} {x y : Str} {ps : List Str} {sp : Sp} {j k : Nat} {e : Expr} {es : List Expr} {t : TA} {p pos : Pos} {f : Addr}
end
/-! ### a comprehension over a zip of two tuples -/
end L2

set_option Elab.async false
set_option linter.all false
set_option maxRecDepth 100000
namespace L2
open PySem PySem.Spec PyProof.Rows
open PySem.AutoSeq1 (wpAny_loadPart')
section
variable {s : Shared} {A : Around} {l : Addr} {o : Obj} {es : Array DictEntry} {ep : Nat}
end
theorem pass1N {P : Program} {w : World} {base : Heap} {X : Cx} : Passes (CX1 P w base) X E0 := by
  intro pins σ H s e s' I h
  obtain ⟨a, C, a0, H', B, rfl, os, bare, un, hok, fl, st, cov, nf, c0, hEb⟩ := h
  exact hEb.elim
end L2

set_option Elab.async false
set_option linter.all false
set_option maxRecDepth 100000
namespace L2
open PySem PySem.Spec PyProof.Rows
section
variable {X : Cx}
end
end L2

set_option Elab.async false
set_option linter.all false
set_option maxRecDepth 100000
namespace L2
open PySem PySem.Spec PyProof.Rows
/-! ### d.values() -/
structure M0 (X : Cx) (o : Expr) (m : Str) (apos : Pos) (cpos : Pos) : Prop where
  base : attributeBase o m X.env (eval o X.env) = eval o X.env
  few : ((backTo cpos (starEach [] X.env)).all (fun x => !x.1) && (backToKw cpos (keywordEach [] X.env)).all (fun x => x.1.isSome)
    && decide (([] : List Expr).length + ([] : List Keyword).length + (if ([] : List Keyword).isEmpty then 0 else 1) < 30)) = true
  line : (apos.endLine == cpos.line) = true
  trees : backTo cpos (starEach [] X.env) = []
/-- a view of the dict at d -/
def ViewO (r d : Addr) : HO := .ext fun h => h.IsValuesView r d
def tDVals (td : TE) : TE := fun σ H Q => td σ H fun x H1 => ∃ d kvs, x = .ref d ∧ H1 d = some (.dK kvs) ∧ ∀ r, H1 r = none → Q (.ref r) (upd H1 r (ViewO r d))
section
variable {X : Cx} {o : Expr} {td : TE} {apos cpos : Pos}
theorem pe_dvals (ho : PE X o td) (m : M0 X o "values" apos cpos) : PE X (.Call (.Attribute o "values" apos) [] [] cpos) (tDVals td) := by
  intro pins s σ H Q I h
  refine wpAny_Call_method m.base m.few m.line PySem.F.plainAttrs_dict PySem.F.slot_dict_values PySem.F.type_dict_values (thn (ho pins s σ H _ I h) fun u s1 ⟨x, H1, I1, rx, d, kvs, ex, e1, q1⟩ => ?_)
  subst ex
  obtain rfl : u = Value.ref d := rx
  obtain ⟨t1, t2, hs⟩ := isD_at I1 (.inl ⟨kvs, .inl e1⟩)
  refine ⟨t1, t2, ?_⟩
  rw [m.trees]
  refine Calls.callWith_builtin rfl (PySem.evalArgs_none ?_)
  obtain ⟨_, hd, vs, rel, dd⟩ := dk_of I1.hok e1
  refine call_meetsIn PySem.F.slot_dict_values dd.typeIs PySem.F.entry_dict_values (PySem.F.args_dict_values_1 _) (meets_dict_values (mixKind X.prog X.w) d hd) ⟨⟨vs, dd⟩, ?_⟩
  refine ⟨.ref s1.heap.objs.size, _, I1.laid (t' := s1.toks) (o := ViewO s1.heap.objs.size d) (fun b ob q => Heap.get?_push_of_some _ q) (Nat.le_refl _) ?_, rfl, q1 _ (I1.hok.fresh (Nat.le_refl _))⟩
  have v : (s1.heap.push { cls := .type "dict_values", data := .fields #[.ref d] }).IsValuesView s1.heap.objs.size d := ⟨_, Heap.get?_push_size _ rfl, rfl, rfl⟩
  refine ⟨v, ⟨_, Heap.get?_push_size _ rfl⟩, fun h1 h2 p st => ?_⟩
  obtain ⟨ob, e, r⟩ := p
  exact ⟨ob, st ob e, r⟩
theorem kvVal {κ : Type} : ∀ {a : List (κ × V)} {b : List (κ × Value)} {i : Nat} {p : κ × V} {k : κ} {x : Value}, KV a b → a[i]? = some p → b[i]? = some (k, x) → RelV p.2 x
  | _, _, _, _, _, _, .nil, h, _ => by simp at h
  | _, _, 0, _, _, _, .cons h _, h1, h2 => by
    simp at h1 h2
    rw [← h1]
    have := h.2
    rw [h2] at this
    exact this
  | _, _, i + 1, _, _, _, .cons _ r, h1, h2 => kvVal r (i := i) (by simpa using h1) (by simpa using h2)
/-- list(d.values()) -/
theorem call_listV (hc : X.calm = true) : CallR X (.type "list") (fun xs H Q => ∃ r d kvs, xs = [.ref r] ∧ H r = some (ViewO r d) ∧ H d = some (.dK kvs) ∧ ∀ l, H l = none → Q (.ref l) (upd H l (.lst (kvs.map (·.2))))) := by
  intro pins s σ H xs us Q I rr h
  obtain ⟨r, d, kvs, rfl, hr, hd, q⟩ := h
  obtain ⟨u, rfl, rx⟩ := vals1 rr
  cases rx
  obtain ⟨hz, lo, vs, kv, ob, es, ep, e1, e2, e3, e4⟩ := (show ObjOk X.prog X.w H s.heap d (.dK kvs) from I.hok d _ hd)
  have hat : s.heap.DictAt (mixKind X.prog X.w) d vs ep := ⟨ob, es, e1, e2, e3, e4⟩
  have hvw : s.heap.IsValuesView r d := (I.hok r _ hr).1
  have hlen : vs.length = kvs.length := (kvLen kv).symm
  refine PySem.W.kdl_call (PySem.W.kdl_values (knd := mixKind X.prog X.w) (kvs := vs) (ep := ep)) (I.ok.hd hc) ⟨hvw, hat⟩ (by omega) fun h' tk acc c k hD hacc => ?_
  refine ⟨.ref s.heap.objs.size, _, I.laid (o := .lst (kvs.map (·.2))) (t' := tk) (fun b o e => k b o e) (Nat.le_refl _) ?_, rfl, q _ (I.hok.fresh (Nat.le_refl _))⟩
  refine ⟨by rw [List.length_map]; exact hz, acc.toList, c, ?_, by rw [Array.toArray_toList]; exact hD⟩
  refine vals_of (by have h1 := hacc.1; simp only [List.length_map, Array.length_toList]; omega) fun i v u hv hu => ?_
  rw [List.getElem?_map] at hv
  obtain ⟨k', hk⟩ := hacc.2 i u (by rw [← Array.getElem?_toList]; exact hu)
  cases hp : kvs[i]? with
  | none => rw [hp] at hv; cases hv
  | some pr =>
    rw [hp] at hv
    cases hv
    exact kvVal kv hp hk
/-! ### a dict frozen while its values are walked -/
theorem Inv.freeze {pins : List (Addr × Obj)} {σ : St} {H : Hp} {s : Shared} {d : Addr} {kvs : List (Key × V)} {ob : Obj} (I : Inv X pins σ H s) (e : H d = some (.dK kvs)) (ho : s.heap.get? d = some ob) : Inv X pins σ (upd H d (.frz ob (.dK kvs))) s := by
  have new : ObjOk X.prog X.w (upd H d (.frz ob (.dK kvs))) s.heap d (.frz ob (.dK kvs)) := ⟨ho, dk_of I.hok e⟩
  exact I.write (x := d) (e := d) (t' := s.toks) (by rw [e]; exact True.intro) (.inl rfl) (fun b u _ q => q) ⟨ob, ho⟩ new
theorem Inv.thaw {pins : List (Addr × Obj)} {σ : St} {H : Hp} {s : Shared} {d : Addr} {kvs : List (Key × V)} {ob : Obj} (I : Inv X pins σ H s) (e : H d = some (.frz ob (.dK kvs))) (nf : ∀ o u, X.H₀ d ≠ some (.frz o u)) : Inv X pins σ (upd H d (.dK kvs)) s := by
  have nd : ∀ b, H b = none → (upd H d (.dK kvs)) b = none := fun b n => by rw [upd_ne (fun z => by rw [z, e] at n; cases n)]; exact n
  have ne : ∀ b u, (∀ o v, u ≠ .frz o v) → H b = some u → (upd H d (.dK kvs)) b = some u := fun b u hu q => by
    rw [upd_ne (fun z => by rw [z, e] at q; injection q with q; exact hu _ _ q.symm)]; exact q
  refine ⟨I.ok, I.os, I.bare, ⟨I.base.keep, I.base.slot, fun b o h1 h2 h3 => nd b (I.base.free b o h1 h2 h3), I.base.there, fun b xs q => ne b _ (fun _ _ z => by cases z) (I.base.tups b xs q), fun b o u q => ?_, fun b ps q => ?_⟩, I.loc, I.cell, nd _ I.free, fun x c h => nd _ (I.freeC x c h), fun p hp => ?_, fun b u q => ?_, I.len⟩
  · rw [upd_ne (fun z => nf o u (by rw [← z]; exact q))]
    exact I.base.frzs b o u q
  · obtain ⟨more, z⟩ := I.base.tbls b ps q
    exact ⟨more, ne b _ (fun _ _ z => by cases z) z⟩
  · obtain ⟨h1, h2, h3⟩ := I.pin p hp
    exact ⟨h1, nd _ h2, h3⟩
  · by_cases hb : b = d
    · subst hb
      rw [upd_same] at q
      cases q
      exact (I.hok b _ e).2
    · rw [upd_ne hb] at q
      exact (I.hok b u q).stay (fun _ _ _ r => r) (fun c r => ne c _ (fun _ _ z => by cases z) r) fun c xs r => ne c _ (fun _ _ z => by cases z) r
/-- the ends of a statement that goes with a frozen dict -/
def thawD (H0 : Hp) (D : Ends) : Ends where
  nx := fun σ H => ∃ d kvs ob, H d = some (.frz ob (.dK kvs)) ∧ (∀ o u, H0 d ≠ some (.frz o u)) ∧ D.nx σ (upd H d (.dK kvs))
  rt := fun v H => ∃ d kvs ob, H d = some (.frz ob (.dK kvs)) ∧ (∀ o u, H0 d ≠ some (.frz o u)) ∧ D.rt v (upd H d (.dK kvs))
theorem ps_thaw {st : Stmt} {t : TS} (h : PS X st t) : PS X st (fun D σ H => t (thawD X.H₀ D) σ H) := by
  intro pins s σ H D I q
  refine wpAny_mono (h pins s σ H _ I q) (fun f s' hs => ?_) fun _ _ z => z
  cases f with
  | next =>
    obtain ⟨σ', H', J, d, kvs, ob, e, nf, z⟩ := hs
    exact ⟨σ', _, J.thaw e nf, z⟩
  | brk => obtain ⟨_, _, _, z⟩ := hs; exact z.elim
  | cont => obtain ⟨_, _, _, z⟩ := hs; exact z.elim
  | ret u =>
    obtain ⟨v, σ', H', J, r, d, kvs, ob, e, nf, z⟩ := hs
    exact ⟨v, σ', _, J.thaw e nf, r, z⟩
end
/-! ### the walk -/
def Itv (d : Addr) (ob : Obj) : It :=
  ⟨fun i H => ∃ kvs, H d = some (.frz ob (.dK kvs)) ∧ i < kvs.length, fun i H x H' => H' = H ∧ ∀ kvs, H d = some (.frz ob (.dK kvs)) → (kvs.map (·.2))[i]? = some x, fun i H => ∃ kvs, H d = some (.frz ob (.dK kvs)) ∧ i = kvs.length⟩
theorem wk_vals (d : Addr) (ob : Obj) (kvs : List (Key × V)) : Wk (Itv d ob) (kvs.map (·.2)) (fun H => H d = some (.frz ob (.dK kvs))) :=
  ⟨fun i H hi h => ⟨kvs, h, by rw [List.length_map] at hi; exact hi⟩, fun i H x H' h y => ⟨y.1, fun _ => y.2 kvs h⟩, fun H h => ⟨kvs, h, by rw [List.length_map]⟩⟩
theorem turn_vals {P : Program} {w : World} {K : PySem.W.Frag} {tg : Expr} (it d : Addr) (ob : Obj) {es : Array DictEntry} {ep : Nat} (hd : ob.data = .dict es ep) (hne : d ≠ it) :
    Turn P w K tg (Itv d ob) [it] it (fun i h => h.IsValIter it d i es.size ep) where
  mem := by simp
  obj := fun i h st b hb => by
    have e : b = it := by simpa using hb
    subst e
    obtain ⟨o, e, c, dd⟩ := st
    exact ⟨o, e, fun v z => by rw [dd] at z; cases z⟩
  keep := fun i h h' st k => let ⟨o, ho, r⟩ := st; ⟨o, k it (by simp) o ho, r⟩
  item := by
    intro X hP hw hK hc i pins s σ H E I hf st hg
    subst hP hw hK
    obtain ⟨f0, f1, f2, f3, f4, f5⟩ := hf it (by simp)
    obtain ⟨kvs, eH, hi⟩ := hg
    obtain ⟨ho, hz, lo, vs, kv, o', es', ep', e1, e2, e3, e4, e5, e6⟩ := (show ObjOk X.prog X.w H s.heap d (.frz ob (.dK kvs)) from I.hok d _ eH)
    rw [ho] at e1; cases e1
    rw [hd] at e3; cases e3
    have hat : s.heap.DictAt (mixKind X.prog X.w) d vs ep := ⟨ob, es, ho, e2, hd, e4, e5, e6⟩
    have hsz : es.size = vs.length := by rw [← e5.length]; simp
    rw [hsz] at st
    have hlt : i < vs.length := by rw [← kvLen kv]; exact hi
    obtain ⟨k, x, hx⟩ : ∃ k x, vs[i]? = some (k, x) := ⟨vs[i].1, vs[i].2, by rw [List.getElem?_eq_getElem hlt]⟩
    refine wpAny_pyNext_values_item st hat hx fun h' hit' hs' => ?_
    have I1 : Inv X pins σ H { s with heap := h' } := I.turned (t' := s.toks) (fun b o hb e => hs'.extBut b o hb e) f0 f1 f3 f4 f5
    obtain ⟨o2, q1, q2, q3⟩ := id hit'
    have hp : (kvs.map (·.2))[i]? = some (kvs[i]).2 := by rw [List.getElem?_map, List.getElem?_eq_getElem hi]; rfl
    refine ⟨_, rfl, go_of (s := { s with heap := h' }) q1 q2 q3 (by decide) ⟨(kvs[i]).2, H, I1, kvVal kv (List.getElem?_eq_getElem hi) hx, ⟨rfl, fun kvs' e' => ?_⟩, by rw [hsz]; exact hit', fun b hb => (hf b hb).1⟩⟩
    rw [eH] at e'
    cases e'
    exact hp
  done := by
    intro X hP hw hK hc i pins s σ H E I hf st hg
    subst hP hw hK
    obtain ⟨f0, f1, f2, f3, f4, f5⟩ := hf it (by simp)
    obtain ⟨kvs, eH, hi⟩ := hg
    obtain ⟨ho, hz, lo, vs, kv, o', es', ep', e1, e2, e3, e4, e5, e6⟩ := (show ObjOk X.prog X.w H s.heap d (.frz ob (.dK kvs)) from I.hok d _ eH)
    rw [ho] at e1; cases e1
    rw [hd] at e3; cases e3
    have hat : s.heap.DictAt (mixKind X.prog X.w) d vs ep := ⟨ob, es, ho, e2, hd, e4, e5, e6⟩
    have hsz : es.size = vs.length := by rw [← e5.length]; simp
    rw [hsz] at st
    have hx : vs[i]? = none := by rw [List.getElem?_eq_none_iff, ← kvLen kv, hi]; exact Nat.le_refl _
    exact wpAny_pyNext_values_end (I.ok.hd hc) st hat hx fun h' he' => ⟨rfl, I.turned (t' := s.toks) (fun b o hb e => he' b o hb e) f0 f1 f3 f4 f5⟩
  self := fun _ _ _ _ _ st h => wpAny_pyIter_valiter st h
/-- what is walked is a view of a dict, which is frozen from now on -/
def iVals (H0 : Hp) (tl : TE) : TI := fun σ H R => tl σ H fun x H1 => ∃ r d kvs, x = .ref r ∧ H1 r = some (ViewO r d) ∧ H1 d = some (.dK kvs) ∧ ∀ ob, (∀ o u, H0 d ≠ some (.frz o u)) → R (Itv d ob) (upd H1 d (.frz ob (.dK kvs)))
theorem pi_vals {X : Cx} {tg l : Expr} {tl : TE} (hl : PE X l tl) : PI X tg l (iVals X.H₀ tl) := by
  intro pins s σ H R I h
  refine thn (hl pins s σ H _ I h) fun v s1 ⟨x, H1, I1, r1, q1⟩ => ?_
  obtain ⟨r, d, kvs, rfl, hr, hd, q⟩ := q1
  cases r1
  obtain ⟨hz, lo, vs, kv, ob, es, ep, e1, e2, e3, e4, e5, e6⟩ := (show ObjOk X.prog X.w H1 s1.heap d (.dK kvs) from I1.hok d _ hd)
  have hat : s1.heap.DictAt (mixKind X.prog X.w) d vs ep := ⟨ob, es, e1, e2, e3, e4, e5, e6⟩
  have hvw : s1.heap.IsValuesView r d := (I1.hok r _ hr).1
  have hsz : es.size = vs.length := by rw [← e5.length]; simp
  have nf : ∀ o u, X.H₀ d ≠ some (.frz o u) := fun o u z => by
    have := I1.base.frzs d o u z
    rw [hd] at this
    cases this
  refine wpAny_pyIter_values hvw hat ?_
  have I2 := I1.freeze hd e1
  have I3 : Inv X pins σ (upd H1 d (.frz ob (.dK kvs))) { s1 with heap := s1.heap.push { cls := .type "dict_valueiterator", data := .fields #[.ref d, .int 0 0, .int vs.length 0, .int ep 0] } } := I2.kept (t' := s1.toks) fun b o e => Heap.get?_push_of_some _ e
  refine ⟨s1.heap.objs.size, [s1.heap.objs.size], _, _, _, rfl, I3, turn_vals s1.heap.objs.size d ob e3 (Nat.ne_of_lt (Heap.lt_size e1)), ⟨_, Heap.get?_push_size _ rfl, rfl, by rw [hsz]; rfl⟩, fun b hb => ?_, q ob nf⟩
  have e : b = s1.heap.objs.size := by simpa using hb
  subst e
  exact I2.fpOk (Nat.le_refl _) (I2.hok.fresh (Nat.le_refl _))
end L2

set_option Elab.async false
set_option linter.all false
set_option maxRecDepth 100000
namespace L2
open PySem PySem.Spec PyProof.Rows
/-! ### f'..' -/
def PJ (X : Cx) (es : List Expr) (t : Str → TE) : Prop := ∀ (pins : List (Addr × Obj)) (s : Shared) (σ : St) (H : Hp) (Q : VK) (acc : Str), Inv X pins σ H s → t acc σ H Q →
  wpAny (model X.prog X.w) X.A (joinParts acc (evalEach es X.env)) (EP X pins σ Q) X.xe s
section
variable {X : Cx} {e a b : Expr} {es : List Expr} {te : TE} {t : Str → TE} {pos : Pos}
theorem pj_nil : PJ X [] (fun acc σ H Q => acc.length ≤ sizeLine ∧ Q (.str acc) H) := by
  intro pins s σ H Q acc I h
  exact joinParts_nil ⟨.str acc, H, I.tok _, ⟨_, rfl⟩, h.2⟩ h.1
theorem pj_cons (he : PE X e te) (hr : PJ X es t) : PJ X (e :: es) (fun acc σ H Q => te σ H fun x H1 => ∃ y, x = .str y ∧ (acc ++ y).length ≤ sizeLine ∧ t (acc ++ y) σ H1 Q) := by
  intro pins s σ H Q acc I h
  show wpAny _ _ (joinParts acc (eval e X.env :: evalEach es X.env)) _ _ _
  refine joinParts_cons (thn (he pins s σ H _ I h) fun u s1 ⟨x, H1, I1, r, y, ex, hz, q⟩ => ?_)
  subst ex
  obtain ⟨tk, rfl⟩ := r
  exact ⟨hz, hr pins s1 σ H1 Q _ I1 q⟩
theorem pe_fstr (h : PJ X (a :: b :: es) t) : PE X (.JoinedStr (a :: b :: es) pos) (t Str.empty) := by
  intro pins s σ H Q I q
  exact JoinedStr_many (h pins s σ H Q Str.empty I q)
/-- {x}, a text or a number -/
theorem pe_fmt (he : PE X e te) : PE X (.FormattedValue e (-1) none pos) (fun σ H Q => te σ H fun x H1 => (∃ z, x = .str z ∧ z.length ≤ sizeLine ∧ Q (.str z) H1) ∨ (∃ i : Int, x = .int i ∧ i.natAbs.log2 < 1920 ∧ Q (.str (toString i)) H1)) := by
  intro pins s σ H Q I h
  refine FormattedValue_plain (thn (he pins s σ H _ I h) fun u s1 ⟨x, H1, I1, r, q⟩ => ?_)
  rcases q with ⟨z, rfl, hz, q⟩ | ⟨i, rfl, hi, q⟩
  · obtain ⟨tk, rfl⟩ := r
    exact formatField_str (fun t' tk => ⟨.str z, H1, I1.tok _, ⟨_, rfl⟩, q⟩) hz
  · obtain ⟨tk, rfl⟩ := r
    exact formatField_int_small hi ⟨.str (toString i), H1, I1.tok _, ⟨_, rfl⟩, q⟩
end
end L2

set_option Elab.async false
set_option linter.all false
set_option maxRecDepth 100000
namespace L2
open PySem PySem.Spec PyProof.Rows
/-! ### a class called within a try's suite -/
def tMakeS (C : Addr) (sp : Sp) (Eb : St → XK) (t : TA) : TE := fun σ H Q => t σ H fun vs H1 => ∀ x dx, H1 x = none → H1 dx = none → dx ≠ x → sp (.ref x :: (vs ++ [])) (upd (upd H1 dx (.own x)) x (.ins C dx [])) (fun v H2 => v = .non ∧ Q (.ref x) H2) (Eb σ)
section
variable {X : Cx} {k j : Nat} {f C : Addr} {fd : FuncData} {ps : List Str} {sp : Sp} {Eb : St → XK} {x m : Str} {p pos apos : Pos} {e o : Expr} {es : List Expr} {ta : TE} {t : TA}
theorem run_makeS {pins : List (Addr × Obj)} {σ : St} {H : Hp} {s : Shared} {Q : VK} {us : List Value} {vs : List V} (M : Mk X.K C f) (F : FnOk X.prog X.w X.K X.mg X.base (CX1 X.prog X.w X.base) k f fd ps sp) (hr : Room (k + 1) X.A) (hb : Binds X.K fd ps [])
    (hx : Lands X Eb) (I : Inv X pins σ H s) (r : Vals vs us)
    (h : ∀ x dx, H x = none → H dx = none → dx ≠ x → sp (.ref x :: (vs ++ [])) (upd (upd H dx (.own x)) x (.ins C dx [])) (fun v H2 => v = .non ∧ Q (.ref x) H2) (Eb σ)) :
    wpAny (model X.prog X.w) X.A (call (.ref C) us) (EP X pins σ Q) X.xe s := by
  have hq := h (s.heap.objs.size + 1) s.heap.objs.size (I.hok.fresh (Nat.le_succ _)) (I.hok.fresh (Nat.le_refl _)) (Nat.ne_of_lt (Nat.lt_succ_self _))
  have I2 := Inv.made (C := C) I
  have r2 : Vals (V.ref (s.heap.objs.size + 1) :: (vs ++ [])) (Value.ref (s.heap.objs.size + 1) :: (us ++ [])) := .cons rfl (r.append .nil)
  have hl : (Value.ref (s.heap.objs.size + 1) :: us ++ []).length = ps.length := by
    have e := r2.length
    rw [F.len _ _ _ _ hq] at e
    exact e.symm
  refine wpAny_call (make_map (f := f) I.kIn M.makes M.init (beq_iff_eq.mp M.fn) (codeAny_mono (F.run _ X.stack _ _ ⟨Value.ref (s.heap.objs.size + 1) :: us, []⟩ (Value.ref (s.heap.objs.size + 1) :: (us ++ [])) _ _ (Eb σ) (hr.make C us [])
    (I2.env0.make C us []) (by have := hb _ (Value.ref (s.heap.objs.size + 1) :: us) I2.kIn hl; rwa [List.cons_append] at this) r2 hq) fun r s' hq' => ?_))
  cases r with
  | error e => exact hx pins σ _ _ e s' I2 hq'
  | ok fl =>
    cases fl with
    | ret u =>
      obtain ⟨v, H', I3, rv, ev, q3⟩ := I2.after hq'
      subst ev
      exact ⟨rv, ⟨V.ref (s.heap.objs.size + 1), H', I3, rfl, q3⟩⟩
    | next => exact False.elim hq'
    | brk => exact False.elim hq'
    | cont => exact False.elim hq'
theorem pe_makeS (F : KnowsI (CX1 X.prog X.w X.base) X.prog X.w X.K X.mg X.base j C ps sp) (hr : Room k X.A) (hm : X.mg x = some (.ref C)) (hx : Lands X Eb) (ha : PA X (e :: es) t) (hjk : j + 1 ≤ k := by decide) (hg : Gl X x := by rfl)
    (hdb : (x == ("__debug__" : Str)) = false := by decide) (he : notStar e = true := by rfl) (hpl : es.all notStar = true := by rfl) : PE X (.Call (.Name x p) (e :: es) [] pos) (tMakeS C sp Eb t) := by
  obtain ⟨f, fd, M, hb, F⟩ := F
  intro pins s σ H Q I h
  refine wpAny_Call_Name_kw (ld_glob I hg hm ?_ hdb)
  refine PySem.W.callWith_K (h₀ := X.base) I.ok.mod.kin M.kp (thn (ha pos pins s σ H _ I h) fun us s1 ⟨vs, H1, I1, r, q⟩ => ⟨I1.kIn, ?_⟩) (star_cons he) (star_none hpl)
  exact run_makeS M F (hr.mono hjk) hb hx I1 r q
end
end L2

set_option Elab.async false
set_option linter.all false
set_option maxRecDepth 100000
namespace K10
open PySem L2
def top (i : Nat) : Stmt := PySem.Challenge.pw_buildhall_k10_leases_refused.main.body.getD i (.Pass ⟨0, 0, 0, 0⟩)
abbrev s_is_whole : Stmt := top 25
abbrev n_is_whole : List Str := ["thing"]
theorem sc_is_whole : FnScope n_is_whole ["thing"] (defScope s_is_whole) := ⟨rfl, rfl, rfl, by decide +kernel, rfl, by decide +kernel, by decide +kernel⟩
abbrev s_is_among : Stmt := top 26
abbrev n_is_among : List Str := ["thing", "least", "most"]
theorem sc_is_among : FnScope n_is_among ["thing", "least", "most"] (defScope s_is_among) := ⟨rfl, rfl, rfl, by decide +kernel, rfl, by decide +kernel, by decide +kernel⟩
abbrev s_is_term : Stmt := top 30
abbrev n_is_term : List Str := ["thing"]
theorem sc_is_term : FnScope n_is_term ["thing"] (defScope s_is_term) := ⟨rfl, rfl, rfl, by decide +kernel, rfl, by decide +kernel, by decide +kernel⟩
abbrev s_Leases___init__ : Stmt := inClass (top 31) 0
abbrev n_Leases___init__ : List Str := ["self", "term"]
theorem sc_Leases___init__ : FnScope n_Leases___init__ ["self", "term"] (defScope s_Leases___init__) := ⟨rfl, rfl, rfl, by decide +kernel, rfl, by decide +kernel, by decide +kernel⟩
abbrev s_Leases_take : Stmt := inClass (top 31) 2
abbrev n_Leases_take : List Str := ["self", "place", "worker", "turn", "lease"]
theorem sc_Leases_take : FnScope n_Leases_take ["self", "place", "worker", "turn"] (defScope s_Leases_take) := ⟨rfl, rfl, rfl, by decide +kernel, rfl, by decide +kernel, by decide +kernel⟩
abbrev s_Leases_of : Stmt := inClass (top 31) 3
abbrev n_Leases_of : List Str := ["self", "number"]
theorem sc_Leases_of : FnScope n_Leases_of ["self", "number"] (defScope s_Leases_of) := ⟨rfl, rfl, rfl, by decide +kernel, rfl, by decide +kernel, by decide +kernel⟩
abbrev s_Leases_renew : Stmt := inClass (top 31) 4
abbrev n_Leases_renew : List Str := ["self", "number", "turn", "lease", "renewed"]
theorem sc_Leases_renew : FnScope n_Leases_renew ["self", "number", "turn"] (defScope s_Leases_renew) := ⟨rfl, rfl, rfl, by decide +kernel, rfl, by decide +kernel, by decide +kernel⟩
abbrev s_Leases_close : Stmt := inClass (top 31) 5
abbrev n_Leases_close : List Str := ["self", "number", "lease"]
theorem sc_Leases_close : FnScope n_Leases_close ["self", "number"] (defScope s_Leases_close) := ⟨rfl, rfl, rfl, by decide +kernel, rfl, by decide +kernel, by decide +kernel⟩
abbrev s_Leases_holder : Stmt := inClass (top 31) 6
abbrev n_Leases_holder : List Str := ["self", "worker", "lease"]
theorem sc_Leases_holder : FnScope n_Leases_holder ["self", "worker"] (defScope s_Leases_holder) := ⟨rfl, rfl, rfl, by decide +kernel, rfl, by decide +kernel, by decide +kernel⟩
abbrev s_Leases_rows : Stmt := inClass (top 31) 7
abbrev n_Leases_rows : List Str := ["self"]
theorem sc_Leases_rows : FnScope n_Leases_rows ["self"] (defScope s_Leases_rows) := ⟨rfl, rfl, rfl, by decide +kernel, rfl, by decide +kernel, by decide +kernel⟩
abbrev s__law_cell_at : Stmt := top 33
abbrev n__law_cell_at : List Str := ["_law_script", "_law_k"]
theorem sc__law_cell_at : FnScope n__law_cell_at ["_law_script", "_law_k"] (defScope s__law_cell_at) := ⟨rfl, rfl, rfl, by decide +kernel, rfl, by decide +kernel, by decide +kernel⟩
abbrev s__law_mixed : Stmt := top 34
abbrev n__law_mixed : List Str := ["_law_cell", "_law_k"]
theorem sc__law_mixed : FnScope n__law_mixed ["_law_cell", "_law_k"] (defScope s__law_mixed) := ⟨rfl, rfl, rfl, by decide +kernel, rfl, by decide +kernel, by decide +kernel⟩
abbrev s__law_word : Stmt := top 36
abbrev n__law_word : List Str := ["_law_e", "_law_some", "_law_found"]
theorem sc__law_word : FnScope n__law_word ["_law_e"] (defScope s__law_word) := ⟨rfl, rfl, rfl, by decide +kernel, rfl, by decide +kernel, by decide +kernel⟩
abbrev s__law_names : Stmt := top 37
abbrev n__law_names : List Str := ["_law_cell", "_law_letters", "_law_size", "_law_row", "_law_at", "_law_found", "_law_k", "_law_word_here", "_law_long"]
theorem sc__law_names : FnScope n__law_names ["_law_cell"] (defScope s__law_names) := ⟨rfl, rfl, rfl, by decide +kernel, rfl, by decide +kernel, by decide +kernel⟩
abbrev s__law_refused : Stmt := top 38
abbrev n__law_refused : List Str := ["_law_house", "_law_way", "_law_thing", "_law_turn", "_law_e"]
theorem sc__law_refused : FnScope n__law_refused ["_law_house", "_law_way", "_law_thing", "_law_turn"] (defScope s__law_refused) := ⟨rfl, rfl, rfl, by decide +kernel, rfl, by decide +kernel, by decide +kernel⟩
abbrev s__law_made : Stmt := top 39
abbrev n__law_made : List Str := ["_law_term", "_law_e"]
theorem sc__law_made : FnScope n__law_made ["_law_term"] (defScope s__law_made) := ⟨rfl, rfl, rfl, by decide +kernel, rfl, by decide +kernel, by decide +kernel⟩
abbrev s__law_state : Stmt := top 40
abbrev n__law_state : List Str := ["_law_house", "_law_names_here"]
theorem sc__law_state : FnScope n__law_state ["_law_house", "_law_names_here"] (defScope s__law_state) := ⟨rfl, rfl, rfl, by decide +kernel, rfl, by decide +kernel, by decide +kernel⟩
abbrev s__law_filled : Stmt := top 41
abbrev n__law_filled : List Str := ["_law_house", "_law_cells", "_law_names_here", "_law_closed", "_law_k", "_law_cell", "_law_worker"]
theorem sc__law_filled : FnScope n__law_filled ["_law_house", "_law_cells", "_law_names_here"] (defScope s__law_filled) := ⟨rfl, rfl, rfl, by decide +kernel, rfl, by decide +kernel, by decide +kernel⟩
abbrev s__law_all_gone : Stmt := top 42
abbrev n__law_all_gone : List Str := ["_law_house", "_law_thing", "_law_cell", "_law_k"]
theorem sc__law_all_gone : FnScope n__law_all_gone ["_law_house", "_law_thing", "_law_cell"] (defScope s__law_all_gone) := ⟨rfl, rfl, rfl, by decide +kernel, rfl, by decide +kernel, by decide +kernel⟩
abbrev s__law_next_one : Stmt := top 43
abbrev n__law_next_one : List Str := ["_law_house", "_law_names_here", "_law_cell", "_law_number", "_law_worker", "_law_own", "_law_kept"]
theorem sc__law_next_one : FnScope n__law_next_one ["_law_house", "_law_names_here", "_law_cell"] (defScope s__law_next_one) := ⟨rfl, rfl, rfl, by decide +kernel, rfl, by decide +kernel, by decide +kernel⟩
abbrev s_law : Stmt := top 44
abbrev n_law : List Str := ["_law_script", "_law_cell", "_law_names_here", "_law_terms", "_law_house", "_law_closed", "_law_far", "_law_odd", "_law_thing", "_law_kept"]
theorem sc_law : FnScope n_law ["_law_script"] (defScope s_law) := ⟨rfl, rfl, rfl, by decide +kernel, rfl, by decide +kernel, by decide +kernel⟩
end K10

set_option Elab.async false
set_option linter.all false
set_option maxRecDepth 100000
set_option maxHeartbeats 4000000
seal L2.PE L2.PT L2.PW L2.PA L2.PS L2.PSs L2.PI L2.PG L2.PGs L2.PSet L2.PTs L2.PC L2.PO L2.PK L2.OpR L2.UnR L2.CallR L2.IxR L2.SlR L2.PIp L2.PGet L2.InOp
namespace K10
open PySem L2 PyProof.Rows WM PySem.NumText
section
variable {P : Program} {w : World} {K : PySem.W.Frag} {mg : Str → Option Value} {base : Heap}
abbrev LET : Str := "abcdefghijklmnopqrstuvwxyz"
/-- a thing of a built-in kind, a text not too long -/
structure Any (K : PySem.W.Frag) (H : Hp) (x : V) : Prop where
  ty : ∃ m, TyOf K H x (.type m)
  sm : ∀ z, x = .str z → z.length ≤ 100000
theorem Any.str {K : PySem.W.Frag} {H : Hp} {z : Str} (h : z.length ≤ 100000) : Any K H (.str z) := ⟨⟨_, .str z⟩, fun _ e => by cases e; exact h⟩
theorem Any.int {K : PySem.W.Frag} {H : Hp} {i : Int} : Any K H (.int i) := ⟨⟨_, .int i⟩, fun _ e => by cases e⟩
theorem tyOf_same {K : PySem.W.Frag} {H H' : Hp} (s : Same H H') {x : V} {t : Value} (h : TyOf K H x t) : TyOf K H' x t := by
  cases h with
  | non => exact .non
  | bl b => exact .bl b
  | int i => exact .int i
  | str z => exact .str z
  | flt z => exact .flt z
  | lst e => exact .lst (s _ _ e)
  | frz e => exact .frz (s _ _ e)
  | tup e => exact .tup (s _ _ e)
  | dK e => exact .dK (s _ _ e)
  | dT e => exact .dT (s _ _ e)
  | ins e a b c d f => exact .ins (s _ _ e) a b c d f
theorem Any.same {K : PySem.W.Frag} {H H' : Hp} (s : Same H H') {x : V} (h : Any K H x) : Any K H' x := by
  obtain ⟨⟨m, t⟩, z⟩ := h
  exact ⟨⟨m, tyOf_same s t⟩, z⟩

def sp_is_whole (K : PySem.W.Frag) : Sp := fun vs H Q _ => ∃ x, vs = [x] ∧ Any K H x ∧ Q (.bl (isI x)) H
theorem ok_is_whole (D : Def K mg "is_whole" s_is_whole ["thing"]) (B : Bltn mg) : Knows P w K mg base 1 "is_whole" ["thing"] (sp_is_whole K) := by
  refine D.ok sc_is_whole (fun vs H Q E h => ?_) (fun f cdv A outer s H vs Q E hr h => ?_)
  · obtain ⟨x, rfl, _⟩ := h
    rfl
  · obtain ⟨x, rfl, ⟨⟨m, ty⟩, _⟩, q⟩ := h
    refine ⟨_, by exact (pss_one (ps_ret (pe_and (pe_isi B.isi B.int boot_int (pv 0)) (pe_one (pe_not (pe_isi B.isi B.bool boot_bool (pv 0))))))), ?_⟩
    refine ⟨_, rfl, _, _, _, rfl, ty, isiI ty, _, rfl, ?_⟩
    refine ite2 (fun hx => ?_) (fun hx => ?_)
    · refine ⟨_, rfl, _, _, _, rfl, ty, isiB ty, _, rfl, ?_⟩
      have e : isI x = !isBl x := by revert hx; cases x <;> simp [isI, isIB, isBl]
      rw [← e]
      exact q
    · have e : isI x = false := by revert hx; cases x <;> simp [isI, isIB]
      rw [e] at q
      exact q

def amongV : V → Int → Int → Bool
  | .int i, lo, hi => decide (lo ≤ i) && decide (i ≤ hi)
  | _, _, _ => false
def sp_is_among (K : PySem.W.Frag) : Sp := fun vs H Q _ => ∃ x lo hi, vs = [x, .int lo, .int hi] ∧ Any K H x ∧ Q (.bl (amongV x lo hi)) H
theorem ok_is_among (D : Def K mg "is_among" s_is_among ["thing", "least", "most"]) (kw : Knows P w K mg base 1 "is_whole" ["thing"] (sp_is_whole K)) : Knows P w K mg base 2 "is_among" ["thing", "least", "most"] (sp_is_among K) := by
  refine D.ok sc_is_among (fun vs H Q E h => ?_) (fun f cdv A outer s H vs Q E hr h => ?_)
  · obtain ⟨x, lo, hi, rfl, _⟩ := h
    rfl
  · obtain ⟨x, lo, hi, rfl, an, q⟩ := h
    refine ⟨_, by exact (pss_one (ps_ret (pe_and (pe_callN kw hr (pa_cons (pv 0) pa_nil)) (pe_one (pe_chain op_le op_le (pv 1) (pv 0) (pv 2)))))), ?_⟩
    refine ⟨_, rfl, x, rfl, an, _, rfl, ?_⟩
    cases x with
    | int i =>
      refine iteT ?_
      refine ⟨_, rfl, _, rfl, _, _, rfl, rfl, _, rfl, ?_⟩
      refine ite2 (fun h1 => ?_) (fun h1 => ?_)
      · refine ⟨_, rfl, _, _, rfl, rfl, ?_⟩
        have e : amongV (.int i) lo hi = decide (i ≤ hi) := by
          show (decide (lo ≤ i) && _) = _
          rw [h1, Bool.true_and]
        rw [e] at q
        exact q
      · have e : amongV (.int i) lo hi = false := by
          show (decide (lo ≤ i) && _) = _
          have : decide (lo ≤ i) = false := by simpa using h1
          rw [this, Bool.false_and]
        rw [e] at q
        exact q
    | _ => exact iteF q

end
end K10

set_option Elab.async false
set_option linter.all false
set_option maxRecDepth 100000
set_option maxHeartbeats 4000000
set_option pp.maxSteps 600
set_option pp.deepTerms false
local macro_rules | `(tactic| walk_at "m") => `(tactic| first | decide | (show (0 : Int) < _; decide) | (show L2.CDiv _ _; exact ⟨by decide, by decide⟩) | omega)
namespace K10
open PySem L2 PyProof.Rows
theorem same_of {H : Hp} {p : Addr} {o : HO} (h : H p = none) : Same H (upd H p o) := fun b u e => by rw [upd_ne (ne_of_none e h)]; exact e
theorem boot_VE : bootBuiltins "ValueError" = some (.type "ValueError") := by kernel_rfl
def words : List Str := ["term", "busy", "gone", "alarm", "name", "number", "needs", "plan", "twice", "job", "ring", "line", "book", "shot", "event", "step", "state", "turn", "builders"]
def word (i : Nat) : Str := words.getD i ""
/-- the classes of refusals, and what isinstance tells of one -/
structure EX (K : PySem.W.Frag) (mg : Str → Option Value) (D : Nat → Addr) (R : Nat → Prop) : Prop where
  c0 : ECls0 K
  ec : ∀ r, R r → ECls K (D r)
  kit : ∀ r i, R r → i < 19 → PySem.W.kitOne K (.ref (D r)) (.ref (D i)) = some (decide (i = r))
  ve : ∀ r, R r → PySem.W.kitOne K (.ref (D r)) (.type "ValueError") = some true
  noVE : mg "ValueError" = none
  g0 : mg "BadTerm" = some (.ref (D 0))
  g1 : mg "Busy" = some (.ref (D 1))
  g2 : mg "Gone" = some (.ref (D 2))
  g3 : mg "NoAlarm" = some (.ref (D 3))
  g4 : mg "BadName" = some (.ref (D 4))
  g5 : mg "BadNumber" = some (.ref (D 5))
  g6 : mg "BadNeeds" = some (.ref (D 6))
  g7 : mg "BadPlan" = some (.ref (D 7))
  g8 : mg "Twice" = some (.ref (D 8))
  g9 : mg "NoJob" = some (.ref (D 9))
  g10 : mg "Ring" = some (.ref (D 10))
  g11 : mg "BadLine" = some (.ref (D 11))
  g12 : mg "BadBook" = some (.ref (D 12))
  g13 : mg "BadShot" = some (.ref (D 13))
  g14 : mg "BadEvent" = some (.ref (D 14))
  g15 : mg "BadStep" = some (.ref (D 15))
  g16 : mg "BadState" = some (.ref (D 16))
  g17 : mg "BadTurn" = some (.ref (D 17))
  g18 : mg "BadBuilders" = some (.ref (D 18))
def pr (r i : Nat) : List V := [.str (word i), .bl (decide (i = r))]
structure PairsAt (r : Nat) (H : Hp) (ts : List Addr) : Prop where
  at_ : ∀ (i : Nat) (T : Addr), ts[i]? = some T → H T = some (.tup (pr r i))
theorem PairsAt.same {r : Nat} {H H' : Hp} {ts : List Addr} (h : PairsAt r H ts) (s : Same H H') : PairsAt r H' ts := ⟨fun i T e => s _ _ (h.at_ i T e)⟩
theorem PairsAt.snoc {r : Nat} {H : Hp} {ts : List Addr} {T : Addr} (h : PairsAt r H ts) (e : H T = some (.tup (pr r ts.length))) : PairsAt r H (ts ++ [T]) := ⟨fun i U hi => by
  by_cases hl : i < ts.length
  · rw [List.getElem?_append_left hl] at hi
    exact h.at_ i U hi
  · have hlt := (List.getElem?_eq_some_iff.mp hi).1
    rw [List.length_append] at hlt
    have e2 : i = ts.length := by simp at hlt; omega
    subst e2
    simp at hi
    subst hi
    exact e⟩
/-- what of the first i pairs is so -/
def fnd (r i : Nat) : List V := ((List.range i).filter fun j => decide (j = r)).map fun j => .str (word j)
theorem fnd_succ (r i : Nat) : fnd r (i + 1) = if decide (i = r) = true then fnd r i ++ [.str (word i)] else fnd r i := by
  unfold fnd
  rw [List.range_succ, List.filter_append, List.map_append]
  by_cases h : i = r
  · rw [if_pos (decide_eq_true h)]
    simp [h]
  · rw [if_neg (by simp [h])]
    simp [h]
theorem fnd_len (r i : Nat) : (fnd r i).length ≤ i := by
  unfold fnd
  rw [List.length_map]
  exact Nat.le_trans (List.length_filter_le _ _) (by simp)
theorem fnd_one : ∀ r : Fin 19, fnd r.val 19 = [.str (word r.val)] := by decide +kernel
section
variable {P : Program} {w : World} {K : PySem.W.Frag} {mg : Str → Option Value} {base : Heap} {D : Nat → Addr}
def spWord (D : Nat → Addr) (R : Nat → Prop) : Sp := fun vs H Q _ => ∃ (a : Addr) (r : Nat), vs = [.ref a] ∧ r < 19 ∧ R r ∧ H a = some (ExcO a (D r)) ∧ ∀ H', Same H H' → Q (.str (word r)) H'
theorem ok_word (Df : Def K mg "_law_word" s__law_word ["_law_e"]) (B : Bltn mg) {R : Nat → Prop} (X : EX K mg D R) : KnowsQ P w K mg base 1 "_law_word" ["_law_e"] (spWord D R) := by
  refine Df.okQ sc__law_word (fun vs H Q E h => ?_) (fun f cdv A outer s H vs Q E hr hq h => ?_)
  · obtain ⟨a, r, rfl, _⟩ := h
    rfl
  · obtain ⟨a, r, rfl, hr19, hR, ea, q⟩ := h
    have hu := hr.units0
    have ec := X.ec r hR
    refine ⟨_, by exact (pss_cons (ps_set (i := 1) sc__law_word.nd rfl (Or.inl rfl) (pe_lst (pa_c (pe_tup (pa_c pe_str (pa_c (pe_bcall (call_isiE (D := .ref (D 0)) (vD := .ref (D 0)) (fun u h => h) X.c0) rfl B.isi boot_isinstance (pa_c (pv 0) (pa_c (pe_glob (v := .ref (D 0)) rfl X.g0 rfl) pa_nil))) pa_nil))) (pa_c (pe_tup (pa_c pe_str (pa_c (pe_bcall (call_isiE (D := .ref (D 1)) (vD := .ref (D 1)) (fun u h => h) X.c0) rfl B.isi boot_isinstance (pa_c (pv 0) (pa_c (pe_glob (v := .ref (D 1)) rfl X.g1 rfl) pa_nil))) pa_nil))) (pa_c (pe_tup (pa_c pe_str (pa_c (pe_bcall (call_isiE (D := .ref (D 2)) (vD := .ref (D 2)) (fun u h => h) X.c0) rfl B.isi boot_isinstance (pa_c (pv 0) (pa_c (pe_glob (v := .ref (D 2)) rfl X.g2 rfl) pa_nil))) pa_nil))) pa_nil)))))
      (pss_cons (ps_set (i := 1) sc__law_word.nd rfl (Or.inl rfl) (pe_op op_cat (pv 1) (pe_lst (pa_c (pe_tup (pa_c pe_str (pa_c (pe_bcall (call_isiE (D := .ref (D 3)) (vD := .ref (D 3)) (fun u h => h) X.c0) rfl B.isi boot_isinstance (pa_c (pv 0) (pa_c (pe_glob (v := .ref (D 3)) rfl X.g3 rfl) pa_nil))) pa_nil))) (pa_c (pe_tup (pa_c pe_str (pa_c (pe_bcall (call_isiE (D := .ref (D 4)) (vD := .ref (D 4)) (fun u h => h) X.c0) rfl B.isi boot_isinstance (pa_c (pv 0) (pa_c (pe_glob (v := .ref (D 4)) rfl X.g4 rfl) pa_nil))) pa_nil))) pa_nil)))))
      (pss_cons (ps_set (i := 1) sc__law_word.nd rfl (Or.inl rfl) (pe_op op_cat (pv 1) (pe_lst (pa_c (pe_tup (pa_c pe_str (pa_c (pe_bcall (call_isiE (D := .ref (D 5)) (vD := .ref (D 5)) (fun u h => h) X.c0) rfl B.isi boot_isinstance (pa_c (pv 0) (pa_c (pe_glob (v := .ref (D 5)) rfl X.g5 rfl) pa_nil))) pa_nil))) (pa_c (pe_tup (pa_c pe_str (pa_c (pe_bcall (call_isiE (D := .ref (D 6)) (vD := .ref (D 6)) (fun u h => h) X.c0) rfl B.isi boot_isinstance (pa_c (pv 0) (pa_c (pe_glob (v := .ref (D 6)) rfl X.g6 rfl) pa_nil))) pa_nil))) pa_nil)))))
      (pss_cons (ps_set (i := 1) sc__law_word.nd rfl (Or.inl rfl) (pe_op op_cat (pv 1) (pe_lst (pa_c (pe_tup (pa_c pe_str (pa_c (pe_bcall (call_isiE (D := .ref (D 7)) (vD := .ref (D 7)) (fun u h => h) X.c0) rfl B.isi boot_isinstance (pa_c (pv 0) (pa_c (pe_glob (v := .ref (D 7)) rfl X.g7 rfl) pa_nil))) pa_nil))) (pa_c (pe_tup (pa_c pe_str (pa_c (pe_bcall (call_isiE (D := .ref (D 8)) (vD := .ref (D 8)) (fun u h => h) X.c0) rfl B.isi boot_isinstance (pa_c (pv 0) (pa_c (pe_glob (v := .ref (D 8)) rfl X.g8 rfl) pa_nil))) pa_nil))) (pa_c (pe_tup (pa_c pe_str (pa_c (pe_bcall (call_isiE (D := .ref (D 9)) (vD := .ref (D 9)) (fun u h => h) X.c0) rfl B.isi boot_isinstance (pa_c (pv 0) (pa_c (pe_glob (v := .ref (D 9)) rfl X.g9 rfl) pa_nil))) pa_nil))) pa_nil))))))
      (pss_cons (ps_set (i := 1) sc__law_word.nd rfl (Or.inl rfl) (pe_op op_cat (pv 1) (pe_lst (pa_c (pe_tup (pa_c pe_str (pa_c (pe_bcall (call_isiE (D := .ref (D 10)) (vD := .ref (D 10)) (fun u h => h) X.c0) rfl B.isi boot_isinstance (pa_c (pv 0) (pa_c (pe_glob (v := .ref (D 10)) rfl X.g10 rfl) pa_nil))) pa_nil))) (pa_c (pe_tup (pa_c pe_str (pa_c (pe_bcall (call_isiE (D := .ref (D 11)) (vD := .ref (D 11)) (fun u h => h) X.c0) rfl B.isi boot_isinstance (pa_c (pv 0) (pa_c (pe_glob (v := .ref (D 11)) rfl X.g11 rfl) pa_nil))) pa_nil))) (pa_c (pe_tup (pa_c pe_str (pa_c (pe_bcall (call_isiE (D := .ref (D 12)) (vD := .ref (D 12)) (fun u h => h) X.c0) rfl B.isi boot_isinstance (pa_c (pv 0) (pa_c (pe_glob (v := .ref (D 12)) rfl X.g12 rfl) pa_nil))) pa_nil))) pa_nil))))))
      (pss_cons (ps_set (i := 1) sc__law_word.nd rfl (Or.inl rfl) (pe_op op_cat (pv 1) (pe_lst (pa_c (pe_tup (pa_c pe_str (pa_c (pe_bcall (call_isiE (D := .ref (D 13)) (vD := .ref (D 13)) (fun u h => h) X.c0) rfl B.isi boot_isinstance (pa_c (pv 0) (pa_c (pe_glob (v := .ref (D 13)) rfl X.g13 rfl) pa_nil))) pa_nil))) (pa_c (pe_tup (pa_c pe_str (pa_c (pe_bcall (call_isiE (D := .ref (D 14)) (vD := .ref (D 14)) (fun u h => h) X.c0) rfl B.isi boot_isinstance (pa_c (pv 0) (pa_c (pe_glob (v := .ref (D 14)) rfl X.g14 rfl) pa_nil))) pa_nil))) pa_nil)))))
      (pss_cons (ps_set (i := 1) sc__law_word.nd rfl (Or.inl rfl) (pe_op op_cat (pv 1) (pe_lst (pa_c (pe_tup (pa_c pe_str (pa_c (pe_bcall (call_isiE (D := .ref (D 15)) (vD := .ref (D 15)) (fun u h => h) X.c0) rfl B.isi boot_isinstance (pa_c (pv 0) (pa_c (pe_glob (v := .ref (D 15)) rfl X.g15 rfl) pa_nil))) pa_nil))) (pa_c (pe_tup (pa_c pe_str (pa_c (pe_bcall (call_isiE (D := .ref (D 16)) (vD := .ref (D 16)) (fun u h => h) X.c0) rfl B.isi boot_isinstance (pa_c (pv 0) (pa_c (pe_glob (v := .ref (D 16)) rfl X.g16 rfl) pa_nil))) pa_nil))) pa_nil)))))
      (pss_cons (ps_set (i := 1) sc__law_word.nd rfl (Or.inl rfl) (pe_op op_cat (pv 1) (pe_lst (pa_c (pe_tup (pa_c pe_str (pa_c (pe_bcall (call_isiE (D := .ref (D 17)) (vD := .ref (D 17)) (fun u h => h) X.c0) rfl B.isi boot_isinstance (pa_c (pv 0) (pa_c (pe_glob (v := .ref (D 17)) rfl X.g17 rfl) pa_nil))) pa_nil))) (pa_c (pe_tup (pa_c pe_str (pa_c (pe_bcall (call_isiE (D := .ref (D 18)) (vD := .ref (D 18)) (fun u h => h) X.c0) rfl B.isi boot_isinstance (pa_c (pv 0) (pa_c (pe_glob (v := .ref (D 18)) rfl X.g18 rfl) pa_nil))) pa_nil))) pa_nil)))))
      (pss_cons (ps_setC2Q (i := 2) [] ["_law_word_here", "_law_good"] sc__law_word.nd rfl (Or.inl rfl) (pi_listQ (pv 1)) (fun _ _ _ _ => pts_one (pt_val (pv 1))) (fun _ _ _ _ => (pv 0)))
      (pss_one (ps_ret (pe_ifExp (PW.pt (pw_and (pt_cmpR op_eq (pe_bcall call_len_seq rfl B.len PySem.boot_len (pa_c (pv 2) pa_nil)) pe_int (nomark _)) (pw_and1 (pt_val (pe_bcall (call_isiE (D := .type "ValueError") (vD := .ty "ValueError") (fun u h => h) X.c0) rfl B.isi boot_isinstance (pa_c (pv 0) (pa_c (pe_bltn (v := .ty "ValueError") rfl X.noVE boot_VE rfl (by decide) (by decide)) pa_nil))))))) (pe_ix ix_list (pv 2) pe_int (fun _ _ => rfl)) pe_str)))))))))))), ?_⟩
    have sH : Same H H := Same.refl H
    have eaH := ea
    have pH : PairsAt r H [] := ⟨fun i T e => by simp at e⟩
    refine seq_use (fun v H' => ∃ (l : Addr) (ts : List Addr), v = .ref l ∧ H' l = some (.lst (ts.map V.ref)) ∧ ts.length = 3 ∧ PairsAt r H' ts ∧ Same H H' ∧ H l = none) (fun Q' kk => ?_) ?_
    · skip
      refine ⟨_, rfl, a, _, _, rfl, eaH, ec, X.kit r 0 hR (by decide), by show 2 ≤ sizeLine; decide, fun T0 h0 => ?_⟩
      have z0 : Same H (upd H T0 (.tup [.str "term", .bl (decide (0 = r))])) := same_of h0
      have y0 : (upd H T0 (.tup [.str "term", .bl (decide (0 = r))])) T0 = some (.tup (pr r 0)) := upd_same
      generalize upd H T0 (.tup [.str "term", .bl (decide (0 = r))]) = L0 at z0 y0
      have sL0 := sH.trans z0
      have eaL0 := z0 _ _ eaH
      have pL0 := (pH.same z0).snoc (T := T0) (by exact y0)
      refine ⟨_, rfl, a, _, _, rfl, eaL0, ec, X.kit r 1 hR (by decide), by show 2 ≤ sizeLine; decide, fun T1 h1 => ?_⟩
      have z1 : Same L0 (upd L0 T1 (.tup [.str "busy", .bl (decide (1 = r))])) := same_of h1
      have y1 : (upd L0 T1 (.tup [.str "busy", .bl (decide (1 = r))])) T1 = some (.tup (pr r 1)) := upd_same
      generalize upd L0 T1 (.tup [.str "busy", .bl (decide (1 = r))]) = L1 at z1 y1
      have sL1 := sL0.trans z1
      have eaL1 := z1 _ _ eaL0
      have pL1 := (pL0.same z1).snoc (T := T1) (by exact y1)
      refine ⟨_, rfl, a, _, _, rfl, eaL1, ec, X.kit r 2 hR (by decide), by show 2 ≤ sizeLine; decide, fun T2 h2 => ?_⟩
      have z2 : Same L1 (upd L1 T2 (.tup [.str "gone", .bl (decide (2 = r))])) := same_of h2
      have y2 : (upd L1 T2 (.tup [.str "gone", .bl (decide (2 = r))])) T2 = some (.tup (pr r 2)) := upd_same
      generalize upd L1 T2 (.tup [.str "gone", .bl (decide (2 = r))]) = L2 at z2 y2
      have sL2 := sL1.trans z2
      have eaL2 := z2 _ _ eaL1
      have pL2 := (pL1.same z2).snoc (T := T2) (by exact y2)
      refine ⟨by show 3 ≤ sizeLine; decide, fun lb hlb => ?_⟩
      exact kk _ _ ⟨lb, [] ++ [T0] ++ [T1] ++ [T2], rfl, upd_same, rfl, pL2.same (same_of hlb), sL2.trans (same_of hlb), sL2.free hlb⟩
    rintro _ G1 ⟨l1, ts1, rfl, lG1, n1, pG1, sG1, new1⟩
    have eaG1 := sG1 _ _ ea
    refine seq_use (fun v H' => ∃ (l : Addr) (ts : List Addr), v = .ref l ∧ H' l = some (.lst (ts.map V.ref)) ∧ ts.length = 5 ∧ PairsAt r H' ts ∧ Same H H' ∧ H l = none) (fun Q' kk => ?_) ?_
    · refine ⟨_, rfl, ?_⟩
      refine ⟨_, rfl, a, _, _, rfl, eaG1, ec, X.kit r 3 hR (by decide), by show 2 ≤ sizeLine; decide, fun T3 h3 => ?_⟩
      have z3 : Same G1 (upd G1 T3 (.tup [.str "alarm", .bl (decide (3 = r))])) := same_of h3
      have y3 : (upd G1 T3 (.tup [.str "alarm", .bl (decide (3 = r))])) T3 = some (.tup (pr r 3)) := upd_same
      generalize upd G1 T3 (.tup [.str "alarm", .bl (decide (3 = r))]) = L3 at z3 y3
      have sL3 := sG1.trans z3
      have eaL3 := z3 _ _ eaG1
      have pL3 := (pG1.same z3).snoc (T := T3) (by rw [show (ts1).length = 3 from by simp [n1]]; exact y3)
      have lL3 := z3 _ _ lG1
      refine ⟨_, rfl, a, _, _, rfl, eaL3, ec, X.kit r 4 hR (by decide), by show 2 ≤ sizeLine; decide, fun T4 h4 => ?_⟩
      have z4 : Same L3 (upd L3 T4 (.tup [.str "name", .bl (decide (4 = r))])) := same_of h4
      have y4 : (upd L3 T4 (.tup [.str "name", .bl (decide (4 = r))])) T4 = some (.tup (pr r 4)) := upd_same
      generalize upd L3 T4 (.tup [.str "name", .bl (decide (4 = r))]) = L4 at z4 y4
      have sL4 := sL3.trans z4
      have eaL4 := z4 _ _ eaL3
      have pL4 := (pL3.same z4).snoc (T := T4) (by rw [show (ts1 ++ [T3]).length = 4 from by simp [n1]]; exact y4)
      have lL4 := z4 _ _ lL3
      refine ⟨by show 2 ≤ sizeLine; decide, fun lb hlb => ?_⟩
      have zb : Same L4 (upd L4 lb (.lst [.ref T3, .ref T4])) := same_of hlb
      refine ⟨l1, lb, _, _, rfl, rfl, zb _ _ lL4, upd_same, ?_, fun lc hlc => ?_⟩
      · rw [List.length_map, n1]
        show 5 ≤ sizeLine
        decide
      · refine kk _ _ ⟨lc, ts1 ++ [T3] ++ [T4], rfl, ?_, by simp [n1], (pL4.same zb).same (same_of hlc), (sL4.trans zb).trans (same_of hlc), (sL4.trans zb).free hlc⟩
        rw [upd_same]
        simp
    rintro _ G2 ⟨l2, ts2, rfl, lG2, n2, pG2, sG2, new2⟩
    have eaG2 := sG2 _ _ ea
    refine seq_use (fun v H' => ∃ (l : Addr) (ts : List Addr), v = .ref l ∧ H' l = some (.lst (ts.map V.ref)) ∧ ts.length = 7 ∧ PairsAt r H' ts ∧ Same H H' ∧ H l = none) (fun Q' kk => ?_) ?_
    · refine ⟨_, rfl, ?_⟩
      refine ⟨_, rfl, a, _, _, rfl, eaG2, ec, X.kit r 5 hR (by decide), by show 2 ≤ sizeLine; decide, fun T5 h5 => ?_⟩
      have z5 : Same G2 (upd G2 T5 (.tup [.str "number", .bl (decide (5 = r))])) := same_of h5
      have y5 : (upd G2 T5 (.tup [.str "number", .bl (decide (5 = r))])) T5 = some (.tup (pr r 5)) := upd_same
      generalize upd G2 T5 (.tup [.str "number", .bl (decide (5 = r))]) = L5 at z5 y5
      have sL5 := sG2.trans z5
      have eaL5 := z5 _ _ eaG2
      have pL5 := (pG2.same z5).snoc (T := T5) (by rw [show (ts2).length = 5 from by simp [n2]]; exact y5)
      have lL5 := z5 _ _ lG2
      refine ⟨_, rfl, a, _, _, rfl, eaL5, ec, X.kit r 6 hR (by decide), by show 2 ≤ sizeLine; decide, fun T6 h6 => ?_⟩
      have z6 : Same L5 (upd L5 T6 (.tup [.str "needs", .bl (decide (6 = r))])) := same_of h6
      have y6 : (upd L5 T6 (.tup [.str "needs", .bl (decide (6 = r))])) T6 = some (.tup (pr r 6)) := upd_same
      generalize upd L5 T6 (.tup [.str "needs", .bl (decide (6 = r))]) = L6 at z6 y6
      have sL6 := sL5.trans z6
      have eaL6 := z6 _ _ eaL5
      have pL6 := (pL5.same z6).snoc (T := T6) (by rw [show (ts2 ++ [T5]).length = 6 from by simp [n2]]; exact y6)
      have lL6 := z6 _ _ lL5
      refine ⟨by show 2 ≤ sizeLine; decide, fun lb hlb => ?_⟩
      have zb : Same L6 (upd L6 lb (.lst [.ref T5, .ref T6])) := same_of hlb
      refine ⟨l2, lb, _, _, rfl, rfl, zb _ _ lL6, upd_same, ?_, fun lc hlc => ?_⟩
      · rw [List.length_map, n2]
        show 7 ≤ sizeLine
        decide
      · refine kk _ _ ⟨lc, ts2 ++ [T5] ++ [T6], rfl, ?_, by simp [n2], (pL6.same zb).same (same_of hlc), (sL6.trans zb).trans (same_of hlc), (sL6.trans zb).free hlc⟩
        rw [upd_same]
        simp
    rintro _ G3 ⟨l3, ts3, rfl, lG3, n3, pG3, sG3, new3⟩
    have eaG3 := sG3 _ _ ea
    refine seq_use (fun v H' => ∃ (l : Addr) (ts : List Addr), v = .ref l ∧ H' l = some (.lst (ts.map V.ref)) ∧ ts.length = 10 ∧ PairsAt r H' ts ∧ Same H H' ∧ H l = none) (fun Q' kk => ?_) ?_
    · refine ⟨_, rfl, ?_⟩
      refine ⟨_, rfl, a, _, _, rfl, eaG3, ec, X.kit r 7 hR (by decide), by show 2 ≤ sizeLine; decide, fun T7 h7 => ?_⟩
      have z7 : Same G3 (upd G3 T7 (.tup [.str "plan", .bl (decide (7 = r))])) := same_of h7
      have y7 : (upd G3 T7 (.tup [.str "plan", .bl (decide (7 = r))])) T7 = some (.tup (pr r 7)) := upd_same
      generalize upd G3 T7 (.tup [.str "plan", .bl (decide (7 = r))]) = L7 at z7 y7
      have sL7 := sG3.trans z7
      have eaL7 := z7 _ _ eaG3
      have pL7 := (pG3.same z7).snoc (T := T7) (by rw [show (ts3).length = 7 from by simp [n3]]; exact y7)
      have lL7 := z7 _ _ lG3
      refine ⟨_, rfl, a, _, _, rfl, eaL7, ec, X.kit r 8 hR (by decide), by show 2 ≤ sizeLine; decide, fun T8 h8 => ?_⟩
      have z8 : Same L7 (upd L7 T8 (.tup [.str "twice", .bl (decide (8 = r))])) := same_of h8
      have y8 : (upd L7 T8 (.tup [.str "twice", .bl (decide (8 = r))])) T8 = some (.tup (pr r 8)) := upd_same
      generalize upd L7 T8 (.tup [.str "twice", .bl (decide (8 = r))]) = L8 at z8 y8
      have sL8 := sL7.trans z8
      have eaL8 := z8 _ _ eaL7
      have pL8 := (pL7.same z8).snoc (T := T8) (by rw [show (ts3 ++ [T7]).length = 8 from by simp [n3]]; exact y8)
      have lL8 := z8 _ _ lL7
      refine ⟨_, rfl, a, _, _, rfl, eaL8, ec, X.kit r 9 hR (by decide), by show 2 ≤ sizeLine; decide, fun T9 h9 => ?_⟩
      have z9 : Same L8 (upd L8 T9 (.tup [.str "job", .bl (decide (9 = r))])) := same_of h9
      have y9 : (upd L8 T9 (.tup [.str "job", .bl (decide (9 = r))])) T9 = some (.tup (pr r 9)) := upd_same
      generalize upd L8 T9 (.tup [.str "job", .bl (decide (9 = r))]) = L9 at z9 y9
      have sL9 := sL8.trans z9
      have eaL9 := z9 _ _ eaL8
      have pL9 := (pL8.same z9).snoc (T := T9) (by rw [show (ts3 ++ [T7] ++ [T8]).length = 9 from by simp [n3]]; exact y9)
      have lL9 := z9 _ _ lL8
      refine ⟨by show 3 ≤ sizeLine; decide, fun lb hlb => ?_⟩
      have zb : Same L9 (upd L9 lb (.lst [.ref T7, .ref T8, .ref T9])) := same_of hlb
      refine ⟨l3, lb, _, _, rfl, rfl, zb _ _ lL9, upd_same, ?_, fun lc hlc => ?_⟩
      · rw [List.length_map, n3]
        show 10 ≤ sizeLine
        decide
      · refine kk _ _ ⟨lc, ts3 ++ [T7] ++ [T8] ++ [T9], rfl, ?_, by simp [n3], (pL9.same zb).same (same_of hlc), (sL9.trans zb).trans (same_of hlc), (sL9.trans zb).free hlc⟩
        rw [upd_same]
        simp
    rintro _ G4 ⟨l4, ts4, rfl, lG4, n4, pG4, sG4, new4⟩
    have eaG4 := sG4 _ _ ea
    refine seq_use (fun v H' => ∃ (l : Addr) (ts : List Addr), v = .ref l ∧ H' l = some (.lst (ts.map V.ref)) ∧ ts.length = 13 ∧ PairsAt r H' ts ∧ Same H H' ∧ H l = none) (fun Q' kk => ?_) ?_
    · refine ⟨_, rfl, ?_⟩
      refine ⟨_, rfl, a, _, _, rfl, eaG4, ec, X.kit r 10 hR (by decide), by show 2 ≤ sizeLine; decide, fun T10 h10 => ?_⟩
      have z10 : Same G4 (upd G4 T10 (.tup [.str "ring", .bl (decide (10 = r))])) := same_of h10
      have y10 : (upd G4 T10 (.tup [.str "ring", .bl (decide (10 = r))])) T10 = some (.tup (pr r 10)) := upd_same
      generalize upd G4 T10 (.tup [.str "ring", .bl (decide (10 = r))]) = L10 at z10 y10
      have sL10 := sG4.trans z10
      have eaL10 := z10 _ _ eaG4
      have pL10 := (pG4.same z10).snoc (T := T10) (by rw [show (ts4).length = 10 from by simp [n4]]; exact y10)
      have lL10 := z10 _ _ lG4
      refine ⟨_, rfl, a, _, _, rfl, eaL10, ec, X.kit r 11 hR (by decide), by show 2 ≤ sizeLine; decide, fun T11 h11 => ?_⟩
      have z11 : Same L10 (upd L10 T11 (.tup [.str "line", .bl (decide (11 = r))])) := same_of h11
      have y11 : (upd L10 T11 (.tup [.str "line", .bl (decide (11 = r))])) T11 = some (.tup (pr r 11)) := upd_same
      generalize upd L10 T11 (.tup [.str "line", .bl (decide (11 = r))]) = L11 at z11 y11
      have sL11 := sL10.trans z11
      have eaL11 := z11 _ _ eaL10
      have pL11 := (pL10.same z11).snoc (T := T11) (by rw [show (ts4 ++ [T10]).length = 11 from by simp [n4]]; exact y11)
      have lL11 := z11 _ _ lL10
      refine ⟨_, rfl, a, _, _, rfl, eaL11, ec, X.kit r 12 hR (by decide), by show 2 ≤ sizeLine; decide, fun T12 h12 => ?_⟩
      have z12 : Same L11 (upd L11 T12 (.tup [.str "book", .bl (decide (12 = r))])) := same_of h12
      have y12 : (upd L11 T12 (.tup [.str "book", .bl (decide (12 = r))])) T12 = some (.tup (pr r 12)) := upd_same
      generalize upd L11 T12 (.tup [.str "book", .bl (decide (12 = r))]) = L12 at z12 y12
      have sL12 := sL11.trans z12
      have eaL12 := z12 _ _ eaL11
      have pL12 := (pL11.same z12).snoc (T := T12) (by rw [show (ts4 ++ [T10] ++ [T11]).length = 12 from by simp [n4]]; exact y12)
      have lL12 := z12 _ _ lL11
      refine ⟨by show 3 ≤ sizeLine; decide, fun lb hlb => ?_⟩
      have zb : Same L12 (upd L12 lb (.lst [.ref T10, .ref T11, .ref T12])) := same_of hlb
      refine ⟨l4, lb, _, _, rfl, rfl, zb _ _ lL12, upd_same, ?_, fun lc hlc => ?_⟩
      · rw [List.length_map, n4]
        show 13 ≤ sizeLine
        decide
      · refine kk _ _ ⟨lc, ts4 ++ [T10] ++ [T11] ++ [T12], rfl, ?_, by simp [n4], (pL12.same zb).same (same_of hlc), (sL12.trans zb).trans (same_of hlc), (sL12.trans zb).free hlc⟩
        rw [upd_same]
        simp
    rintro _ G5 ⟨l5, ts5, rfl, lG5, n5, pG5, sG5, new5⟩
    have eaG5 := sG5 _ _ ea
    refine seq_use (fun v H' => ∃ (l : Addr) (ts : List Addr), v = .ref l ∧ H' l = some (.lst (ts.map V.ref)) ∧ ts.length = 15 ∧ PairsAt r H' ts ∧ Same H H' ∧ H l = none) (fun Q' kk => ?_) ?_
    · refine ⟨_, rfl, ?_⟩
      refine ⟨_, rfl, a, _, _, rfl, eaG5, ec, X.kit r 13 hR (by decide), by show 2 ≤ sizeLine; decide, fun T13 h13 => ?_⟩
      have z13 : Same G5 (upd G5 T13 (.tup [.str "shot", .bl (decide (13 = r))])) := same_of h13
      have y13 : (upd G5 T13 (.tup [.str "shot", .bl (decide (13 = r))])) T13 = some (.tup (pr r 13)) := upd_same
      generalize upd G5 T13 (.tup [.str "shot", .bl (decide (13 = r))]) = L13 at z13 y13
      have sL13 := sG5.trans z13
      have eaL13 := z13 _ _ eaG5
      have pL13 := (pG5.same z13).snoc (T := T13) (by rw [show (ts5).length = 13 from by simp [n5]]; exact y13)
      have lL13 := z13 _ _ lG5
      refine ⟨_, rfl, a, _, _, rfl, eaL13, ec, X.kit r 14 hR (by decide), by show 2 ≤ sizeLine; decide, fun T14 h14 => ?_⟩
      have z14 : Same L13 (upd L13 T14 (.tup [.str "event", .bl (decide (14 = r))])) := same_of h14
      have y14 : (upd L13 T14 (.tup [.str "event", .bl (decide (14 = r))])) T14 = some (.tup (pr r 14)) := upd_same
      generalize upd L13 T14 (.tup [.str "event", .bl (decide (14 = r))]) = L14 at z14 y14
      have sL14 := sL13.trans z14
      have eaL14 := z14 _ _ eaL13
      have pL14 := (pL13.same z14).snoc (T := T14) (by rw [show (ts5 ++ [T13]).length = 14 from by simp [n5]]; exact y14)
      have lL14 := z14 _ _ lL13
      refine ⟨by show 2 ≤ sizeLine; decide, fun lb hlb => ?_⟩
      have zb : Same L14 (upd L14 lb (.lst [.ref T13, .ref T14])) := same_of hlb
      refine ⟨l5, lb, _, _, rfl, rfl, zb _ _ lL14, upd_same, ?_, fun lc hlc => ?_⟩
      · rw [List.length_map, n5]
        show 15 ≤ sizeLine
        decide
      · refine kk _ _ ⟨lc, ts5 ++ [T13] ++ [T14], rfl, ?_, by simp [n5], (pL14.same zb).same (same_of hlc), (sL14.trans zb).trans (same_of hlc), (sL14.trans zb).free hlc⟩
        rw [upd_same]
        simp
    rintro _ G6 ⟨l6, ts6, rfl, lG6, n6, pG6, sG6, new6⟩
    have eaG6 := sG6 _ _ ea
    refine seq_use (fun v H' => ∃ (l : Addr) (ts : List Addr), v = .ref l ∧ H' l = some (.lst (ts.map V.ref)) ∧ ts.length = 17 ∧ PairsAt r H' ts ∧ Same H H' ∧ H l = none) (fun Q' kk => ?_) ?_
    · refine ⟨_, rfl, ?_⟩
      refine ⟨_, rfl, a, _, _, rfl, eaG6, ec, X.kit r 15 hR (by decide), by show 2 ≤ sizeLine; decide, fun T15 h15 => ?_⟩
      have z15 : Same G6 (upd G6 T15 (.tup [.str "step", .bl (decide (15 = r))])) := same_of h15
      have y15 : (upd G6 T15 (.tup [.str "step", .bl (decide (15 = r))])) T15 = some (.tup (pr r 15)) := upd_same
      generalize upd G6 T15 (.tup [.str "step", .bl (decide (15 = r))]) = L15 at z15 y15
      have sL15 := sG6.trans z15
      have eaL15 := z15 _ _ eaG6
      have pL15 := (pG6.same z15).snoc (T := T15) (by rw [show (ts6).length = 15 from by simp [n6]]; exact y15)
      have lL15 := z15 _ _ lG6
      refine ⟨_, rfl, a, _, _, rfl, eaL15, ec, X.kit r 16 hR (by decide), by show 2 ≤ sizeLine; decide, fun T16 h16 => ?_⟩
      have z16 : Same L15 (upd L15 T16 (.tup [.str "state", .bl (decide (16 = r))])) := same_of h16
      have y16 : (upd L15 T16 (.tup [.str "state", .bl (decide (16 = r))])) T16 = some (.tup (pr r 16)) := upd_same
      generalize upd L15 T16 (.tup [.str "state", .bl (decide (16 = r))]) = L16 at z16 y16
      have sL16 := sL15.trans z16
      have eaL16 := z16 _ _ eaL15
      have pL16 := (pL15.same z16).snoc (T := T16) (by rw [show (ts6 ++ [T15]).length = 16 from by simp [n6]]; exact y16)
      have lL16 := z16 _ _ lL15
      refine ⟨by show 2 ≤ sizeLine; decide, fun lb hlb => ?_⟩
      have zb : Same L16 (upd L16 lb (.lst [.ref T15, .ref T16])) := same_of hlb
      refine ⟨l6, lb, _, _, rfl, rfl, zb _ _ lL16, upd_same, ?_, fun lc hlc => ?_⟩
      · rw [List.length_map, n6]
        show 17 ≤ sizeLine
        decide
      · refine kk _ _ ⟨lc, ts6 ++ [T15] ++ [T16], rfl, ?_, by simp [n6], (pL16.same zb).same (same_of hlc), (sL16.trans zb).trans (same_of hlc), (sL16.trans zb).free hlc⟩
        rw [upd_same]
        simp
    rintro _ G7 ⟨l7, ts7, rfl, lG7, n7, pG7, sG7, new7⟩
    have eaG7 := sG7 _ _ ea
    refine seq_use (fun v H' => ∃ (l : Addr) (ts : List Addr), v = .ref l ∧ H' l = some (.lst (ts.map V.ref)) ∧ ts.length = 19 ∧ PairsAt r H' ts ∧ Same H H' ∧ H l = none) (fun Q' kk => ?_) ?_
    · refine ⟨_, rfl, ?_⟩
      refine ⟨_, rfl, a, _, _, rfl, eaG7, ec, X.kit r 17 hR (by decide), by show 2 ≤ sizeLine; decide, fun T17 h17 => ?_⟩
      have z17 : Same G7 (upd G7 T17 (.tup [.str "turn", .bl (decide (17 = r))])) := same_of h17
      have y17 : (upd G7 T17 (.tup [.str "turn", .bl (decide (17 = r))])) T17 = some (.tup (pr r 17)) := upd_same
      generalize upd G7 T17 (.tup [.str "turn", .bl (decide (17 = r))]) = L17 at z17 y17
      have sL17 := sG7.trans z17
      have eaL17 := z17 _ _ eaG7
      have pL17 := (pG7.same z17).snoc (T := T17) (by rw [show (ts7).length = 17 from by simp [n7]]; exact y17)
      have lL17 := z17 _ _ lG7
      refine ⟨_, rfl, a, _, _, rfl, eaL17, ec, X.kit r 18 hR (by decide), by show 2 ≤ sizeLine; decide, fun T18 h18 => ?_⟩
      have z18 : Same L17 (upd L17 T18 (.tup [.str "builders", .bl (decide (18 = r))])) := same_of h18
      have y18 : (upd L17 T18 (.tup [.str "builders", .bl (decide (18 = r))])) T18 = some (.tup (pr r 18)) := upd_same
      generalize upd L17 T18 (.tup [.str "builders", .bl (decide (18 = r))]) = L18 at z18 y18
      have sL18 := sL17.trans z18
      have eaL18 := z18 _ _ eaL17
      have pL18 := (pL17.same z18).snoc (T := T18) (by rw [show (ts7 ++ [T17]).length = 18 from by simp [n7]]; exact y18)
      have lL18 := z18 _ _ lL17
      refine ⟨by show 2 ≤ sizeLine; decide, fun lb hlb => ?_⟩
      have zb : Same L18 (upd L18 lb (.lst [.ref T17, .ref T18])) := same_of hlb
      refine ⟨l7, lb, _, _, rfl, rfl, zb _ _ lL18, upd_same, ?_, fun lc hlc => ?_⟩
      · rw [List.length_map, n7]
        show 19 ≤ sizeLine
        decide
      · refine kk _ _ ⟨lc, ts7 ++ [T17] ++ [T18], rfl, ?_, by simp [n7], (pL18.same zb).same (same_of hlc), (sL18.trans zb).trans (same_of hlc), (sL18.trans zb).free hlc⟩
        rw [upd_same]
        simp
    rintro _ G8 ⟨l8, ts8, rfl, lG8, n8, pG8, sG8, new8⟩
    have eaG8 := sG8 _ _ ea
    have n19 : ts8.length = 19 := n8
    have l1 := lG8
    have p1 := pG8
    have e1 := eaG8
    have s1 := sG8
    generalize ts8 = us at l1 p1 n19
    generalize G8 = F1 at l1 p1 e1 s1
    dsimp only
    refine seq_use (fun v H' => ∃ g, v = .ref g ∧ H' g = some (.lst (fnd r 19)) ∧ Same F1 H') (fun Q' kk => ?_) ?_
    · refine ⟨_, rfl, l8, rfl, ⟨_, SqL.of l1⟩, ?_⟩
      have hqF : HQ _ F1 := hq.same s1
      refine comp2_listQ (xs := us.map V.ref) (fun i ys H' => H' = F1 ∧ ys = fnd r i) ⟨rfl, rfl⟩ (fun i ys H' _ h => ⟨by rw [h.1]; exact SqL.of l1, by rw [h.1]; exact hqF, by rw [h.2]; exact fnd_len r i⟩) (by rw [List.length_map, n19]; decide) (fun i x ys H' Nx hx hv kn => ?_) ?_
      · obtain ⟨rfl, rfl⟩ := hv
        rw [List.getElem?_map] at hx
        obtain ⟨T, hT, rfl⟩ := Option.map_eq_some_iff.mp hx
        refine ⟨T, _, _, rfl, SqT.of (p1.at_ i T hT), ?_⟩
        have fs := fnd_succ r i
        refine ⟨_, rfl, _, rfl, ite2 (fun hb => ?_) (fun hb => ?_)⟩
        · rw [if_pos hb] at fs
          exact ⟨_, rfl, kn _ _ ⟨rfl, fs.symm⟩⟩
        · rw [if_neg hb] at fs
          exact kn _ _ ⟨rfl, fs.symm⟩
      · rintro ys H' ⟨rfl, rfl⟩ g hg
        rw [List.length_map, n19]
        exact kk _ _ ⟨g, rfl, upd_same, same_of hg⟩
    rintro _ F2 ⟨g, rfl, g2, s2⟩
    have f1 := fnd_one ⟨r, hr19⟩
    have f2 : (fnd r 19).length = 1 := by rw [f1]; rfl
    rw [f1] at g2
    refine ⟨_, rfl, g, _, rfl, .inl (SqL.of g2), rfl, _, rfl, iteT ?_⟩
    refine ⟨_, rfl, a, _, _, rfl, s2 _ _ e1, ec, X.ve r hR, _, rfl, iteT ?_⟩
    exact ⟨_, rfl, g, _, _, _, rfl, rfl, SqL.of g2, atI_nat (j := 0) rfl, q _ (s1.trans s2)⟩
end
end K10

set_option Elab.async false
set_option linter.all false
set_option maxRecDepth 100000
set_option maxHeartbeats 4000000
set_option pp.maxSteps 600
set_option pp.deepTerms false
namespace L2
open PySem
theorem stm_use {t u : TS} {D : Ends} {σ : St} {H : Hp} (Post : St → Hp → Prop) (hg : ∀ Q', (∀ σ' H', Post σ' H' → Q' σ' H') → t { D with nx := Q' } σ H) (k : ∀ σ' H', Post σ' H' → u D σ' H') : tSeq t u D σ H := hg _ k
theorem next_to {D : Ends} {σ : St} {H : Hp} (h : D.nx σ H) : tNext D σ H := h
end L2
namespace K10
open PySem L2 PyProof.Rows
theorem ite_of {b d : Bool} {A B : Prop} (e : b = d) (h1 : d = true → A) (h2 : d = false → B) : if b = true then A else B := by
  subst e
  exact ite_b h1 h2
theorem dstr (a b : Str) : decide (V.str a = V.str b) = decide (a = b) := by by_cases h : a = b <;> simp [h]
theorem hu1 {k : Nat} {A : Around} (hr : Room k A) : A.units + 1 < cLine := by have := hr.un; omega
/-- only the objects of S change -/
def Chg (S : List Addr) (H H' : Hp) : Prop := ∀ b o, b ∉ S → H b = some o → H' b = some o
theorem Chg.of {S : List Addr} {H H' : Hp} (s : Same H H') : Chg S H H' := fun b o _ e => s b o e
theorem Chg.trans {S : List Addr} {H H1 H2 : Hp} (a : Chg S H H1) (b : Chg S H1 H2) : Chg S H H2 := fun c o h e => b c o h (a c o h e)
/-- a lease, and where its tuple stands -/
structure Lse where
  num : Nat
  place : Int
  worker : Str
  turn : Int
  fin : Int
  at_ : Addr
def Lse.row (l : Lse) : List V := [.int (l.num : Int), .int l.place, .str l.worker, .int l.turn, .int l.fin]
structure Ls where
  term : Int
  given : Nat
  held : List Lse
def kvsOf (hs : List Lse) : List (Key × V) := hs.map fun l => (.inl (l.num : Int), .ref l.at_)
structure Ls.Ok (m : Ls) : Prop where
  lt : ∀ l ∈ m.held, l.num < m.given
  nd : (m.held.map (·.num)).Nodup
  wk : (m.held.map (·.worker)).Nodup
  len : m.held.length ≤ m.given
def Ls.by_ (m : Ls) (z : Str) : Option Lse := m.held.find? fun l => decide (l.worker = z)
def Ls.of (m : Ls) : V → Option Lse
  | .int n => m.held.find? fun l => decide ((l.num : Int) = n)
  | _ => none
def Ls.take (m : Ls) (a : Int) (z : Str) (u : Int) (T : Addr) : Ls := ⟨m.term, m.given + 1, m.held ++ [⟨m.given, a, z, u, u + m.term, T⟩]⟩
def Ls.renew (m : Ls) (l : Lse) (u : Int) (T : Addr) : Ls := ⟨m.term, m.given, m.held.map fun l' => if l'.num = l.num then ⟨l.num, l.place, l.worker, l.turn, u + m.term, T⟩ else l'⟩
def Ls.close (m : Ls) (l : Lse) : Ls := ⟨m.term, m.given, m.held.filter fun l' => decide (l'.num ≠ l.num)⟩
theorem by_some {m : Ls} {z : Str} {l : Lse} (h : m.by_ z = some l) : l ∈ m.held ∧ l.worker = z := by
  unfold Ls.by_ at h
  exact ⟨List.mem_of_find?_eq_some h, by have := List.find?_some h; simpa using this⟩
theorem of_some {m : Ls} {x : V} {l : Lse} (h : m.of x = some l) : l ∈ m.held ∧ x = .int (l.num : Int) := by
  cases x with
  | int n =>
    unfold Ls.of at h
    refine ⟨List.mem_of_find?_eq_some h, ?_⟩
    have := List.find?_some h
    simp at this
    rw [this]
  | _ => cases h
theorem by_none {m : Ls} {z : Str} (h : m.by_ z = none) : ∀ l ∈ m.held, l.worker ≠ z := fun l hl e => by
  have := List.find?_eq_none.mp h l hl
  exact this (decide_eq_true e)
theorem of_none {m : Ls} {n : Int} (h : m.of (.int n) = none) : ∀ l ∈ m.held, (l.num : Int) ≠ n := fun l hl e => by
  have := List.find?_eq_none.mp h l hl
  exact this (decide_eq_true e)
theorem num_inj {hs : List Lse} (nd : (hs.map (·.num)).Nodup) : ∀ l ∈ hs, ∀ l' ∈ hs, l.num = l'.num → l = l' := by
  induction hs with
  | nil => intro l h; cases h
  | cons a r ih =>
    rw [List.map_cons, List.nodup_cons] at nd
    intro l hl l' hl' e
    rcases List.mem_cons.mp hl with h1 | h1
    · rcases List.mem_cons.mp hl' with h2 | h2
      · rw [h1, h2]
      · exact absurd (List.mem_map.mpr ⟨l', h2, by rw [← e, h1]⟩) nd.1
    · rcases List.mem_cons.mp hl' with h2 | h2
      · exact absurd (List.mem_map.mpr ⟨l, h1, by rw [e, h2]⟩) nd.1
      · exact ih nd.2 l h1 l' h2 e
theorem wk_inj {hs : List Lse} (nd : (hs.map (·.worker)).Nodup) : ∀ l ∈ hs, ∀ l' ∈ hs, l.worker = l'.worker → l = l' := by
  induction hs with
  | nil => intro l h; cases h
  | cons a r ih =>
    rw [List.map_cons, List.nodup_cons] at nd
    intro l hl l' hl' e
    rcases List.mem_cons.mp hl with h1 | h1
    · rcases List.mem_cons.mp hl' with h2 | h2
      · rw [h1, h2]
      · exact absurd (List.mem_map.mpr ⟨l', h2, by rw [← e, h1]⟩) nd.1
    · rcases List.mem_cons.mp hl' with h2 | h2
      · exact absurd (List.mem_map.mpr ⟨l, h1, by rw [e, h2]⟩) nd.1
      · exact ih nd.2 l h1 l' h2 e
theorem of_mem {m : Ls} (ok : m.Ok) {l : Lse} (h : l ∈ m.held) : m.of (.int (l.num : Int)) = some l := by
  cases e : m.of (.int (l.num : Int)) with
  | none => exact absurd rfl (of_none e l h)
  | some l' =>
    obtain ⟨h1, h2⟩ := of_some e
    injection h2 with h2
    rw [num_inj ok.nd l' h1 l h (by omega)]
theorem Ok.take {m : Ls} (ok : m.Ok) {a : Int} {z : Str} {u : Int} {T : Addr} (h : m.by_ z = none) : (m.take a z u T).Ok := by
  refine ⟨fun l hl => ?_, ?_, ?_, ?_⟩
  · rcases List.mem_append.mp hl with h | h
    · exact Nat.lt_succ_of_lt (ok.lt l h)
    · rw [List.mem_singleton.mp h]
      exact Nat.lt_succ_self _
  · show ((m.held ++ [_]).map fun x : Lse => x.num).Nodup
    rw [List.map_append, List.nodup_append]
    refine ⟨ok.nd, by simp, fun x hx y hy e => ?_⟩
    obtain ⟨l, hl, rfl⟩ := List.mem_map.mp hx
    have : y = m.given := by simpa using hy
    have := ok.lt l hl
    omega
  · show ((m.held ++ [_]).map fun x : Lse => x.worker).Nodup
    rw [List.map_append, List.nodup_append]
    refine ⟨ok.wk, by simp, fun x hx y hy e => ?_⟩
    obtain ⟨l, hl, rfl⟩ := List.mem_map.mp hx
    have hy' : y = z := by simpa using hy
    exact by_none h l hl (e.trans hy')
  · show (m.held ++ [_]).length ≤ m.given + 1
    rw [List.length_append]
    have := ok.len
    simp
    exact this
theorem map_same {α : Type} {hs : List Lse} (g : Lse → α) {l : Lse} (l2 : Lse) (nd : (hs.map (·.num)).Nodup) (hl : l ∈ hs) (e : g l2 = g l) : (hs.map fun l' => if l'.num = l.num then l2 else l').map g = hs.map g := by
  rw [List.map_map]
  refine List.map_congr_left fun x hx => ?_
  show g (if x.num = l.num then l2 else x) = g x
  by_cases h : x.num = l.num
  · rw [if_pos h, num_inj nd x hx l hl h]
    exact e
  · rw [if_neg h]
theorem Ok.renew {m : Ls} (ok : m.Ok) {l : Lse} (hl : l ∈ m.held) {u : Int} {T : Addr} : (m.renew l u T).Ok := by
  refine ⟨fun x hx => ?_, ?_, ?_, ?_⟩
  · obtain ⟨y, hy, rfl⟩ := List.mem_map.mp hx
    by_cases h : y.num = l.num
    · rw [if_pos h]
      exact ok.lt l hl
    · rw [if_neg h]
      exact ok.lt y hy
  · show ((m.held.map _).map fun x : Lse => x.num).Nodup
    rw [map_same (fun x => x.num) _ ok.nd hl (by rfl)]
    exact ok.nd
  · show ((m.held.map _).map fun x : Lse => x.worker).Nodup
    rw [map_same (fun x => x.worker) _ ok.nd hl (by rfl)]
    exact ok.wk
  · show (m.held.map _).length ≤ m.given
    rw [List.length_map]
    exact ok.len
theorem Ok.close {m : Ls} (ok : m.Ok) (l : Lse) : (m.close l).Ok := by
  refine ⟨fun x hx => ok.lt x (List.mem_filter.mp hx).1, ?_, ?_, Nat.le_trans (List.length_filter_le _ _) ok.len⟩
  · exact ok.nd.sublist (List.Sublist.map _ List.filter_sublist)
  · exact ok.wk.sublist (List.Sublist.map _ List.filter_sublist)
theorem val_kvs (m : Ls) (n : Int) : valV (kvsOf m.held) (.inl n) = (m.of (.int n)).map fun l => V.ref l.at_ := by
  unfold valV kvsOf Ls.of
  rw [List.find?_map, Option.map_map]
  congr 1
  congr 1
  funext l
  show decide ((Sum.inl (l.num : Int) : Key) = Sum.inl n) = decide ((l.num : Int) = n)
  by_cases h : (l.num : Int) = n <;> simp [h]
theorem drop_kvs (m : Ls) (l : Lse) : dropK (kvsOf m.held) (.inl (l.num : Int)) = kvsOf (m.close l).held := by
  unfold dropK kvsOf Ls.close
  rw [List.filter_map]
  congr 1
  congr 1
  funext x
  show decide ((Sum.inl (x.num : Int) : Key) ≠ Sum.inl (l.num : Int)) = decide (x.num ≠ l.num)
  by_cases h : x.num = l.num
  · simp [h]
  · have h' : ¬ (x.num : Int) = (l.num : Int) := by omega
    simp [h, h']
theorem put_new (m : Ls) (ok : m.Ok) (a : Int) (z : Str) (u : Int) (T : Addr) : putK (kvsOf m.held) (.inl (m.given : Int)) (.ref T) = kvsOf (m.take a z u T).held := by
  rw [putK_new]
  · unfold kvsOf Ls.take
    rw [List.map_append]
    rfl
  · rw [val_kvs]
    cases e : m.of (.int (m.given : Int)) with
    | none => rfl
    | some l =>
      obtain ⟨h1, h2⟩ := of_some e
      injection h2 with h2
      have := ok.lt l h1
      omega
theorem put_old (m : Ls) {l : Lse} (hl : l ∈ m.held) (u : Int) (T : Addr) : putK (kvsOf m.held) (.inl (l.num : Int)) (.ref T) = kvsOf (m.renew l u T).held := by
  unfold putK
  rw [if_pos ?_]
  · unfold kvsOf Ls.renew
    rw [List.map_map, List.map_map]
    refine List.map_congr_left fun x hx => ?_
    show (if (Sum.inl (x.num : Int) : Key) = Sum.inl (l.num : Int) then ((Sum.inl (x.num : Int) : Key), V.ref T) else (Sum.inl (x.num : Int), V.ref x.at_)) = ((Sum.inl ((if x.num = l.num then _ else x : Lse).num : Int) : Key), V.ref (if x.num = l.num then _ else x : Lse).at_)
    by_cases h : x.num = l.num
    · rw [if_pos h, if_pos (by rw [h]), h]
    · rw [if_neg h, if_neg (fun z => h (by have := Sum.inl.inj z; omega))]
  · rw [List.any_eq_true]
    exact ⟨(.inl (l.num : Int), .ref l.at_), List.mem_map.mpr ⟨l, hl, rfl⟩, decide_eq_true rfl⟩
theorem kvs_len (hs : List Lse) : (kvsOf hs).length = hs.length := List.length_map ..
structure LsAt (C : Addr) (H : Hp) (p hd : Addr) (m : Ls) : Prop where
  obj : ∃ dx, H p = some (.ins C dx [("term", .int m.term), ("given", .int (m.given : Int)), ("held", .ref hd)])
  tab : H hd = some (.dK (kvsOf m.held))
  row : ∀ l ∈ m.held, H l.at_ = some (.tup l.row)
  ok : m.Ok
theorem LsAt.same {C p hd : Addr} {H H' : Hp} {m : Ls} (h : LsAt C H p hd m) (s : Same H H') : LsAt C H' p hd m := by
  obtain ⟨⟨dx, a⟩, b, c, d⟩ := h
  exact ⟨⟨dx, s _ _ a⟩, s _ _ b, fun l hl => s _ _ (c l hl), d⟩
structure LCls (K : PySem.W.Frag) (mg : Str → Option Value) (C : Addr) : Prop where
  cl : Cls K C
  mgC : mg "Leases" = some (.ref C)
  n1 : NoAttr K C "term"
  n2 : NoAttr K C "given"
  n3 : NoAttr K C "held"
structure BX (K : PySem.W.Frag) (mg : Str → Option Value) (D : Nat → Addr) : Prop where
  exT : PySem.W.excIn K (D 0) bmV "ValueError.__new__" = true
  exB : PySem.W.excIn K (D 1) bmV "ValueError.__new__" = true
  exG : PySem.W.excIn K (D 2) bmV "ValueError.__new__" = true
  gT : mg "BadTerm" = some (.ref (D 0))
  gB : mg "Busy" = some (.ref (D 1))
  gG : mg "Gone" = some (.ref (D 2))
theorem find_at {hs : List Lse} {i : Nat} {l : Lse} {z : Str} (h : hs[i]? = some l) (e : l.worker = z) (no : ∀ l' ∈ hs.take i, l'.worker ≠ z) : (hs.find? fun l => decide (l.worker = z)) = some l := by
  have hi := (List.getElem?_eq_some_iff.mp h).1
  have h' : hs[i] = l := (List.getElem?_eq_some_iff.mp h).2
  have e1 : hs = hs.take i ++ hs[i] :: hs.drop (i + 1) := by rw [← List.drop_eq_getElem_cons hi, List.take_append_drop]
  rw [e1, List.find?_append, List.find?_eq_none.mpr (fun x hx => by simpa using no x hx), h', List.find?_cons_of_pos (by simpa using e)]
  rfl
section
variable {P : Program} {w : World} {K : PySem.W.Frag} {mg : Str → Option Value} {base : Heap} {C : Addr} {D : Nat → Addr}
def spTerm (K : PySem.W.Frag) : Sp := fun vs H Q _ => ∃ x, vs = [x] ∧ Any K H x ∧ Q (.bl (amongV x 2 1000)) H
theorem ok_term (Df : Def K mg "is_term" s_is_term ["thing"]) {t1 t2 : Tok} (g1 : mg "LEAST_TERM" = some (.int 2 t1)) (g2 : mg "MOST_TERM" = some (.int 1000 t2)) (k_among : Knows P w K mg base 2 "is_among" ["thing", "least", "most"] (sp_is_among K)) : Knows P w K mg base 3 "is_term" ["thing"] (spTerm K) := by
  refine Df.ok sc_is_term (fun vs H Q E h => ?_) (fun f cdv A outer s H vs Q E hr h => ?_)
  · obtain ⟨x, rfl, _⟩ := h
    rfl
  · obtain ⟨x, rfl, an, q⟩ := h
    refine ⟨_, by exact (pss_one (ps_ret (pe_callM k_among hr (pa_c (pv 0) (pa_c (pe_glob (v := .int 2) rfl g1 ⟨_, rfl⟩) (pa_c (pe_glob (v := .int 1000) rfl g2 ⟨_, rfl⟩) pa_nil)))))), ?_⟩
    exact ⟨_, rfl, x, 2, 1000, rfl, an, q⟩
def spInit (K : PySem.W.Frag) (C : Addr) (D : Nat → Addr) : Sp := fun vs H Q E => ∃ (p dx : Addr) (x : V), vs = [.ref p, x] ∧ H p = some (.ins C dx []) ∧ Any K H x ∧ (∀ t, x = .int t → amongV x 2 1000 = true → ∀ hd H', Chg [p] H H' → LsAt C H' p hd ⟨t, 0, []⟩ → Q .non H') ∧ (amongV x 2 1000 = false → E (.ref (D 0)) none H)
theorem ok_init {f : Addr} {fd : FuncData} (F : Fun K "__init__" "Leases.__init__" s_Leases___init__ f fd) (X : BX K mg D) (S : LCls K mg C) {t1 t2 : Tok} (g1 : mg "LEAST_TERM" = some (.int 2 t1)) (g2 : mg "MOST_TERM" = some (.int 1000 t2)) (k_term : Knows P w K mg base 3 "is_term" ["thing"] (spTerm K)) :
    FnOk P w K mg base (CX1 P w base) 4 f fd ["self", "term"] (spInit K C D) := by
  refine F.okX sc_Leases___init__ (fun vs H Q E h => ?_) (fun cdv A outer s H vs Q E hr h => ?_)
  · obtain ⟨p, dx, x, rfl, _⟩ := h
    rfl
  · obtain ⟨p, dx, x, rfl, hp, an, q1, q2⟩ := h
    refine ⟨_, by exact (pss_cons (ps_if (pt_not (pt_val (pe_callM k_term hr (pa_c (pv 1) pa_nil)))) (pss_one (ps_raise X.exT X.gT (pa_c (pe_fstr (pj_cons pe_str (pj_cons (pe_fmt (pe_glob (v := .int 2) rfl g1 ⟨_, rfl⟩)) (pj_cons pe_str (pj_cons (pe_fmt (pe_glob (v := .int 1000) rfl g2 ⟨_, rfl⟩)) pj_nil))))) pa_nil))) pss_nil)
      (pss_cons (ps_fld (pv 0) (pv 1) rfl)
      (pss_cons (ps_fld (pv 0) pe_int rfl)
      (pss_one (ps_fld (pv 0) pe_dnewK rfl))))), ?_⟩
    refine ⟨_, rfl, x, rfl, an, _, rfl, ite2 (fun hc => ?_) (fun hc => next_to ?_)⟩
    · refine ⟨_, rfl, by decide +kernel, .inr ⟨2, rfl, by decide, ?_⟩⟩
      refine ⟨_, rfl, by decide +kernel, _, rfl, by decide +kernel, .inr ⟨1000, rfl, by decide, ?_⟩⟩
      refine ⟨_, rfl, by decide +kernel, by decide +kernel, by show 1 ≤ sizeLine; decide, q2 (by simpa using hc)⟩
    · have hb : amongV x 2 1000 = true := by simpa using hc
      dsimp only
      cases x with
      | int t =>
        refine ⟨_, rfl, _, rfl, p, C, dx, _, rfl, hp, S.cl, S.n1, (by show 0 < 1000; decide), ?_⟩
        dsimp only
        refine ⟨_, rfl, p, C, dx, _, rfl, upd_same, S.cl, S.n2, (by show 1 < 1000; decide), ?_⟩
        dsimp only
        refine fun hd hhd => ⟨_, rfl, p, C, dx, [("term", .int t), ("given", .int 0)], rfl, ?_, S.cl, S.n3, (by show 2 < 1000; decide), ?_⟩
        · rw [upd_ne (ne_of_none upd_same hhd)]
          exact upd_same
        · have hpd : p ≠ hd := ne_of_none upd_same hhd
          refine q1 t rfl hb hd _ (fun b o' hb' e => ?_) ⟨⟨dx, upd_same⟩, ?_, (fun l hl => by cases hl), ⟨(fun l hl => by cases hl), List.nodup_nil, List.nodup_nil, Nat.le_refl _⟩⟩
          · have b1 : b ≠ p := fun z => hb' (by simp [z])
            have b2 : b ≠ hd := fun z => by
              rw [z] at e
              rw [upd_ne (Ne.symm hpd), upd_ne (Ne.symm hpd), e] at hhd
              cases hhd
            rw [upd_ne b1, upd_ne b2, upd_ne b1, upd_ne b1]
            exact e
          · rw [upd_ne (Ne.symm hpd)]
            exact upd_same
      | _ => cases hb
end
end K10

set_option Elab.async false
set_option linter.all false
set_option maxRecDepth 100000
set_option maxHeartbeats 4000000
set_option pp.maxSteps 600
set_option pp.deepTerms false
namespace K10
open PySem L2 PyProof.Rows
theorem kvs_map_len (hs : List Lse) : ((kvsOf hs).map (·.2)).length = hs.length := by rw [List.length_map, kvs_len]
section
variable {P : Program} {w : World} {K : PySem.W.Frag} {mg : Str → Option Value} {base : Heap} {C : Addr} {D : Nat → Addr}
def spHolder (C : Addr) : Sp := fun vs H Q _ => ∃ (p hd : Addr) (m : Ls) (z : Str), vs = [.ref p, .str z] ∧ LsAt C H p hd m ∧ (∀ l, m.by_ z = some l → ∀ H', Same H H' → Q (.ref l.at_) H') ∧ (m.by_ z = none → ∀ H', Same H H' → Q .non H')
theorem ok_holder {f : Addr} {fd : FuncData} (F : Fun K "holder" "Leases.holder" s_Leases_holder f fd) (S : LCls K mg C) : FnOk P w K mg base CX0 1 f fd ["self", "worker"] (spHolder C) := by
  refine F.ok sc_Leases_holder (fun vs H Q E h => ?_) (fun cdv A outer s H vs Q E hr h => ?_)
  · obtain ⟨p, hd, m, z, rfl, _⟩ := h
    rfl
  · obtain ⟨p, hd, m, z, rfl, L, q1, q2⟩ := h
    obtain ⟨dx, hp⟩ := L.obj
    refine ⟨_, by exact (pss_cons (ps_thaw (ps_for PassesOwn.never rfl (pi_vals (pe_dvals (pe_fld (pv 0) rfl) ⟨rfl, by rfl, rfl, rfl⟩)) (pg_name (i := 2) sc_Leases_holder.nd rfl (Or.inl rfl)) (pss_one (ps_if (pt_cmpR op_eq (pe_ix ix_tup (pv 2) pe_int (fun _ _ => rfl)) (pv 1) (nomark _)) (pss_one (ps_ret (pv 2))) pss_nil))))
      (pss_one (ps_ret pe_non))), ?_⟩
    refine ⟨_, rfl, p, C, dx, _, _, rfl, hp, S.cl, S.n3, rfl, hd, kvsOf m.held, rfl, L.tab, fun r hrn => ⟨r, hd, kvsOf m.held, rfl, upd_same, ?_, fun ob nf => ?_⟩⟩
    · rw [upd_ne (ne_of_none L.tab hrn)]
      exact L.tab
    have s1 : Same H (upd H r (ViewO r hd)) := same_of hrn
    have e1 : (upd H r (ViewO r hd)) hd = some (.dK (kvsOf m.held)) := s1 _ _ L.tab
    generalize upd H r (ViewO r hd) = H1 at s1 e1
    have back : Same H (upd (upd H1 hd (.frz ob (.dK (kvsOf m.held)))) hd (.dK (kvsOf m.held))) := fun b u e => by
      by_cases hb : b = hd
      · subst hb
        rw [L.tab] at e
        rw [upd_same]
        exact e
      · rw [upd_ne hb, upd_ne hb]
        exact s1 _ _ e
    have rows : ∀ l ∈ m.held, (upd H1 hd (.frz ob (.dK (kvsOf m.held)))) l.at_ = some (.tup l.row) := fun l hl => by
      rw [upd_ne (fun z => by have := L.row l hl; rw [z, L.tab] at this; cases this)]
      exact s1 _ _ (L.row l hl)
    refine for_wk (wk_vals hd ob (kvsOf m.held)) (fun i σ H' => H' = upd H1 hd (.frz ob (.dK (kvsOf m.held))) ∧ (∀ l ∈ m.held.take i, l.worker ≠ z) ∧ ∃ v2, σ = [some (.ref p), some (.str z), v2]) ⟨rfl, (fun l hl => by simp at hl), _, rfl⟩ (fun i σ H' _ h => by rw [h.1]; exact upd_same) ?_ ?_
    · rintro i x σ H' hx ⟨rfl, hno, v2, rfl⟩
      have hx' : ∃ l, m.held[i]? = some l ∧ x = .ref l.at_ := by
        unfold kvsOf at hx
        rw [List.map_map, List.getElem?_map] at hx
        obtain ⟨l, hl, rfl⟩ := Option.map_eq_some_iff.mp hx
        exact ⟨l, hl, rfl⟩
      obtain ⟨l, hl, rfl⟩ := hx'
      refine ⟨_, rfl, l.at_, _, _, _, rfl, rfl, SqT.of (rows l (List.mem_of_getElem? hl)), atI_nat (j := 2) rfl, _, rfl, rfl, _, rfl, ite_of (dstr l.worker z) (fun he => ?_) (fun he => ?_)⟩
      · exact ⟨_, rfl, hd, _, ob, upd_same, nf, q1 l (find_at hl (of_decide_eq_true he) hno) _ back⟩
      · refine ⟨rfl, fun l' hl' => ?_, _, rfl⟩
        rw [List.take_add_one, hl] at hl'
        rcases List.mem_append.mp hl' with h | h
        · exact hno l' h
        · have : l' = l := by simpa using h
          rw [this]
          exact of_decide_eq_false he
    · rintro σ H' ⟨rfl, hno, v2, rfl⟩
      refine ⟨hd, _, ob, upd_same, nf, q2 ?_ _ back⟩
      refine List.find?_eq_none.mpr fun l hl => ?_
      rw [kvs_map_len, List.take_length] at hno
      simpa using hno l hl
def spTake (C : Addr) (D : Nat → Addr) : Sp := fun vs H Q E => ∃ (p hd : Addr) (m : Ls) (a : Int) (z : Str) (u : Int), vs = [.ref p, .int a, .str z, .int u] ∧ LsAt C H p hd m ∧ m.given < 1000 ∧
  (∀ l, m.by_ z = some l → ∀ H', Same H H' → E (.ref (D 1)) none H') ∧ (m.by_ z = none → ∀ T H', Chg [p, hd] H H' → LsAt C H' p hd (m.take a z u T) → Q (.ref T) H')
theorem ok_take {f : Addr} {fd : FuncData} (F : Fun K "take" "Leases.take" s_Leases_take f fd) (X : BX K mg D) (S : LCls K mg C) (km_holder : KnowsM CX0 P w K mg base 1 C "holder" ["self", "worker"] (spHolder C)) : FnOk P w K mg base (CX1 P w base) 2 f fd ["self", "place", "worker", "turn"] (spTake C D) := by
  refine F.okX sc_Leases_take (fun vs H Q E h => ?_) (fun cdv A outer s H vs Q E hr h => ?_)
  · obtain ⟨p, hd, m, a, z, u, rfl, _⟩ := h
    rfl
  · obtain ⟨p, hd, m, a, z, u, rfl, L, hlt, q1, q2⟩ := h
    obtain ⟨dx, hp⟩ := L.obj
    have hu := hu1 hr
    refine ⟨_, by exact (pss_cons (ps_if (pt_cmpR op_notN (pe_methM km_holder S.cl hr pass0 (pv 0) (pa_c (pv 2) pa_nil)) pe_non (nomark _)) (pss_one (ps_raise X.exB X.gB (pa_c pe_str pa_nil))) pss_nil)
      (pss_cons (ps_set (i := 4) sc_Leases_take.nd rfl (Or.inl rfl) (pe_tup (pa_c (pe_fld (pv 0) rfl) (pa_c (pv 1) (pa_c (pv 2) (pa_c (pv 3) (pa_c (pe_op op_add (pv 3) (pe_fld (pv 0) rfl)) pa_nil)))))))
      (pss_cons (ps_dput hu (pe_fld (pv 0) rfl) (pe_fld (pv 0) rfl) (pv 4) rfl)
      (pss_cons (ps_fldaug (pv 0) pe_int in_add)
      (pss_one (ps_ret (pv 4))))))), ?_⟩
    refine ⟨_, rfl, p, dx, _, rfl, hp, rfl, _, rfl, p, hd, m, z, rfl, L, fun l hl H1 s1 => ?_, fun hn H1 s1 => ?_⟩
    · exact ⟨rfl, _, rfl, iteT ⟨by show 1 ≤ sizeLine; decide, q1 l hl _ s1⟩⟩
    · refine ⟨rfl, _, rfl, iteF ?_⟩
      have hp1 := s1 _ _ hp
      refine ⟨_, rfl, p, C, dx, _, _, rfl, hp1, S.cl, S.n2, rfl, _, rfl, _, rfl, _, rfl, _, rfl, _, rfl, p, C, dx, _, _, rfl, hp1, S.cl, S.n1, rfl, _, _, rfl, rfl, by show 5 ≤ sizeLine; decide, fun T hT => ?_⟩
      dsimp only [gName]
      have s2 : Same H (upd H1 T (.tup [.int (m.given : Int), .int a, .str z, .int u, .int (u + m.term)])) := s1.trans (same_of hT)
      have e2 : (upd H1 T (.tup [.int (m.given : Int), .int a, .str z, .int u, .int (u + m.term)])) T = some (.tup [.int (m.given : Int), .int a, .str z, .int u, .int (u + m.term)]) := upd_same
      have newT : H T = none := s1.free hT
      generalize upd H1 T (.tup [.int (m.given : Int), .int a, .str z, .int u, .int (u + m.term)]) = H2 at s2 e2
      have hp2 := s2 _ _ hp
      have ht2 := s2 _ _ L.tab
      refine ⟨_, rfl, _, rfl, p, C, dx, _, _, rfl, hp2, S.cl, S.n3, rfl, _, rfl, p, C, dx, _, _, rfl, hp2, S.cl, S.n2, rfl, hd, _, rfl, DPut.k (k := .inl (m.given : Int)) ht2 (by rw [kvs_len]; exact Nat.lt_of_lt_of_le (Nat.lt_of_le_of_lt L.ok.len hlt) (by decide)), ?_⟩
      rw [put_new m L.ok a z u T]
      have hpd : p ≠ hd := fun zz => by rw [zz, L.tab] at hp; cases hp
      have hp3 : (upd H2 hd (.dK (kvsOf (m.take a z u T).held))) p = some (.ins C dx [("term", .int m.term), ("given", .int (m.given : Int)), ("held", .ref hd)]) := by rw [upd_ne hpd]; exact hp2
      dsimp only
      refine ⟨_, rfl, p, C, dx, _, _, rfl, hp3, S.cl, S.n2, rfl, _, _, rfl, rfl, dx, _, hp3, (by show 3 < 1000; decide), ?_⟩
      dsimp only
      refine ⟨_, rfl, q2 hn T _ (fun b o hb e => ?_) ⟨⟨dx, ?_⟩, ?_, fun l hl => ?_, Ok.take L.ok hn⟩⟩
      · have b1 : b ≠ p := fun zz => hb (by simp [zz])
        have b2 : b ≠ hd := fun zz => hb (by simp [zz])
        rw [upd_ne b1, upd_ne b2]
        exact s2 _ _ e
      · rw [upd_same]
        show _ = some (HO.ins C dx [("term", .int m.term), ("given", .int ((m.given + 1 : Nat) : Int)), ("held", .ref hd)])
        rw [show ((m.given + 1 : Nat) : Int) = (m.given : Int) + 1 by omega]
        rfl
      · rw [upd_ne (Ne.symm hpd)]
        exact upd_same
      · have tn : ∀ b xs, H2 b = some (.tup xs) → (upd (upd H2 hd (.dK (kvsOf (m.take a z u T).held))) p (.ins C dx (putF "given" (.int ((m.given : Int) + 1)) [("term", .int m.term), ("given", .int (m.given : Int)), ("held", .ref hd)]))) b = some (.tup xs) := fun b xs e => by
          rw [upd_ne (fun zz => by rw [zz, hp2] at e; cases e), upd_ne (fun zz => by rw [zz, ht2] at e; cases e)]
          exact e
        rcases List.mem_append.mp hl with h | h
        · exact tn _ _ (s2 _ _ (L.row l h))
        · rw [List.mem_singleton.mp h]
          exact tn _ _ e2
def spOf (K : PySem.W.Frag) (C : Addr) (D : Nat → Addr) : Sp := fun vs H Q E => ∃ (p hd : Addr) (m : Ls) (x : V), vs = [.ref p, x] ∧ LsAt C H p hd m ∧ Any K H x ∧ (∀ l, m.of x = some l → Q (.ref l.at_) H) ∧ (m.of x = none → E (.ref (D 2)) none H)
theorem ok_of {f : Addr} {fd : FuncData} (F : Fun K "of" "Leases.of" s_Leases_of f fd) (X : BX K mg D) (S : LCls K mg C) (k_whole : Knows P w K mg base 1 "is_whole" ["thing"] (sp_is_whole K)) : FnOk P w K mg base (CX1 P w base) 2 f fd ["self", "number"] (spOf K C D) := by
  refine F.okX sc_Leases_of (fun vs H Q E h => ?_) (fun cdv A outer s H vs Q E hr h => ?_)
  · obtain ⟨p, hd, m, x, rfl, _⟩ := h
    rfl
  · obtain ⟨p, hd, m, x, rfl, L, an, q1, q2⟩ := h
    obtain ⟨dx, hp⟩ := L.obj
    have hu := hu1 hr
    refine ⟨_, by exact (pss_cons (ps_if (PW.pt (pw_or (pt_not (pt_val (pe_callM k_whole hr (pa_c (pv 1) pa_nil)))) (pw_or1 (pt_cmp (pc_dnotin hu (pv 1) (pe_fld (pv 0) rfl)))))) (pss_one (ps_raise X.exG X.gG (pa_c pe_str pa_nil))) pss_nil)
      (pss_one (ps_ret (pe_dget hu (pe_fld (pv 0) rfl) (pv 1) (fun _ _ => rfl))))), ?_⟩
    refine ⟨_, rfl, x, rfl, an, _, rfl, ?_⟩
    cases x with
    | int n =>
      refine iteF ?_
      have dg : DGet H hd (.int n) ((m.of (.int n)).map fun l => V.ref l.at_) := by
        have := DGet.k (k := .inl n) L.tab
        rw [val_kvs] at this
        exact this
      refine ⟨_, rfl, _, rfl, p, C, dx, _, _, rfl, hp, S.cl, S.n3, rfl, hd, _, rfl, dg, _, rfl, ?_⟩
      cases e : m.of (.int n) with
      | none => exact iteT ⟨by show 1 ≤ sizeLine; decide, q2 e⟩
      | some l =>
        rw [e] at dg
        refine iteF ?_
        exact ⟨_, rfl, p, C, dx, _, _, rfl, hp, S.cl, S.n3, rfl, _, rfl, hd, _, rfl, dg, q1 l e⟩
    | _ => exact iteT (iteT ⟨by show 1 ≤ sizeLine; decide, q2 rfl⟩)
def spRenew (K : PySem.W.Frag) (C : Addr) (D : Nat → Addr) : Sp := fun vs H Q E => ∃ (p hd : Addr) (m : Ls) (x : V) (u : Int), vs = [.ref p, x, .int u] ∧ LsAt C H p hd m ∧ m.given < 1000 ∧ Any K H x ∧ (∀ l, m.of x = some l → ∀ T H', Chg [p, hd] H H' → LsAt C H' p hd (m.renew l u T) → Q (.ref T) H') ∧ (m.of x = none → E (.ref (D 2)) none H)
theorem ok_renew {f : Addr} {fd : FuncData} (F : Fun K "renew" "Leases.renew" s_Leases_renew f fd) (S : LCls K mg C) (km_of : KnowsM (CX1 P w base) P w K mg base 2 C "of" ["self", "number"] (spOf K C D)) : FnOk P w K mg base (CX1 P w base) 3 f fd ["self", "number", "turn"] (spRenew K C D) := by
  refine F.okX sc_Leases_renew (fun vs H Q E h => ?_) (fun cdv A outer s H vs Q E hr h => ?_)
  · obtain ⟨p, hd, m, x, u, rfl, _⟩ := h
    rfl
  · obtain ⟨p, hd, m, x, u, rfl, L, hlt, an, q1, q2⟩ := h
    obtain ⟨dx, hp⟩ := L.obj
    have hu := hu1 hr
    refine ⟨_, by exact (pss_cons (ps_set (i := 3) sc_Leases_renew.nd rfl (Or.inl rfl) (pe_methM km_of S.cl hr passes_on (pv 0) (pa_c (pv 1) pa_nil)))
      (pss_cons (ps_set (i := 4) sc_Leases_renew.nd rfl (Or.inl rfl) (pe_op op_catT (pe_slice sl_tup (pv 3) po_none (po_some pe_int)) (pe_tup (pa_c (pe_op op_add (pv 2) (pe_fld (pv 0) rfl)) pa_nil))))
      (pss_cons (ps_dput hu (pe_fld (pv 0) rfl) (pv 1) (pv 4) rfl)
      (pss_one (ps_ret (pv 4)))))), ?_⟩
    refine ⟨_, rfl, p, dx, _, rfl, hp, rfl, _, rfl, p, hd, m, x, rfl, L, an, fun l hl => ?_, q2⟩
    dsimp only [gName]
    obtain ⟨hmem, rfl⟩ := of_some hl
    have hrow := L.row l hmem
    refine ⟨_, rfl, _, rfl, l.at_, _, rfl, SqT.of hrow, (fun h => by have h2 : (4 : Nat) = 5 := h.2; cases h2), fun c1 hc1 => ?_⟩
    have s1 : Same H (upd H c1 (.tup (cutV l.row none (some 4)))) := same_of hc1
    have e1 : (upd H c1 (.tup (cutV l.row none (some 4)))) c1 = some (.tup [.int (l.num : Int), .int l.place, .str l.worker, .int l.turn]) := upd_same
    generalize upd H c1 (.tup (cutV l.row none (some 4))) = H1 at s1 e1
    have hp1 := s1 _ _ hp
    refine ⟨_, rfl, _, rfl, p, C, dx, _, _, rfl, hp1, S.cl, S.n1, rfl, _, _, rfl, rfl, by show 1 ≤ sizeLine; decide, fun c2 hc2 => ?_⟩
    have s2 : Same H1 (upd H1 c2 (.tup [.int (u + m.term)])) := same_of hc2
    have e2 : (upd H1 c2 (.tup [.int (u + m.term)])) c2 = some (.tup [.int (u + m.term)]) := upd_same
    generalize upd H1 c2 (.tup [.int (u + m.term)]) = H2 at s2 e2
    refine ⟨c1, c2, _, _, rfl, rfl, SqT.of (s2 _ _ e1), SqT.of e2, (by simp), by show 5 ≤ sizeLine; decide, (fun h => by cases h), fun _ T hT => ?_⟩
    dsimp only [gName]
    have s3 : Same H (upd H2 T (.tup ([.int (l.num : Int), .int l.place, .str l.worker, .int l.turn] ++ [.int (u + m.term)]))) := (s1.trans s2).trans (same_of hT)
    have e3 : (upd H2 T (.tup ([.int (l.num : Int), .int l.place, .str l.worker, .int l.turn] ++ [.int (u + m.term)]))) T = some (.tup [.int (l.num : Int), .int l.place, .str l.worker, .int l.turn, .int (u + m.term)]) := upd_same
    generalize upd H2 T (.tup ([.int (l.num : Int), .int l.place, .str l.worker, .int l.turn] ++ [.int (u + m.term)])) = H3 at s3 e3
    have hp3 := s3 _ _ hp
    have ht3 := s3 _ _ L.tab
    refine ⟨_, rfl, _, rfl, p, C, dx, _, _, rfl, hp3, S.cl, S.n3, rfl, _, rfl, hd, _, rfl, DPut.k (k := .inl (l.num : Int)) ht3 (by rw [kvs_len]; exact Nat.lt_of_lt_of_le (Nat.lt_of_le_of_lt L.ok.len hlt) (by decide)), ?_⟩
    rw [put_old m hmem u T]
    have hpd : p ≠ hd := fun zz => by rw [zz, L.tab] at hp; cases hp
    dsimp only
    refine ⟨_, rfl, q1 l hl T _ (fun b o hb e => ?_) ⟨⟨dx, ?_⟩, upd_same, fun l2 hl2 => ?_, Ok.renew L.ok hmem⟩⟩
    · rw [upd_ne (fun zz => hb (by simp [zz]))]
      exact s3 _ _ e
    · rw [upd_ne hpd]
      exact hp3
    · have tn : ∀ b xs, H3 b = some (.tup xs) → (upd H3 hd (.dK (kvsOf (m.renew l u T).held))) b = some (.tup xs) := fun b xs e => by
        rw [upd_ne (fun zz => by rw [zz, ht3] at e; cases e)]
        exact e
      obtain ⟨y, hy, rfl⟩ := List.mem_map.mp hl2
      by_cases h : y.num = l.num
      · rw [if_pos h]
        exact tn _ _ e3
      · rw [if_neg h]
        exact tn _ _ (s3 _ _ (L.row y hy))
def spClose (K : PySem.W.Frag) (C : Addr) (D : Nat → Addr) : Sp := fun vs H Q E => ∃ (p hd : Addr) (m : Ls) (x : V), vs = [.ref p, x] ∧ LsAt C H p hd m ∧ Any K H x ∧ (∀ l, m.of x = some l → ∀ H', Chg [p, hd] H H' → LsAt C H' p hd (m.close l) → H' l.at_ = some (.tup l.row) → Q (.ref l.at_) H') ∧ (m.of x = none → E (.ref (D 2)) none H)
theorem ok_close {f : Addr} {fd : FuncData} (F : Fun K "close" "Leases.close" s_Leases_close f fd) (S : LCls K mg C) (km_of : KnowsM (CX1 P w base) P w K mg base 2 C "of" ["self", "number"] (spOf K C D)) : FnOk P w K mg base (CX1 P w base) 3 f fd ["self", "number"] (spClose K C D) := by
  refine F.okX sc_Leases_close (fun vs H Q E h => ?_) (fun cdv A outer s H vs Q E hr h => ?_)
  · obtain ⟨p, hd, m, x, rfl, _⟩ := h
    rfl
  · obtain ⟨p, hd, m, x, rfl, L, an, q1, q2⟩ := h
    obtain ⟨dx, hp⟩ := L.obj
    refine ⟨_, by exact (pss_cons (ps_set (i := 2) sc_Leases_close.nd rfl (Or.inl rfl) (pe_methM km_of S.cl hr passes_on (pv 0) (pa_c (pv 1) pa_nil)))
      (pss_cons (ps_expr (pe_dpop1 (pe_fld (pv 0) rfl) (pv 1) ⟨rfl, by rfl, rfl, rfl⟩))
      (pss_one (ps_ret (pv 2))))), ?_⟩
    refine ⟨_, rfl, p, dx, _, rfl, hp, rfl, _, rfl, p, hd, m, x, rfl, L, an, fun l hl => ?_, q2⟩
    dsimp only [gName]
    obtain ⟨hmem, rfl⟩ := of_some hl
    have hpd : p ≠ hd := fun zz => by rw [zz, L.tab] at hp; cases hp
    refine ⟨_, rfl, p, C, dx, _, _, rfl, hp, S.cl, S.n3, rfl, hd, rfl, .inl ⟨_, .inl L.tab⟩, _, rfl, _, .inl (l.num : Int), .ref l.at_, L.tab, rfl, by rw [val_kvs, hl]; rfl, ?_⟩
    rw [drop_kvs]
    dsimp only
    have tn : ∀ b xs, H b = some (.tup xs) → (upd H hd (.dK (kvsOf (m.close l).held))) b = some (.tup xs) := fun b xs e => by
      rw [upd_ne (fun zz => by rw [zz, L.tab] at e; cases e)]
      exact e
    refine ⟨_, rfl, q1 l hl _ (fun b o hb e => ?_) ⟨⟨dx, ?_⟩, upd_same, fun l2 hl2 => tn _ _ (L.row l2 (List.mem_filter.mp hl2).1), Ok.close L.ok l⟩ (tn _ _ (L.row l hmem))⟩
    · rw [upd_ne (fun zz => hb (by simp [zz]))]
      exact e
    · rw [upd_ne hpd]
      exact hp
def spRows (C : Addr) : Sp := fun vs H Q _ => ∃ (p hd : Addr) (m : Ls), vs = [.ref p] ∧ LsAt C H p hd m ∧ ∀ q H', Same H H' → H q = none → H' q = some (.lst (m.held.map fun l => V.ref l.at_)) → Q (.ref q) H'
theorem ok_rows {f : Addr} {fd : FuncData} (F : Fun K "rows" "Leases.rows" s_Leases_rows f fd) (S : LCls K mg C) (B : Bltn mg) : FnOk P w K mg base CX0 1 f fd ["self"] (spRows C) := by
  refine F.ok sc_Leases_rows (fun vs H Q E h => ?_) (fun cdv A outer s H vs Q E hr h => ?_)
  · obtain ⟨p, hd, m, rfl, _⟩ := h
    rfl
  · obtain ⟨p, hd, m, rfl, L, q⟩ := h
    obtain ⟨dx, hp⟩ := L.obj
    refine ⟨_, by exact (pss_one (ps_ret (pe_tcall (call_listV rfl) rfl B.list boot_list (pa_c (pe_dvals (pe_fld (pv 0) rfl) ⟨rfl, by rfl, rfl, rfl⟩) pa_nil)))), ?_⟩
    refine ⟨_, rfl, p, C, dx, _, _, rfl, hp, S.cl, S.n3, rfl, hd, kvsOf m.held, rfl, L.tab, fun r hrn => ⟨r, hd, kvsOf m.held, rfl, upd_same, same_of hrn _ _ L.tab, fun l hl => ?_⟩⟩
    refine q l _ ((same_of hrn).trans (same_of hl)) ((same_of hrn : Same H _).free hl) ?_
    rw [upd_same]
    unfold kvsOf
    rw [List.map_map]
    rfl
end
end K10

set_option Elab.async false
set_option linter.all false
set_option maxRecDepth 100000
set_option maxHeartbeats 4000000
set_option pp.maxSteps 600
set_option pp.deepTerms false
namespace K10
open PySem L2 PyProof.Rows
theorem join_le (z : Str) (ys : List Str) {n m : Nat} (h1 : ys.length ≤ n) (h2 : ∀ y ∈ ys, y.length ≤ m) : (ys.map (·.length)).sum + ys.length * z.length ≤ n * (m + z.length) := by
  have h : ∀ l : List Str, (∀ y ∈ l, y.length ≤ m) → (l.map (·.length)).sum + l.length * z.length ≤ l.length * (m + z.length) := by
    intro l
    induction l with
    | nil => intro _; simp
    | cons y r ih =>
      intro hh
      have a := hh y List.mem_cons_self
      have b := ih fun x hx => hh x (List.mem_cons_of_mem _ hx)
      rw [List.map_cons, List.sum_cons, List.length_cons, Nat.add_mul, Nat.add_mul, Nat.one_mul, Nat.one_mul]
      omega
  exact Nat.le_trans (h ys h2) (Nat.mul_le_mul_right _ h1)
theorem txt_join_len (z : Str) (ys : List Str) {k : Nat} (h : (ys.map (·.length)).sum + ys.length * z.length ≤ k) : (Txt.join z ys).length ≤ k := by
  have e : Txt.join z ys = Str.join z ys := StrLaws.glued_eq_join z ys
  rw [e]
  exact Nat.le_trans (StrLaws.join_length_le z ys) h


abbrev Sm (c : Int) : Prop := Builtin.Int.intBits c ≤ 1048576
theorem sm0 : Sm 0 := by decide
structure Bw (mg : Str → Option Value) : Prop where
  b : Bltn mg
  set : mg "set" = none
  enum : mg "enumerate" = none
section
variable {P : Program} {w : World} {K : PySem.W.Frag} {mg : Str → Option Value} {base : Heap} {C : Addr} {D : Nat → Addr}
def spCell (K : PySem.W.Frag) : Sp := fun vs H Q _ => ∃ (a : Addr) (ns : List Int) (k : Nat), vs = [.ref a, .int k] ∧ SqL K H a (ns.map V.int) ∧ (∀ v ∈ ns, Sm v) ∧ ∀ c, Sm c → Q (.int c) H
theorem ok_cell (D : Def K mg "_law_cell_at" s__law_cell_at ["_law_script", "_law_k"]) (B : Bltn mg) : Knows P w K mg base 1 "_law_cell_at" ["_law_script", "_law_k"] (spCell K) := by
  refine D.ok sc__law_cell_at (fun vs H Q E h => ?_) (fun f cdv A outer s H vs Q E hr h => ?_)
  · obtain ⟨a, ns, k, rfl, _⟩ := h
    rfl
  · obtain ⟨a, ns, k, rfl, hS, hsm, q⟩ := h
    refine ⟨_, by exact (pss_cons (ps_if (pt_cmpR op_lt (pv 1) (pe_bcall call_len_seq rfl B.len PySem.boot_len (pa_c (pv 0) pa_nil)) (nomark _)) (pss_one (ps_ret (pe_ix ix_list (pv 0) (pv 1) (fun _ _ => rfl)))) pss_nil)
      (pss_one (ps_ret pe_int))), ?_⟩
    refine ⟨_, rfl, _, rfl, a, _, rfl, .inl hS, _, _, rfl, rfl, _, rfl, ?_⟩
    refine ite2 (fun hlt => ?_) (fun _ => ?_)
    · have h1 : (k : Int) < (ns.map V.int).length := of_decide_eq_true hlt
      obtain ⟨v, hv, hmem, _⟩ := atI_mem (xs := ns.map V.int) (Int.natCast_nonneg k) h1
      obtain ⟨c, hc, rfl⟩ := List.mem_map.mp hmem
      exact ⟨_, rfl, _, rfl, a, _, _, _, rfl, rfl, hS, hv, q c (hsm c hc)⟩
    · exact q 0 sm0
def spMixed : Sp := fun vs H Q _ => ∃ (c : Int) (k : Nat), vs = [.int c, .int k] ∧ Sm c ∧ k ≤ 1000 ∧ ∀ m, Q (.int m) H
theorem ok_mixed (D : Def K mg "_law_mixed" s__law_mixed ["_law_cell", "_law_k"]) : Knows P w K mg base 1 "_law_mixed" ["_law_cell", "_law_k"] spMixed := by
  refine D.ok sc__law_mixed (fun vs H Q E h => ?_) (fun f cdv A outer s H vs Q E hr h => ?_)
  · obtain ⟨c, k, rfl, _⟩ := h
    rfl
  · obtain ⟨c, k, rfl, hsm, hk, q⟩ := h
    refine ⟨_, by exact (pss_one (ps_ret (pe_op op_mod (pe_op op_mul (pe_op op_powS (pe_op op_add (pe_op op_add (pv 0) (pe_op op_mul pe_int (pv 1))) pe_int) pe_int) pe_int) pe_int))), ?_⟩
    have hb1 : Builtin.Int.intBits (7919 * (k : Int)) ≤ 64 := intBits_le_64 (by omega) (by omega)
    have hb2 : Builtin.Int.intBits (c + 7919 * (k : Int)) ≤ 1048577 := Nat.le_trans (intBits_add_le hsm hb1) (by decide)
    have hb3 : Builtin.Int.intBits (c + 7919 * (k : Int) + 1) ≤ 1048578 := Nat.le_trans (intBits_add_le hb2 (show Builtin.Int.intBits 1 ≤ 1 by decide)) (by decide)
    refine ⟨_, rfl, _, rfl, _, _, rfl, rfl, .inl ⟨by walk_at "m", by walk_at "m"⟩, _, _, rfl, rfl, _, _, rfl, rfl, _, _, rfl, rfl, ⟨by decide, ?_⟩, _, _, rfl, rfl, .inr ⟨by walk_at "m", by walk_at "m"⟩, _, _, rfl, rfl, (by walk_at "m"), q _⟩
    show (Builtin.Int.intBits (c + 7919 * (k : Int) + 1) : Int) * 3 ≤ 2 ^ 27
    omega
/-- signs -/
def Signs (ys : List V) : Prop := ∃ zs : List Str, ys = zs.map V.str ∧ ∀ z ∈ zs, z.length ≤ 1
theorem Signs.nil : Signs [] := ⟨[], rfl, by simp⟩
theorem Signs.snoc {ys : List V} {c : Nat} (h : Signs ys) : Signs (ys ++ [.str ⟨#[c]⟩]) := by
  obtain ⟨zs, rfl, hh⟩ := h
  refine ⟨zs ++ [⟨#[c]⟩], by simp, fun y hy => ?_⟩
  rcases List.mem_append.mp hy with hy | hy
  · exact hh y hy
  · rw [List.mem_singleton.mp hy]
    show 1 ≤ 1
    decide
theorem Signs.cut {ys : List V} {lo hi : Option Int} (h : Signs ys) : Signs (cutV ys lo hi) := by
  obtain ⟨zs, rfl, hh⟩ := h
  unfold cutV
  refine ⟨((zs.drop (HT.sIx (zs.map V.str).length 0 lo)).take (HT.sIx (zs.map V.str).length (zs.map V.str).length hi - HT.sIx (zs.map V.str).length 0 lo)), by rw [List.map_take, List.map_drop], fun z hz => hh z (List.mem_of_mem_drop (List.mem_of_mem_take hz))⟩
theorem Signs.set {ys : List V} {j : Nat} {c : Nat} (h : Signs ys) : Signs (ys.set j (.str ⟨#[c]⟩)) := by
  obtain ⟨zs, rfl, hh⟩ := h
  refine ⟨zs.set j ⟨#[c]⟩, by rw [List.map_set], fun z hz => ?_⟩
  rcases List.mem_or_eq_of_mem_set hz with h | h
  · exact hh z h
  · rw [h]
    show 1 ≤ 1
    decide
theorem let_at {i : Int} : ∃ c, atI LET.cps.toList (i % 26) = some c := by
  obtain ⟨c, hc, _, _⟩ := atI_mem (xs := LET.cps.toList) (i := i % 26) (Int.emod_nonneg _ (by decide)) (by
    have e : LET.cps.toList.length = 26 := by decide +kernel
    rw [e]; exact Int.emod_lt_of_pos _ (by decide))
  exact ⟨c, hc⟩
theorem ixN_nat {n : Nat} {a : Int} (h0 : 0 ≤ a) (h1 : a < n) : ixN n a = some a.toNat := by
  unfold ixN
  rw [if_pos h0, if_pos (by omega)]
def spNames : Sp := fun vs H Q _ => ∃ c : Int, vs = [.int c] ∧ Sm c ∧ ∀ l (zs : List Str) H', Same H H' → H' l = some (.lst (zs.map V.str)) → zs.length = 8 → (∀ z ∈ zs, z.length ≤ 100) → Q (.ref l) H'
theorem ok_names (Df : Def K mg "_law_names" s__law_names ["_law_cell"]) (B : Bw mg) (k_mixed : Knows P w K mg base 1 "_law_mixed" ["_law_cell", "_law_k"] spMixed) : Knows P w K mg base 2 "_law_names" ["_law_cell"] spNames := by
  refine Df.ok sc__law_names (fun vs H Q E h => ?_) (fun f cdv A outer s H vs Q E hr h => ?_)
  · obtain ⟨c, rfl, _⟩ := h
    rfl
  · obtain ⟨c, rfl, hsm, q⟩ := h
    refine ⟨_, by exact (pss_cons (ps_set (i := 1) sc__law_names.nd rfl (Or.inr rfl) pe_str)
      (pss_cons (ps_set (i := 2) sc__law_names.nd rfl (Or.inl rfl) (pe_op op_add pe_int (pe_op op_mod (pe_op op_fdiv (pv 0) pe_int) pe_int)))
      (pss_cons (ps_setC (i := 3) [0, 1] ["_law_j", "_law_cell", "_law_letters"] sc__law_names.nd rfl (Or.inl rfl) rfl (pi_range1 rfl B.b.range (pa_c pe_int pa_nil)) (fun _ _ _ _ => pts_nil) (fun _ _ _ _ => (pe_ix ix_str (pv 2) (pe_op op_mod (pe_callM k_mixed hr (pa_c (pv 1) (pa_c (pe_op op_add pe_int (pv 0)) pa_nil))) pe_int) (fun _ _ => rfl))))
      (pss_cons (ps_set (i := 4) sc__law_names.nd rfl (Or.inl rfl) (pe_op op_mod (pe_op op_fdiv (pv 0) pe_int) (pv 2)))
      (pss_cons (ps_set (i := 5) sc__law_names.nd rfl (Or.inl rfl) (pe_lst pa_nil))
      (pss_cons (ps_for PassesOwn.never rfl (pi_range1 rfl B.b.range (pa_c pe_int pa_nil)) (pg_name (i := 6) sc__law_names.nd rfl (Or.inr rfl)) (pss_cons (ps_set (i := 7) sc__law_names.nd rfl (Or.inl rfl) (pe_slice sl_list (pv 3) po_none (po_some (pv 2))))
      (pss_cons (ps_asg (pe_ix ix_str (pv 1) (pe_op op_mod (pe_op op_add (pe_op op_fdiv (pv 0) pe_int) (pe_op op_mul pe_int (pv 6))) pe_int) (fun _ _ => rfl)) (pg_sub (pv 7) (pv 4) set_list))
      (pss_cons (ps_if (pt_cmpR op_eq (pe_op op_mod (pv 0) pe_int) pe_int (nomark _)) (pss_one (ps_set (i := 7) sc__law_names.nd rfl (Or.inl rfl) (pe_slice sl_list (pv 3) po_none (po_some (pe_op op_add pe_int (pe_op op_mod (pe_op op_add (pv 6) (pe_op op_fdiv (pv 0) pe_int)) pe_int)))))) pss_nil)
      (pss_cons (ps_if (pt_cmpR op_eq (pe_op op_mod (pv 0) pe_int) pe_int (nomark _)) (pss_cons (ps_set (i := 8) sc__law_names.nd rfl (Or.inl rfl) (pe_op op_add pe_int (pe_op op_mod (pe_callM k_mixed hr (pa_c (pv 0) (pa_c (pe_op op_add pe_int (pv 6)) pa_nil))) pe_int)))
      (pss_cons (ps_setC (i := 7) [0, 6] ["_law_j", "_law_cell", "_law_k"] sc__law_names.nd rfl (Or.inl rfl) rfl (pi_range1 rfl B.b.range (pa_c (pv 8) pa_nil)) (fun _ _ _ _ => pts_nil) (fun _ _ _ _ => (pe_op op_mod (pe_callM k_mixed hr (pa_c (pv 1) (pa_c (pe_op op_add (pe_op op_mul pe_int (pv 2)) (pv 0)) pa_nil))) pe_int)))
      (pss_one (ps_setC (i := 7) [1] ["_law_j", "_law_letters"] sc__law_names.nd rfl (Or.inl rfl) rfl (pi_list (pv 7)) (fun _ _ _ _ => pts_nil) (fun _ _ _ _ => (pe_ix ix_str (pv 1) (pv 0) (fun _ _ => rfl))))))) pss_nil)
      (pss_one (ps_expr (pe_mcall PySem.F.plainAttrs_list PySem.F.slot_list_append PySem.F.type_list_append mt_append (pv 5) (pa_c (pe_mcall PySem.F.plainAttrs_str PySem.F.slot_str_join PySem.F.type_str_join mt_join pe_str (pa_c (pv 7) pa_nil)) pa_nil)))))))))
      (pss_one (ps_ret (pe_ifExp (pt_cmpR op_eq (pe_lenset rfl B.b.len B.set (pv 5)) pe_int (nomark _)) (pv 5) (pe_lst (pa_c pe_str (pa_c pe_str (pa_c pe_str (pa_c pe_str (pa_c pe_str (pa_c pe_str (pa_c pe_str (pa_c pe_str pa_nil)))))))))))))))))), ?_⟩
    have z0 : 0 ≤ c / 3 % 12 := Int.emod_nonneg _ (by decide)
    have z1 : c / 3 % 12 < 12 := Int.emod_lt_of_pos _ (by decide)
    dsimp only [gName]
    refine ⟨_, rfl, _, _, rfl, rfl, by walk_at "m", _, _, rfl, rfl, by walk_at "m", _, _, rfl, rfl, ?_⟩
    dsimp only [gName]
    have ez : ∃ sz : Nat, (1 : Int) + c / 3 % 12 = (sz : Int) ∧ 1 ≤ sz ∧ sz ≤ 12 := ⟨(1 + c / 3 % 12).toNat, by omega, by omega, by omega⟩
    obtain ⟨sz, ez, sz1, sz2⟩ := ez
    rw [ez]
    refine seq_use (fun v H' => ∃ (l : Addr) (ys : List V), v = .ref l ∧ H' l = some (.lst ys) ∧ Signs ys ∧ ys.length = 12 ∧ Same H H') (fun Q' kk => ?_) ?_
    · refine ⟨12, rfl, by decide, by decide, ?_⟩
      refine comp1_wk (wk_range 0 12) (fun i ys H4 => H4 = H ∧ ys.length = i ∧ Signs ys) ⟨rfl, rfl, .nil⟩ (fun i ys H4 _ p => ⟨trivial, Nat.le_of_eq p.2.1⟩) (by rw [rangeV_length]; decide) ?_ ?_
      · rintro i x ys H4 Nx hx ⟨rfl, hl, ht⟩ hN
        have hi := (List.getElem?_eq_some_iff.mp hx).1
        rw [rangeV_length] at hi
        obtain ⟨m, hm, rfl⟩ := List.mem_map.mp (List.mem_of_getElem? hx)
        have hm1 := List.mem_range.mp hm
        refine tTrue_use ?_
        have ek : (40 : Int) + (0 + (m : Int)) = ((40 + m : Nat) : Int) := by omega
        refine ⟨_, rfl, _, rfl, _, rfl, _, _, rfl, rfl, c, 40 + m, (by show [V.int c, V.int ((40 : Int) + (0 + (m : Int)))] = _; rw [ek]), hsm, by omega, fun mm => ⟨_, _, rfl, rfl, by walk_at "m", ?_⟩⟩
        obtain ⟨cc, hc⟩ := let_at (i := mm)
        exact ⟨_, _, cc, rfl, rfl, by decide +kernel, hc, hN _ _ ⟨rfl, by simp [hl], ht.snoc⟩⟩
      · rintro ys H4 ⟨rfl, hl, ht⟩ p hp
        exact kk _ _ ⟨p, ys, rfl, upd_same, ht, by rw [hl, rangeV_length], same_of hp⟩
    rintro _ H1 ⟨R, ys, rfl, hR, sR, lR, s1⟩
    dsimp only [gName]
    have szp : (0 : Int) < (sz : Int) := by omega
    refine ⟨_, rfl, _, _, rfl, rfl, by walk_at "m", _, rfl, _, _, rfl, rfl, szp, ?_⟩
    dsimp only [gName]
    have a0 : 0 ≤ c / 36 % (sz : Int) := Int.emod_nonneg _ (by omega)
    have a1 : c / 36 % (sz : Int) < (sz : Int) := Int.emod_lt_of_pos _ szp
    generalize c / 36 % (sz : Int) = at_ at a0 a1
    refine ⟨by decide, fun F hF => ?_⟩
    dsimp only [gName]
    have s2 : Same H1 (upd H1 F (.lst [])) := same_of hF
    have e2 : (upd H1 F (.lst [])) F = some (.lst (([] : List Str).map V.str)) := upd_same
    have newF : H F = none := s1.free hF
    have RF : R ≠ F := ne_of_none hR hF
    generalize upd H1 F (.lst []) = H2 at s2 e2
    refine ⟨8, rfl, by decide, by decide, ?_⟩
    refine for_range (n := 8) (fun i σ H' => ∃ (zs : List Str) (v6 v7 v8 : Option V), H' F = some (.lst (zs.map V.str)) ∧ zs.length = i ∧ (∀ y ∈ zs, y.length ≤ 100) ∧ H' R = some (.lst ys) ∧ Same H H' ∧ σ = [some (.int c), some (.str LET), some (.int (sz : Int)), some (.ref R), some (.int at_), some (.ref F), v6, v7, v8]) ⟨[], _, _, _, e2, rfl, (fun y hy => by cases hy), s2 _ _ hR, s1.trans s2, rfl⟩ ?_ ?_
    · rintro i σ H3 hi ⟨zs, v6, v7, v8, eF, lF, zF, eR, s3, rfl⟩
      dsimp only [gName]
      refine seq_use (fun v H' => ∃ (l : Addr) (us : List V), v = .ref l ∧ H' l = some (.lst us) ∧ Signs us ∧ us.length = sz ∧ Same H3 H' ∧ H3 l = none) (fun Q' kk => ?_) ?_
      · refine ⟨_, rfl, _, rfl, _, rfl, R, _, rfl, SqL.of eR, fun l hl => kk _ _ ⟨l, _, rfl, upd_same, sR.cut, ?_, same_of hl, hl⟩⟩
        unfold cutV
        rw [List.length_take, List.length_drop, lR]
        have g1 : HT.sIx 12 0 none = 0 := rfl
        have g2 : HT.sIx 12 12 (some (sz : Int)) = min sz 12 := HT.sIx_nat 12 12 sz
        rw [g1, g2]
        omega
      rintro _ H4 ⟨l, us, rfl, el, sU, lU, s4, nl⟩
      dsimp only [gName]
      obtain ⟨cc, hc⟩ := let_at (i := c / 432 + 3 * (0 + (i : Int)))
      refine ⟨_, rfl, _, rfl, _, _, rfl, rfl, by walk_at "m", _, rfl, _, _, rfl, rfl, .inl ⟨by decide, by decide⟩, _, _, rfl, rfl, _, _, rfl, rfl, by walk_at "m", _, _, cc, rfl, rfl, by decide +kernel, hc, ?_⟩
      refine ⟨_, rfl, _, rfl, l, us, _, at_.toNat, rfl, rfl, el, ixN_nat a0 (by rw [lU]; exact a1), ?_⟩
      have s5 : Same H3 (upd H4 l (.lst (us.set at_.toNat (.str ⟨#[cc]⟩)))) := s4.upd nl
      have e5 : (upd H4 l (.lst (us.set at_.toNat (.str ⟨#[cc]⟩)))) l = some (.lst (us.set at_.toNat (.str ⟨#[cc]⟩))) := upd_same
      have sV : Signs (us.set at_.toNat (.str ⟨#[cc]⟩)) := sU.set
      have lV : (us.set at_.toNat (.str ⟨#[cc]⟩)).length ≤ 12 := by rw [List.length_set]; omega
      generalize upd H4 l (.lst (us.set at_.toNat (.str ⟨#[cc]⟩))) = H5 at s5 e5
      generalize us.set at_.toNat (.str ⟨#[cc]⟩) = ws at e5 sV lV
      dsimp only
      refine stm_use (t := tIfS _ _ _) (fun σ' H' => ∃ (l : Addr) (us : List V) (v6 v8 : Option V), H' l = some (.lst us) ∧ Signs us ∧ us.length ≤ 12 ∧ Same H3 H' ∧ σ' = [some (.int c), some (.str LET), some (.int (sz : Int)), some (.ref R), some (.int at_), some (.ref F), some (.int (0 + (i : Int))), some (.ref l), v8]) (fun Q' kk => ?_) ?_
      · refine ⟨_, rfl, _, _, rfl, rfl, by walk_at "m", rfl, _, rfl, ite2 (fun _ => ?_) (fun _ => ?_)⟩
        · refine ⟨_, rfl, _, rfl, _, rfl, _, _, rfl, rfl, by walk_at "m", _, _, rfl, rfl, _, _, rfl, rfl, by walk_at "m", _, _, rfl, rfl, _, rfl, R, _, rfl, SqL.of (s5 _ _ eR), fun l2 hl2 => ?_⟩
          exact kk _ _ ⟨l2, _, none, _, upd_same, sR.cut, Nat.le_trans (cutV_length _ _ _) (by rw [lR]; exact Nat.le_refl _), s5.trans (same_of hl2), rfl⟩
        · exact kk _ _ ⟨l, ws, none, _, e5, sV, lV, s5, rfl⟩
      rintro σ' H6 ⟨l6, u6, _, v8', e6, sG6, lG6, s6, rfl⟩
      refine stm_use (t := tIfS _ _ _) (fun σ' H' => ∃ (l : Addr) (us : List V) (v8 : Option V), H' l = some (.lst us) ∧ Signs us ∧ us.length ≤ 12 ∧ Same H3 H' ∧ σ' = [some (.int c), some (.str LET), some (.int (sz : Int)), some (.ref R), some (.int at_), some (.ref F), some (.int (0 + (i : Int))), some (.ref l), v8]) (fun Q' kk => ?_) ?_
      · refine ⟨_, rfl, _, _, rfl, rfl, by walk_at "m", rfl, _, rfl, ite2 (fun _ => ?_) (fun _ => ?_)⟩
        · have ek : (99 : Int) + (0 + (i : Int)) = ((99 + i : Nat) : Int) := by omega
          refine ⟨_, rfl, _, rfl, _, _, rfl, rfl, c, 99 + i, (by show [V.int c, V.int ((99 : Int) + (0 + (i : Int)))] = _; rw [ek]), hsm, by omega, fun mm => ⟨_, _, rfl, rfl, by walk_at "m", _, _, rfl, rfl, ?_⟩⟩
          dsimp only [gName]
          have m0 : 0 ≤ mm % 12 := Int.emod_nonneg _ (by decide)
          have m1 : mm % 12 < 12 := Int.emod_lt_of_pos _ (by decide)
          generalize hlg : (1 : Int) + mm % 12 = lg
          refine seq_use (fun v H' => ∃ (l : Addr) (ns : List Int), v = .ref l ∧ H' l = some (.lst (ns.map V.int)) ∧ (∀ n ∈ ns, ∃ y, n = y % 26) ∧ ns.length ≤ 12 ∧ Same H6 H') (fun Q2 k2 => ?_) ?_
          · refine ⟨_, rfl, lg, rfl, by omega, by omega, ?_⟩
            refine comp1_wk (wk_range 0 lg.toNat) (fun j ys H' => H' = H6 ∧ ∃ ns : List Int, ys = ns.map V.int ∧ ns.length = j ∧ ∀ n ∈ ns, ∃ y, n = y % 26) ⟨rfl, [], rfl, rfl, by simp⟩ (fun j ys H' _ p => ⟨trivial, by obtain ⟨_, ns, e, el, _⟩ := p; rw [e, List.length_map, el]; exact Nat.le_refl _⟩) (by rw [rangeV_length]; exact Nat.le_trans (show lg.toNat ≤ 1000 by omega) (by decide)) ?_ ?_
            · rintro j x ys' H' Nx hx ⟨rfl, ns, rfl, hl, hall⟩ hN
              have hj := (List.getElem?_eq_some_iff.mp hx).1
              rw [rangeV_length] at hj
              obtain ⟨m, hm, rfl⟩ := List.mem_map.mp (List.mem_of_getElem? hx)
              have hm1 := List.mem_range.mp hm
              refine tTrue_use ?_
              have ek : 12 * (0 + (i : Int)) + (0 + (m : Int)) = ((12 * i + m : Nat) : Int) := by omega
              refine ⟨_, rfl, _, rfl, _, _, rfl, rfl, .inl ⟨by decide, by decide⟩, _, rfl, _, _, rfl, rfl, c, 12 * i + m, (by show [V.int c, V.int (12 * (0 + (i : Int)) + (0 + (m : Int)))] = _; rw [ek]), hsm, by omega, fun mm2 => ⟨_, _, rfl, rfl, by walk_at "m", hN _ _ ⟨rfl, ns ++ [mm2 % 26], by simp, by simp [hl], fun n hn => ?_⟩⟩⟩
              rcases List.mem_append.mp hn with h | h
              · exact hall n h
              · exact ⟨mm2, List.mem_singleton.mp h⟩
            · rintro ys' H' ⟨rfl, ns, rfl, hl, hall⟩ p hp
              refine k2 _ _ ⟨p, ns, rfl, upd_same, hall, ?_, same_of hp⟩
              rw [rangeV_length] at hl
              omega
          rintro _ H7 ⟨l7, ns, rfl, e7, hall, ln, s7⟩
          dsimp only [gName]
          refine ⟨_, rfl, l7, rfl, ⟨_, SqL.of e7⟩, ?_⟩
          refine comp1_wk (wk_list K l7 (ns.map V.int)) (fun j ys H' => H' = H7 ∧ ys.length = j ∧ Signs ys) ⟨rfl, rfl, .nil⟩ (fun j ys H' _ p => ⟨by rw [p.1]; exact SqL.of e7, Nat.le_of_eq p.2.1⟩) (by rw [List.length_map]; exact Nat.le_trans ln (by decide)) ?_ ?_
          · rintro j x ys' H' Nx hx ⟨rfl, hl, ht⟩ hN
            rw [List.getElem?_map] at hx
            obtain ⟨n, hn, rfl⟩ := Option.map_eq_some_iff.mp hx
            obtain ⟨y, rfl⟩ := hall n (List.mem_of_getElem? hn)
            refine tTrue_use ?_
            obtain ⟨cc, hc⟩ := let_at (i := y)
            exact ⟨_, rfl, _, rfl, _, _, cc, rfl, rfl, by decide +kernel, hc, hN _ _ ⟨rfl, by simp [hl], ht.snoc⟩⟩
          · rintro ys' H' ⟨rfl, hl, ht⟩ p hp
            refine kk _ _ ⟨p, ys', _, upd_same, ht, ?_, (s6.trans s7).trans (same_of hp), rfl⟩
            rw [hl, List.length_map]
            exact ln
        · exact kk _ _ ⟨l6, u6, _, e6, sG6, lG6, s6, rfl⟩
      rintro σ' H8 ⟨l8, u8, v8'', e8, sG8, lG8, s8, rfl⟩
      obtain ⟨ts, rfl, ht8⟩ := sG8
      have hlt8 : ts.length ≤ 15 := by rw [List.length_map] at lG8; omega
      have hj := join_le "" ts hlt8 ht8
      have e0 : ("" : Str).length = 0 := by decide +kernel
      rw [e0] at hj
      refine ⟨_, rfl, .inl ⟨rfl, _, SqL.of (s8 _ _ eF)⟩, rfl, _, rfl, _, l8, ts, rfl, rfl, SqL.of e8, by rw [e0]; omega, F, _, _, rfl, rfl, s8 _ _ eF, by rw [List.length_map, lF]; exact Nat.lt_of_lt_of_le (show i < 1000 by omega) (by decide), ?_⟩
      refine ⟨zs ++ [Txt.join "" ts], _, _, _, ?_, by rw [List.length_append, lF]; rfl, fun y hy => ?_, ?_, (s3.trans s8).upd newF, rfl⟩
      · rw [upd_same, List.map_append]
        rfl
      · rcases List.mem_append.mp hy with h | h
        · exact zF y h
        · rw [List.mem_singleton.mp h]
          exact txt_join_len _ _ (by rw [e0]; omega)
      · rw [upd_ne RF]
        exact s8 _ _ eR
    · rintro σ H3 ⟨zs, v6, v7, v8, eF, lF, zF, eR, s3, rfl⟩
      refine ⟨_, rfl, F, zs.map Sum.inr, rfl, ?_, ?_, rfl, _, rfl, ite2 (fun _ => ?_) (fun _ => ?_)⟩
      · rw [List.map_map]
        exact SqL.of eF
      · rw [List.length_map, lF]
        decide
      · exact ⟨_, rfl, q F zs _ s3 eF lF zF⟩
      · exact ⟨by show 8 ≤ sizeLine; decide, fun l hl => q l ["a", "ab", "abc", "b", "ba", "bb", "c", "cab"] _ (s3.trans (same_of hl)) upd_same rfl (by decide +kernel)⟩
end
end K10

set_option Elab.async false
set_option linter.all false
set_option maxRecDepth 100000
set_option maxHeartbeats 4000000
set_option pp.maxSteps 600
set_option pp.deepTerms false
namespace K10
open PySem L2 PyProof.Rows
def hv (m : Ls) (z : Str) : V := match m.by_ z with
  | some l => .ref l.at_
  | none => .non
def rowD (l : Lse) : L2.D := .t [.a (.int (l.num : Int)), .a (.int l.place), .a (.str l.worker), .a (.int l.turn), .a (.int l.fin)]
def hvD (m : Ls) (z : Str) : L2.D := match m.by_ z with
  | some l => rowD l
  | none => .a .non
def stD (m : Ls) (zs : List Str) : L2.D := .l [.a (.int (m.given : Int)), .l (m.held.map rowD), .l (zs.map (hvD m)), .a (.int m.term)]
structure StateAt (H : Hp) (q : Addr) (m : Ls) (zs : List Str) : Prop where
  ex : ∃ r h, H q = some (.lst [.int (m.given : Int), .ref r, .ref h, .int m.term]) ∧ H r = some (.lst (m.held.map fun l => V.ref l.at_)) ∧ H h = some (.lst (zs.map (hv m)))
  row : ∀ l ∈ m.held, H l.at_ = some (.tup l.row)
theorem StateAt.same {H H' : Hp} {q : Addr} {m : Ls} {zs : List Str} (h : StateAt H q m zs) (s : Same H H') : StateAt H' q m zs := by
  obtain ⟨⟨r, hh, a, b, c⟩, d⟩ := h
  exact ⟨⟨r, hh, s _ _ a, s _ _ b, s _ _ c⟩, fun l hl => s _ _ (d l hl)⟩
theorem row_rep {K : PySem.W.Frag} {H : Hp} {l : Lse} (h : H l.at_ = some (.tup l.row)) : Rep K H (.ref l.at_) (rowD l) :=
  .t (SqT.of h) (.cons (.a rfl) (.cons (.a rfl) (.cons (.a rfl) (.cons (.a rfl) (.cons (.a rfl) .nil)))))
theorem StateAt.rep {K : PySem.W.Frag} {H : Hp} {q : Addr} {m : Ls} {zs : List Str} (h : StateAt H q m zs) : Rep K H (.ref q) (stD m zs) := by
  obtain ⟨⟨r, hh, a, b, c⟩, d⟩ := h
  refine .l (SqL.of a) (.cons (.a rfl) (.cons (.l (SqL.of b) ?_) (.cons (.l (SqL.of c) ?_) (.cons (.a rfl) .nil))))
  · have : ∀ hs : List Lse, (∀ l ∈ hs, H l.at_ = some (.tup l.row)) → Reps K H (hs.map fun l => V.ref l.at_) (hs.map rowD) := fun hs => by
      induction hs with
      | nil => intro _; exact .nil
      | cons x r ih => intro h; exact .cons (row_rep (h x (by simp))) (ih fun l hl => h l (by simp [hl]))
    exact this _ d
  · have : ∀ zs : List Str, Reps K H (zs.map (hv m)) (zs.map (hvD m)) := fun zs => by
      induction zs with
      | nil => exact .nil
      | cons x r ih =>
        refine .cons ?_ ih
        unfold hv hvD
        cases e : m.by_ x with
        | none => exact .a rfl
        | some l => exact row_rep (d l (by_some e).1)
    exact this zs
theorem dep_rows (hs : List Lse) : depDs (hs.map rowD) ≤ 1 := by
  induction hs with
  | nil => show depDs [] ≤ 1; unfold depDs; decide
  | cons x r ih =>
    rw [List.map_cons]
    unfold depDs
    have : depD (rowD x) = 1 := by simp [rowD, depD, depDs]
    omega
theorem dep_hv (m : Ls) (zs : List Str) : depDs (zs.map (hvD m)) ≤ 1 := by
  induction zs with
  | nil => show depDs [] ≤ 1; unfold depDs; decide
  | cons x r ih =>
    rw [List.map_cons]
    unfold depDs
    have : depD (hvD m x) ≤ 1 := by
      unfold hvD
      cases m.by_ x with
      | none => simp [depD]
      | some l => simp [rowD, depD, depDs]
    omega
theorem dep_st (m : Ls) (zs : List Str) : depD (stD m zs) ≤ 60 := by
  have h1 := dep_rows m.held
  have h2 := dep_hv m zs
  simp only [stD, depD, depDs]
  omega
theorem st_eq {K : PySem.W.Frag} {H : Hp} {q : Addr} {m : Ls} {zs : List Str} (h : StateAt H q m zs) : eqD (stD m zs) (stD m zs) = true := eqD_refl _ (h.rep (K := K)).flat
/-- no lease of that number is held, nor will be -/
def Gn (m : Ls) (n : Nat) : Prop := m.of (.int (n : Int)) = none ∧ n < m.given
theorem Gn.take {m : Ls} {n : Nat} (h : Gn m n) {a : Int} {z : Str} {u : Int} {T : Addr} : Gn (m.take a z u T) n := by
  refine ⟨List.find?_eq_none.mpr fun l hl => ?_, Nat.lt_succ_of_lt h.2⟩
  rcases List.mem_append.mp hl with h1 | h1
  · have := of_none h.1 l h1
    simpa using this
  · rw [List.mem_singleton.mp h1]
    have := h.2
    simp
    omega
theorem Gn.close {m : Ls} {n : Nat} (h : Gn m n) (l : Lse) : Gn (m.close l) n := by
  refine ⟨List.find?_eq_none.mpr fun l' hl => ?_, h.2⟩
  have := of_none h.1 l' (List.mem_filter.mp hl).1
  simpa using this
theorem Gn.closed {m : Ls} (ok : m.Ok) {l : Lse} (h : l ∈ m.held) : Gn (m.close l) l.num := by
  refine ⟨List.find?_eq_none.mpr fun l' hl => ?_, ok.lt l h⟩
  have : l'.num ≠ l.num := by simpa using (List.mem_filter.mp hl).2
  simp
  omega
theorem by_close {m : Ls} (ok : m.Ok) {l : Lse} (h : l ∈ m.held) : (m.close l).by_ l.worker = none := by
  refine List.find?_eq_none.mpr fun l' hl => ?_
  have h1 := (List.mem_filter.mp hl).1
  have h2 : l'.num ≠ l.num := by simpa using (List.mem_filter.mp hl).2
  simp
  intro e
  exact h2 (by rw [wk_inj ok.wk l' h1 l h e])
theorem int_at {zs : List Str} {i : Int} (h8 : zs.length = 8) : ∃ z, atI (zs.map V.str) (i % 8) = some (.str z) ∧ z ∈ zs := by
  obtain ⟨v, hv, hm, _⟩ := atI_mem (xs := zs.map V.str) (i := i % 8) (Int.emod_nonneg _ (by decide)) (by rw [List.length_map, h8]; exact Int.emod_lt_of_pos _ (by decide))
  obtain ⟨z, hz, rfl⟩ := List.mem_map.mp hm
  exact ⟨z, hv, hz⟩
section
variable {P : Program} {w : World} {K : PySem.W.Frag} {mg : Str → Option Value} {base : Heap} {C : Addr} {D : Nat → Addr} {R : Nat → Prop}
def spRefused (K : PySem.W.Frag) (C : Addr) : Sp := fun vs H Q _ => ∃ (p hd : Addr) (m : Ls) (way : Nat) (x : V) (u : Int), vs = [.ref p, .int (way : Int), x, .int u] ∧ LsAt C H p hd m ∧ m.given < 1000 ∧ way < 4 ∧ Any K H x ∧ (way = 3 → ∃ z, x = .str z) ∧
  (way < 3 → m.of x = none → ∀ H', Same H H' → Q (.str "gone") H') ∧ (way = 0 → ∀ l, m.of x = some l → ∀ H', Same H H' → Q (.str "") H') ∧
  (way = 1 → ∀ l, m.of x = some l → ∀ T H', Chg [p, hd] H H' → LsAt C H' p hd (m.renew l u T) → Q (.str "") H') ∧ (way = 2 → ∀ l, m.of x = some l → ∀ H', Chg [p, hd] H H' → LsAt C H' p hd (m.close l) → Q (.str "") H') ∧
  (way = 3 → ∀ z, x = .str z → (∀ l, m.by_ z = some l → ∀ H', Same H H' → Q (.str "busy") H') ∧ (m.by_ z = none → ∀ T H', Chg [p, hd] H H' → LsAt C H' p hd (m.take 7 z u T) → Q (.str "") H'))
theorem ok_refused (Df : Def K mg "_law_refused" s__law_refused ["_law_house", "_law_way", "_law_thing", "_law_turn"]) (S : LCls K mg C) (CH : Addr) (gH : mg "HallError" = some (.ref CH)) (ex : ∀ r, r < 3 → PySem.W.exmOne K (.ref (D r)) (.ref CH) = some true) (hR : ∀ r, r < 3 → R r)
    (km_of : KnowsM (CX1 P w base) P w K mg base 2 C "of" ["self", "number"] (spOf K C D)) (km_renew : KnowsM (CX1 P w base) P w K mg base 3 C "renew" ["self", "number", "turn"] (spRenew K C D)) (km_close : KnowsM (CX1 P w base) P w K mg base 3 C "close" ["self", "number"] (spClose K C D))
    (km_take : KnowsM (CX1 P w base) P w K mg base 2 C "take" ["self", "place", "worker", "turn"] (spTake C D)) (k_word : KnowsQ P w K mg base 1 "_law_word" ["_law_e"] (spWord D R)) :
    Knows P w K mg base 4 "_law_refused" ["_law_house", "_law_way", "_law_thing", "_law_turn"] (spRefused K C) := by
  refine Df.ok sc__law_refused (fun vs H Q E h => ?_) (fun f cdv A outer s H vs Q E hr h => ?_)
  · obtain ⟨p, hd, m, way, x, u, rfl, _⟩ := h
    rfl
  · obtain ⟨p, hd, m, way, x, u, rfl, L, hlt, hw, an, hx, qg, q0, q1, q2, q3⟩ := h
    obtain ⟨dx, hp⟩ := L.obj
    refine ⟨_, by exact (pss_cons (ps_tryAs (i := 4) rfl rfl gH (fun _ => PassesOwnAt.never) sc__law_refused.nd rfl rfl (fun Eb pn xe hL => pss_one (ps_if (pt_cmpR op_eq (pv 1) pe_int (nomark _)) (pss_one (ps_expr (pe_methS km_of S.cl hr hL (pv 0) (pa_c (pv 2) pa_nil))))
        (pss_one (ps_if (pt_cmpR op_eq (pv 1) pe_int (nomark _)) (pss_one (ps_expr (pe_methS km_renew S.cl hr hL (pv 0) (pa_c (pv 2) (pa_c (pv 3) pa_nil)))))
          (pss_one (ps_if (pt_cmpR op_eq (pv 1) pe_int (nomark _)) (pss_one (ps_expr (pe_methS km_close S.cl hr hL (pv 0) (pa_c (pv 2) pa_nil)))) (pss_one (ps_expr (pe_methS km_take S.cl hr hL (pv 0) (pa_c pe_int (pa_c (pv 2) (pa_c (pv 3) pa_nil)))))))))))) 
      (fun a => pss_one (ps_ret (pe_callQ k_word (hr.q.mark _) (pa_c (pv 4) pa_nil))))) (pss_one (ps_ret pe_str))), ?_⟩
    refine ⟨fun σ' C' o H' => ∃ r, r < 3 ∧ C' = .ref (D r) ∧ o = none ∧ Same H H' ∧ σ'.length = 5 ∧ ∀ H2, Same H H2 → Q (.str (word r)) H2, ?_, ?_⟩
    · match way, hw with
      | 0, _ =>
        refine ⟨_, rfl, rfl, _, rfl, iteT ?_⟩
        exact ⟨_, rfl, p, dx, _, rfl, hp, rfl, _, rfl, p, hd, m, x, rfl, L, an, fun l hl => q0 rfl l hl _ (Same.refl _), fun hn => ⟨2, by decide, rfl, rfl, Same.refl _, rfl, qg (by decide) hn⟩⟩
      | 1, _ =>
        refine ⟨_, rfl, rfl, _, rfl, iteF ?_⟩
        refine ⟨_, rfl, rfl, _, rfl, iteT ?_⟩
        exact ⟨_, rfl, p, dx, _, rfl, hp, rfl, _, rfl, _, rfl, p, hd, m, x, u, rfl, L, hlt, an, fun l hl T H' ch L' => q1 rfl l hl T H' ch L', fun hn => ⟨2, by decide, rfl, rfl, Same.refl _, rfl, qg (by decide) hn⟩⟩
      | 2, _ =>
        refine ⟨_, rfl, rfl, _, rfl, iteF ?_⟩
        refine ⟨_, rfl, rfl, _, rfl, iteF ?_⟩
        refine ⟨_, rfl, rfl, _, rfl, iteT ?_⟩
        exact ⟨_, rfl, p, dx, _, rfl, hp, rfl, _, rfl, p, hd, m, x, rfl, L, an, fun l hl H' ch L' _ => q2 rfl l hl H' ch L', fun hn => ⟨2, by decide, rfl, rfl, Same.refl _, rfl, qg (by decide) hn⟩⟩
      | 3, _ =>
        refine ⟨_, rfl, rfl, _, rfl, iteF ?_⟩
        refine ⟨_, rfl, rfl, _, rfl, iteF ?_⟩
        refine ⟨_, rfl, rfl, _, rfl, iteF ?_⟩
        obtain ⟨z, rfl⟩ := hx rfl
        obtain ⟨qa, qb⟩ := q3 rfl z rfl
        exact ⟨_, rfl, p, dx, _, rfl, hp, rfl, _, rfl, _, rfl, p, hd, m, 7, z, u, rfl, L, hlt, fun l hl H' s' => ⟨1, by decide, rfl, rfl, s', rfl, qa l hl⟩, fun hn T H' ch L' => qb hn T H' ch L'⟩
    · rintro σ' C' H' ⟨r, hr3, e1, _, s1, hl, fin⟩
      cases e1
      refine ⟨ex r hr3, fun a ha => ?_⟩
      have ea : (upd H' a (ExcO a (D r))) a = some (ExcO a (D r)) := upd_same
      have sa : Same H' (upd H' a (ExcO a (D r))) := same_of ha
      refine ⟨.ref a, ?_, ⟨a, D r, rfl, ea⟩, a, r, rfl, by omega, hR r hr3, ea, fun H2 s2 => fin H2 ((s1.trans sa).trans s2)⟩
      rw [List.getElem?_set_self (by omega)]
def spMade (K : PySem.W.Frag) : Sp := fun vs H Q _ => ∃ x, vs = [x] ∧ Any K H x ∧ (amongV x 2 1000 = false → ∀ H', Same H H' → Q (.str "term") H') ∧ (amongV x 2 1000 = true → ∀ H', Same H H' → Q (.str "") H')
theorem ok_made (Df : Def K mg "_law_made" s__law_made ["_law_term"]) (S : LCls K mg C) (CH : Addr) (gH : mg "HallError" = some (.ref CH)) (ex : ∀ r, r < 3 → PySem.W.exmOne K (.ref (D r)) (.ref CH) = some true) (hR : ∀ r, r < 3 → R r)
    (ki : KnowsI (CX1 P w base) P w K mg base 4 C ["self", "term"] (spInit K C D)) (k_word : KnowsQ P w K mg base 1 "_law_word" ["_law_e"] (spWord D R)) : Knows P w K mg base 6 "_law_made" ["_law_term"] (spMade K) := by
  refine Df.ok sc__law_made (fun vs H Q E h => ?_) (fun f cdv A outer s H vs Q E hr h => ?_)
  · obtain ⟨x, rfl, _⟩ := h
    rfl
  · obtain ⟨x, rfl, an, q1, q2⟩ := h
    refine ⟨_, by exact (pss_cons (ps_tryAs (i := 1) rfl rfl gH (fun _ => PassesOwnAt.never) sc__law_made.nd rfl rfl (fun Eb pn xe hL => pss_one (ps_expr (pe_makeS ki hr S.mgC hL (pa_c (pv 0) pa_nil))))
      (fun a => pss_one (ps_ret (pe_callQ k_word (hr.q.mark _) (pa_c (pv 1) pa_nil))))) (pss_one (ps_ret pe_str))), ?_⟩
    refine ⟨fun σ' C' o H' => C' = .ref (D 0) ∧ o = none ∧ Same H H' ∧ σ'.length = 2 ∧ amongV x 2 1000 = false, ?_, ?_⟩
    · refine ⟨_, rfl, fun y dx hy hdx hne => ?_⟩
      have sy : Same H (upd (upd H dx (.own y)) y (.ins C dx [])) := fun b o e => by
        rw [upd_ne (ne_of_none e hy), upd_ne (ne_of_none e hdx)]
        exact e
      refine ⟨y, dx, x, rfl, upd_same, an.same sy, fun t _ hb hd H' ch _ => ⟨rfl, q2 hb H' fun b o e => ch b o (fun z => ?_) (sy _ _ e)⟩, fun hf => ⟨rfl, rfl, sy, rfl, hf⟩⟩
      rw [List.mem_singleton.mp z, hy] at e
      cases e
    · rintro σ' C' H' ⟨e1, _, s1, hl, hf⟩
      cases e1
      refine ⟨ex 0 (by decide), fun a ha => ?_⟩
      have ea : (upd H' a (ExcO a (D 0))) a = some (ExcO a (D 0)) := upd_same
      have sa : Same H' (upd H' a (ExcO a (D 0))) := same_of ha
      refine ⟨.ref a, ?_, ⟨a, D 0, rfl, ea⟩, a, 0, rfl, by decide, hR 0 (by decide), ea, fun H2 s2 => q1 hf H2 ((s1.trans sa).trans s2)⟩
      rw [List.getElem?_set_self (by omega)]
def spState (C : Addr) : Sp := fun vs H Q _ => ∃ (p hd nl : Addr) (m : Ls) (zs : List Str), vs = [.ref p, .ref nl] ∧ LsAt C H p hd m ∧ H nl = some (.lst (zs.map V.str)) ∧ zs.length = 8 ∧ ∀ q H', Same H H' → StateAt H' q m zs → Q (.ref q) H'
theorem ok_state (Df : Def K mg "_law_state" s__law_state ["_law_house", "_law_names_here"]) (S : LCls K mg C) (km_holder : KnowsM CX0 P w K mg base 1 C "holder" ["self", "worker"] (spHolder C)) (km_rows : KnowsM CX0 P w K mg base 1 C "rows" ["self"] (spRows C)) :
    Knows P w K mg base 2 "_law_state" ["_law_house", "_law_names_here"] (spState C) := by
  refine Df.ok sc__law_state (fun vs H Q E h => ?_) (fun f cdv A outer s H vs Q E hr h => ?_)
  · obtain ⟨p, hd, nl, m, zs, rfl, _⟩ := h
    rfl
  · obtain ⟨p, hd, nl, m, zs, rfl, L, hn, h8, q⟩ := h
    obtain ⟨dx, hp⟩ := L.obj
    refine ⟨_, by exact (pss_one (ps_ret (pe_lst (pa_c (pe_fld (pv 0) rfl) (pa_c (pe_methM0 km_rows S.cl hr pass0 (pv 0)) (pa_c (pe_comp1 [0] ["_law_name", "_law_house"] rfl (pi_list (pv 1)) (fun _ _ _ _ => pts_nil) (fun _ _ _ _ => (pe_methM km_holder S.cl hr pass0 (pv 1) (pa_c (pv 0) pa_nil)))) (pa_c (pe_fld (pv 0) rfl) pa_nil))))))), ?_⟩
    refine ⟨_, rfl, p, C, dx, _, _, rfl, hp, S.cl, S.n2, rfl, _, rfl, p, dx, _, rfl, hp, rfl, p, hd, m, rfl, L, fun r H1 s1 nr e1 => ?_⟩
    refine ⟨_, rfl, nl, rfl, ⟨_, SqL.of (s1 _ _ hn)⟩, ?_⟩
    refine comp1_wk (wk_list K nl (zs.map V.str)) (fun i ys H' => Same H1 H' ∧ ys = (zs.take i).map (hv m)) ⟨Same.refl _, rfl⟩ (fun i ys H' _ h => ⟨SqL.of (h.1 _ _ (s1 _ _ hn)), by rw [h.2, List.length_map, List.length_take]; omega⟩) (by rw [List.length_map, h8]; decide) (fun i x ys H' Nx hx h kn => ?_) (fun ys H' h Dd hD => ?_)
    · obtain ⟨s2, rfl⟩ := h
      rw [List.getElem?_map] at hx
      obtain ⟨z, hz, rfl⟩ := Option.map_eq_some_iff.mp hx
      refine tTrue_use ?_
      have s12 := s1.trans s2
      have step : ∀ v H2, Same H' H2 → v = hv m z → Nx ((zs.take i).map (hv m) ++ [v]) H2 := fun v H2 s3 e => kn _ _ ⟨s2.trans s3, by rw [List.take_add_one, hz, List.map_append, e]; rfl⟩
      refine ⟨_, rfl, p, dx, _, rfl, s12 _ _ hp, rfl, _, rfl, p, hd, m, z, rfl, L.same s12, fun l hl H2 s3 => step _ H2 s3 ?_, fun hn H2 s3 => step _ H2 s3 ?_⟩
      · unfold hv
        rw [hl]
      · unfold hv
        rw [hn]
    · obtain ⟨s2, rfl⟩ := h
      have s3 : Same H' (upd H' Dd (.lst ((zs.take (zs.map V.str).length).map (hv m)))) := same_of hD
      have e3 : (upd H' Dd (.lst ((zs.take (zs.map V.str).length).map (hv m)))) Dd = some (.lst (zs.map (hv m))) := by rw [upd_same, List.length_map, List.take_length]
      generalize upd H' Dd (.lst ((zs.take (zs.map V.str).length).map (hv m))) = H3 at s3 e3
      have s13 := (s1.trans s2).trans s3
      refine ⟨_, rfl, p, C, dx, _, _, rfl, s13 _ _ hp, S.cl, S.n1, rfl, by show 4 ≤ sizeLine; decide, fun qq hq => ?_⟩
      exact q qq _ (s13.trans (same_of hq)) ⟨⟨r, Dd, upd_same, same_of hq _ _ ((s2.trans s3) _ _ e1), same_of hq _ _ e3⟩, fun l hl => same_of hq _ _ (s13 _ _ (L.row l hl))⟩
def spGone (K : PySem.W.Frag) (C : Addr) : Sp := fun vs H Q _ => ∃ (p hd : Addr) (m : Ls) (x : V) (n : Int), vs = [.ref p, x, .int n] ∧ LsAt C H p hd m ∧ m.given < 1000 ∧ Any K H x ∧ m.of x = none ∧ ∀ H', Same H H' → Q (.bl true) H'
theorem ok_gone (Df : Def K mg "_law_all_gone" s__law_all_gone ["_law_house", "_law_thing", "_law_cell"]) (B : Bw mg) (k_refused : Knows P w K mg base 4 "_law_refused" ["_law_house", "_law_way", "_law_thing", "_law_turn"] (spRefused K C)) :
    Knows P w K mg base 5 "_law_all_gone" ["_law_house", "_law_thing", "_law_cell"] (spGone K C) := by
  refine Df.ok sc__law_all_gone (fun vs H Q E h => ?_) (fun f cdv A outer s H vs Q E hr h => ?_)
  · obtain ⟨p, hd, m, x, n, rfl, _⟩ := h
    rfl
  · obtain ⟨p, hd, m, x, n, rfl, L, hlt, an, hno, q⟩ := h
    refine ⟨_, by exact (pss_cons (ps_for PassesOwn.never rfl (pi_range1 rfl B.b.range (pa_c pe_int pa_nil)) (pg_name (i := 3) sc__law_all_gone.nd rfl (Or.inl rfl)) (pss_one (ps_if (pt_cmpR op_ne (pe_callM k_refused hr (pa_c (pv 0) (pa_c (pe_op op_mod (pe_op op_add (pv 2) (pe_op op_mul (pv 3) (pe_ix ix_list (pe_lst (pa_c pe_int (pa_c pe_int pa_nil))) (pe_op op_mod (pe_op op_fdiv (pv 2) pe_int) pe_int) (fun _ _ => rfl)))) pe_int) (pa_c (pv 1) (pa_c (pe_op op_add pe_int (pe_op op_mod (pv 2) pe_int)) pa_nil))))) pe_str (nomark _)) (pss_one (ps_ret pe_bl)) pss_nil)))
      (pss_one (ps_ret pe_bl))), ?_⟩
    refine ⟨3, rfl, by decide, by decide, ?_⟩
    refine for_range (n := 3) (fun i σ H1 => Same H H1 ∧ ∃ v3, σ = [some (.ref p), some x, some (.int n), v3]) ⟨Same.refl _, _, rfl⟩ ?_ (fun σ H1 h => q _ h.1)
    rintro i σ H1 hi ⟨s1, v3, rfl⟩
    refine ⟨_, rfl, _, rfl, _, rfl, by show 2 ≤ sizeLine; decide, fun l hl => ?_⟩
    have s2 : Same H (upd H1 l (.lst [.int 1, .int 2])) := s1.trans (same_of hl)
    obtain ⟨v, hv, hm, _⟩ := atI_mem (xs := [V.int 1, .int 2]) (i := n / 3 % 2) (Int.emod_nonneg _ (show (2 : Int) ≠ 0 by decide)) (Int.emod_lt_of_pos _ (show (0 : Int) < 2 by decide))
    have hv2 : ∃ t : Int, v = .int t ∧ 1 ≤ t ∧ t ≤ 2 := by
      simp only [List.mem_cons, List.not_mem_nil, or_false] at hm
      rcases hm with rfl | rfl
      · exact ⟨1, rfl, by decide, by decide⟩
      · exact ⟨2, rfl, by decide, by decide⟩
    obtain ⟨t, rfl, t1, t2⟩ := hv2
    refine ⟨_, rfl, _, _, rfl, rfl, by walk_at "m", _, _, rfl, rfl, by walk_at "m", l, _, _, _, rfl, rfl, SqL.of upd_same, hv, _, _, rfl, rfl, .inl ⟨by omega, by omega⟩, _, _, rfl, rfl, _, _, rfl, rfl, by walk_at "m", _, rfl, _, rfl, _, _, rfl, rfl, by walk_at "m", _, _, rfl, rfl, ?_⟩
    generalize upd H1 l (.lst [.int 1, .int 2]) = H2 at s2
    have w0 := Int.emod_nonneg (n + (0 + (i : Int)) * t) (show (3 : Int) ≠ 0 by decide)
    have w1 := Int.emod_lt_of_pos (n + (0 + (i : Int)) * t) (show (0 : Int) < 3 by decide)
    have ew : ∃ way : Nat, (n + (0 + (i : Int)) * t) % 3 = (way : Int) ∧ way < 3 := ⟨((n + (0 + (i : Int)) * t) % 3).toNat, by omega, by omega⟩
    obtain ⟨way, ew, hw⟩ := ew
    refine ⟨p, hd, m, way, x, _, by show [V.ref p, V.int ((n + (0 + (i : Int)) * t) % 3), x, _] = _; rw [ew], L.same s2, hlt, by omega, an.same s2, (fun h => by omega), fun _ _ H3 s3 => ?_, (fun h l hl => by rw [hno] at hl; cases hl), (fun h l hl => by rw [hno] at hl; cases hl), (fun h l hl => by rw [hno] at hl; cases hl), (fun h => by omega)⟩
    exact ⟨rfl, _, rfl, iteF ⟨s2.trans s3, _, rfl⟩⟩
end
end K10

set_option Elab.async false
set_option linter.all false
set_option maxRecDepth 100000
set_option maxHeartbeats 4000000
set_option pp.maxSteps 600
set_option pp.deepTerms false
namespace K10
open PySem L2 PyProof.Rows
theorem LsAt.lst {C p hd F : Addr} {H : Hp} {m : Ls} {xs ys : List V} (h : LsAt C H p hd m) (hF : H F = some (.lst xs)) : LsAt C (upd H F (.lst ys)) p hd m := by
  obtain ⟨⟨dx, a⟩, b, c, d⟩ := h
  exact ⟨⟨dx, by rw [upd_ne (fun z => by rw [z, hF] at a; cases a)]; exact a⟩, by rw [upd_ne (fun z => by rw [z, hF] at b; cases b)]; exact b, fun l hl => by
    have e := c l hl
    rw [upd_ne (fun z => by rw [z, hF] at e; cases e)]
    exact e, d⟩
theorem LsAt.keepL {C p hd a : Addr} {H H' : Hp} {m : Ls} {xs : List V} (L : LsAt C H p hd m) (ch : Chg [p, hd] H H') (e : H a = some (.lst xs)) : H' a = some (.lst xs) := by
  obtain ⟨dx, hp⟩ := L.obj
  refine ch a _ (fun z => ?_) e
  simp only [List.mem_cons, List.not_mem_nil, or_false] at z
  rcases z with rfl | rfl
  · rw [hp] at e; cases e
  · rw [L.tab] at e; cases e
theorem LsAt.keepT {C p hd a : Addr} {H H' : Hp} {m : Ls} {xs : List V} (L : LsAt C H p hd m) (ch : Chg [p, hd] H H') (e : H a = some (.tup xs)) : H' a = some (.tup xs) := by
  obtain ⟨dx, hp⟩ := L.obj
  refine ch a _ (fun z => ?_) e
  simp only [List.mem_cons, List.not_mem_nil, or_false] at z
  rcases z with rfl | rfl
  · rw [hp] at e; cases e
  · rw [L.tab] at e; cases e
def natsV (cs : List Nat) : List V := cs.map fun n : Nat => V.int (n : Int)
section
variable {P : Program} {w : World} {K : PySem.W.Frag} {mg : Str → Option Value} {base : Heap} {C : Addr} {D : Nat → Addr} {R : Nat → Prop}
def spFilled (C : Addr) : Sp := fun vs H Q _ => ∃ (p hd cl nl : Addr) (m : Ls) (ns : List Int) (zs : List Str), vs = [.ref p, .ref cl, .ref nl] ∧ LsAt C H p hd m ∧ m.given + ns.length < 500 ∧ H cl = some (.lst (ns.map V.int)) ∧ H nl = some (.lst (zs.map V.str)) ∧ zs.length = 8 ∧
  ∀ l cs m' H', Chg [p, hd] H H' → LsAt C H' p hd m' → H' l = some (.lst (natsV cs)) → (∀ n ∈ cs, Gn m' n) → m'.given ≤ m.given + ns.length → cs.length ≤ ns.length → Q (.ref l) H'
theorem ok_filled (Df : Def K mg "_law_filled" s__law_filled ["_law_house", "_law_cells", "_law_names_here"]) (B : Bw mg) (S : LCls K mg C) (km_holder : KnowsM CX0 P w K mg base 1 C "holder" ["self", "worker"] (spHolder C)) (km_close : KnowsM (CX1 P w base) P w K mg base 3 C "close" ["self", "number"] (spClose K C D))
    (km_take : KnowsM (CX1 P w base) P w K mg base 2 C "take" ["self", "place", "worker", "turn"] (spTake C D)) : Knows P w K mg base 4 "_law_filled" ["_law_house", "_law_cells", "_law_names_here"] (spFilled C) := by
  refine Df.ok sc__law_filled (fun vs H Q E h => ?_) (fun f cdv A outer s H vs Q E hr h => ?_)
  · obtain ⟨p, hd, cl, nl, m, ns, zs, rfl, _⟩ := h
    rfl
  · obtain ⟨p, hd, cl, nl, m, ns, zs, rfl, L, hlt, hcl, hnl, h8, q⟩ := h
    refine ⟨_, by exact (pss_cons (ps_set (i := 3) sc__law_filled.nd rfl (Or.inl rfl) (pe_lst pa_nil))
      (pss_cons (ps_for PassesOwn.never rfl (pi_enum B.enum (pv 1)) (pg_tup rfl (pgs_cons (pg_name (i := 4) sc__law_filled.nd rfl (Or.inl rfl)) (pgs_cons (pg_name (i := 5) sc__law_filled.nd rfl (Or.inl rfl)) pgs_nil))) (pss_cons (ps_set (i := 6) sc__law_filled.nd rfl (Or.inl rfl) (pe_ix ix_list (pv 2) (pe_op op_mod (pv 5) pe_int) (fun _ _ => rfl)))
      (pss_cons (ps_if (pt_cmpR op_notN (pe_methM km_holder S.cl hr pass0 (pv 0) (pa_c (pv 6) pa_nil)) pe_non (nomark _)) (pss_one (ps_expr (pe_mcall PySem.F.plainAttrs_list PySem.F.slot_list_append PySem.F.type_list_append mt_append (pv 3) (pa_c (pe_ix ix_tup (pe_methM km_close S.cl hr pass1N (pv 0) (pa_c (pe_ix ix_tup (pe_methM km_holder S.cl hr pass0 (pv 0) (pa_c (pv 6) pa_nil)) pe_int (fun _ _ => rfl)) pa_nil)) pe_int (fun _ _ => rfl)) pa_nil)))) pss_nil)
      (pss_one (ps_expr (pe_methM km_take S.cl hr pass1N (pv 0) (pa_c (pe_op op_mod (pe_op op_fdiv (pv 5) pe_int) pe_int) (pa_c (pv 6) (pa_c (pv 4) pa_nil)))))))))
      (pss_one (ps_ret (pv 3))))), ?_⟩
    refine ⟨by decide, fun F hF => ?_⟩
    dsimp only [gName]
    have s1 : Same H (upd H F (.lst [])) := same_of hF
    have e1 : (upd H F (.lst [])) F = some (.lst (natsV [])) := upd_same
    generalize upd H F (.lst []) = H1 at s1 e1
    have L1 := L.same s1
    have hcl1 := s1 _ _ hcl
    have hnl1 := s1 _ _ hnl
    have nF : ∀ b u, H b = some u → b ≠ F := fun b u e => ne_of_none e hF
    refine ⟨_, rfl, cl, rfl, ⟨_, SqL.of hcl1⟩, ?_⟩
    refine for_enum (xs := ns.map V.int) (fun i σ H' => ∃ (m' : Ls) (cs : List Nat) (v4 v5 v6 : Option V), Chg [p, hd, F] H1 H' ∧ LsAt C H' p hd m' ∧ H' F = some (.lst (natsV cs)) ∧ (∀ n ∈ cs, Gn m' n) ∧ m'.given ≤ m.given + i ∧ cs.length ≤ i ∧ H' cl = some (.lst (ns.map V.int)) ∧ H' nl = some (.lst (zs.map V.str)) ∧ σ = [some (.ref p), some (.ref cl), some (.ref nl), some (.ref F), v4, v5, v6])
      ⟨m, [], _, _, _, fun b o _ e => e, L1, e1, (fun n hn => by cases hn), Nat.le_refl _, Nat.le_refl _, hcl1, hnl1, rfl⟩ (fun i σ H' _ h => ?_) ?_ ?_
    · obtain ⟨m', cs, v4, v5, v6, _, _, _, _, _, _, h, _⟩ := h
      exact SqL.of h
    · rintro i x σ H2 t0 hx ⟨m', cs, v4, v5, v6, ch, L2, eF, hG, hgv, hcs, ecl, enl, rfl⟩ ht0
      rw [List.getElem?_map] at hx
      obtain ⟨n, hn, rfl⟩ := Option.map_eq_some_iff.mp hx
      have hi : i < ns.length := (List.getElem?_eq_some_iff.mp hn).1
      refine ⟨t0, _, rfl, SqT.of upd_same, rfl, _, _, rfl, _, _, rfl, rfl, ?_⟩
      have sx : Same H2 (upd H2 t0 (.tup [.int (i : Int), .int n])) := same_of ht0
      generalize upd H2 t0 (.tup [.int (i : Int), .int n]) = H3 at sx
      replace ch : Chg [p, hd, F] H1 H3 := ch.trans (Chg.of sx)
      replace L2 := L2.same sx
      replace eF := sx _ _ eF
      replace ecl := sx _ _ ecl
      replace enl := sx _ _ enl
      obtain ⟨z, hz, hzm⟩ := int_at (i := n) h8
      refine ⟨_, rfl, _, rfl, _, _, rfl, rfl, by walk_at "m", nl, _, _, _, rfl, rfl, SqL.of enl, hz, ?_⟩
      dsimp only [gName]
      refine stm_use (t := tIfS _ _ _) (fun σ' H' => ∃ (m2 : Ls) (cs : List Nat), Chg [p, hd, F] H1 H' ∧ LsAt C H' p hd m2 ∧ H' F = some (.lst (natsV cs)) ∧ (∀ n ∈ cs, Gn m2 n) ∧ m2.given ≤ m.given + i ∧ cs.length ≤ i + 1 ∧ H' cl = some (.lst (ns.map V.int)) ∧ H' nl = some (.lst (zs.map V.str)) ∧ m2.by_ z = none ∧ σ' = [some (.ref p), some (.ref cl), some (.ref nl), some (.ref F), some (.int (i : Int)), some (.int n), some (.str z)]) (fun Q' kk => ?_) ?_
      · obtain ⟨dx, hp⟩ := L2.obj
        refine ⟨_, rfl, p, dx, _, rfl, hp, rfl, _, rfl, p, hd, m', z, rfl, L2, fun l hl H4 s4 => ?_, fun hnn H4 s4 => ?_⟩
        · refine ⟨rfl, _, rfl, iteT ?_⟩
          have L4 := L2.same s4
          obtain ⟨hmem, hwz⟩ := by_some hl
          refine ⟨_, rfl, .inl ⟨rfl, _, SqL.of (s4 _ _ eF)⟩, _, rfl, p, dx, _, rfl, s4 _ _ hp, rfl, _, rfl, p, dx, _, rfl, s4 _ _ hp, rfl, _, rfl, p, hd, m', z, rfl, L4, fun l' hl' H5 s5 => ?_, fun hnn => by rw [hl] at hnn; cases hnn⟩
          obtain rfl : l' = l := by rw [hl] at hl'; injection hl' with h; exact h.symm
          have L5 := L4.same s5
          refine ⟨l'.at_, _, _, _, rfl, rfl, SqT.of (L5.row l' hmem), atI_nat (j := 0) rfl, p, hd, m', .int (l'.num : Int), rfl, L5, .int, fun l2 hl2 H6 ch6 L6 hrow => ?_, fun hnn => by rw [of_mem L5.ok hmem] at hnn; cases hnn⟩
          obtain rfl : l2 = l' := by rw [of_mem L5.ok hmem] at hl2; injection hl2 with h; exact h.symm
          refine ⟨l2.at_, _, _, _, rfl, rfl, SqT.of hrow, atI_nat (j := 0) rfl, ?_⟩
          have eF6 := L5.keepL ch6 (s5 _ _ (s4 _ _ eF))
          refine ⟨F, _, _, rfl, rfl, eF6, by unfold natsV; rw [List.length_map]; exact Nat.lt_of_lt_of_le (show cs.length < 1000 by omega) (by decide), ?_⟩
          refine kk _ _ ⟨m'.close l2, cs ++ [l2.num], ?_, L6.lst eF6, ?_, fun n hn => ?_, hgv, ?_, ?_, ?_, ?_, rfl⟩
          · intro b o hb e
            have b3 : b ≠ F := fun zz => hb (by simp [zz])
            rw [upd_ne b3]
            exact ch6 b o (fun zz => hb (by simp at zz ⊢; rcases zz with h | h <;> simp [h])) (s5 _ _ (s4 _ _ (ch b o hb e)))
          · rw [upd_same]
            unfold natsV
            rw [List.map_append]
            rfl
          · rcases List.mem_append.mp hn with h | h
            · exact (hG n h).close l2
            · rw [List.mem_singleton.mp h]
              exact Gn.closed L5.ok hmem
          · rw [List.length_append]
            simp
            exact hcs
          · rw [upd_ne (nF _ _ hcl)]
            exact L5.keepL ch6 (s5 _ _ (s4 _ _ ecl))
          · rw [upd_ne (nF _ _ hnl)]
            exact L5.keepL ch6 (s5 _ _ (s4 _ _ enl))
          · rw [← hwz]
            exact by_close L5.ok hmem
        · refine ⟨rfl, _, rfl, iteF ?_⟩
          exact kk _ _ ⟨m', cs, ch.trans (Chg.of s4), L2.same s4, s4 _ _ eF, hG, hgv, by omega, s4 _ _ ecl, s4 _ _ enl, hnn, rfl⟩
      rintro σ' H7 ⟨m2, cs2, ch7, L7, eF7, hG7, hgv7, hcs7, ecl7, enl7, hno, rfl⟩
      obtain ⟨dx, hp⟩ := L7.obj
      refine ⟨_, rfl, p, dx, _, rfl, hp, rfl, _, rfl, _, _, rfl, rfl, by walk_at "m", _, _, rfl, rfl, by walk_at "m", _, rfl, _, rfl, p, hd, m2, _, z, _, rfl, L7, by omega, (fun l hl => by rw [hno] at hl; cases hl), fun _ T H8 ch8 L8 => ?_⟩
      refine ⟨_, cs2, _, _, _, ?_, L8, L7.keepL ch8 eF7, fun n hn => (hG7 n hn).take, ?_, hcs7, L7.keepL ch8 ecl7, L7.keepL ch8 enl7, rfl⟩
      · intro b o hb e
        exact ch8 b o (fun zz => hb (by simp at zz ⊢; rcases zz with h | h <;> simp [h])) (ch7 b o hb e)
      · show m2.given + 1 ≤ m.given + (i + 1)
        omega
    · rintro σ H2 ⟨m', cs, v4, v5, v6, ch, L2, eF, hG, hgv, hcs, ecl, enl, rfl⟩
      rw [List.length_map] at hgv hcs
      refine ⟨_, rfl, q F cs m' H2 (fun b o hb e => ch b o (fun zz => ?_) (s1 _ _ e)) L2 eF hG hgv hcs⟩
      simp at zz hb
      rcases zz with h | h | h
      · exact hb.1 h
      · exact hb.2 h
      · exact nF b o e h
def spNext (C : Addr) : Sp := fun vs H Q _ => ∃ (p hd nl : Addr) (m : Ls) (zs : List Str) (n : Int), vs = [.ref p, .ref nl, .int n] ∧ LsAt C H p hd m ∧ m.given < 500 ∧ H nl = some (.lst (zs.map V.str)) ∧ zs.length = 8 ∧ (∀ z ∈ zs, z.length ≤ 100) ∧ ∀ H', Q (.bl true) H'
theorem given_none {m : Ls} (ok : m.Ok) : m.of (.int (m.given : Int)) = none := by
  cases e : m.of (.int (m.given : Int)) with
  | none => rfl
  | some l =>
    obtain ⟨h1, h2⟩ := of_some e
    injection h2 with h2
    have := ok.lt l h1
    omega
theorem ok_next (Df : Def K mg "_law_next_one" s__law_next_one ["_law_house", "_law_names_here", "_law_cell"]) (S : LCls K mg C) (km_holder : KnowsM CX0 P w K mg base 1 C "holder" ["self", "worker"] (spHolder C)) (km_close : KnowsM (CX1 P w base) P w K mg base 3 C "close" ["self", "number"] (spClose K C D))
    (km_take : KnowsM (CX1 P w base) P w K mg base 2 C "take" ["self", "place", "worker", "turn"] (spTake C D)) (k_refused : Knows P w K mg base 4 "_law_refused" ["_law_house", "_law_way", "_law_thing", "_law_turn"] (spRefused K C)) (k_state : Knows P w K mg base 2 "_law_state" ["_law_house", "_law_names_here"] (spState C))
    (k_gone : Knows P w K mg base 5 "_law_all_gone" ["_law_house", "_law_thing", "_law_cell"] (spGone K C)) : Knows P w K mg base 6 "_law_next_one" ["_law_house", "_law_names_here", "_law_cell"] (spNext C) := by
  refine Df.ok sc__law_next_one (fun vs H Q E h => ?_) (fun f cdv A outer s H vs Q E hr h => ?_)
  · obtain ⟨p, hd, nl, m, zs, n, rfl, _⟩ := h
    rfl
  · obtain ⟨p, hd, nl, m, zs, n, rfl, L, hlt, hnl, h8, h100, q⟩ := h
    obtain ⟨dx, hp⟩ := L.obj
    have hu := hr.units
    have hu0 := hr.units0
    refine ⟨_, by exact (pss_cons (ps_set (i := 3) sc__law_next_one.nd rfl (Or.inr rfl) (pe_fld (pv 0) rfl))
      (pss_cons (ps_set (i := 4) sc__law_next_one.nd rfl (Or.inl rfl) (pe_ix ix_list (pv 1) (pe_op op_mod (pv 2) pe_int) (fun _ _ => rfl)))
      (pss_cons (ps_if (pt_not (pt_val (pe_callM k_gone hr (pa_c (pv 0) (pa_c (pv 3) (pa_c (pe_op op_fdiv (pv 2) pe_int) pa_nil)))))) (pss_one (ps_ret pe_bl)) pss_nil)
      (pss_cons (ps_set (i := 5) sc__law_next_one.nd rfl (Or.inl rfl) (pe_methM km_holder S.cl hr pass0 (pv 0) (pa_c (pv 4) pa_nil)))
      (pss_cons (ps_if (pt_cmpR op_isN (pv 5) pe_non (nomark _)) (pss_cons (ps_set (i := 5) sc__law_next_one.nd rfl (Or.inl rfl) (pe_methM km_take S.cl hr pass1N (pv 0) (pa_c pe_int (pa_c (pv 4) (pa_c pe_int pa_nil)))))
      (pss_one (ps_set (i := 3) sc__law_next_one.nd rfl (Or.inr rfl) (pe_fld (pv 0) rfl)))) pss_nil)
      (pss_cons (ps_set (i := 6) sc__law_next_one.nd rfl (Or.inl rfl) (pe_callM k_state hr (pa_c (pv 0) (pa_c (pv 1) pa_nil))))
      (pss_cons (ps_if (PW.pt (pw_or (pt_cmpR op_ne (pe_callM k_refused hr (pa_c (pv 0) (pa_c pe_int (pa_c (pv 4) (pa_c pe_int pa_nil))))) pe_str (nomark _)) (pw_or1 (pt_cmpR (op_neD hu) (pe_callM k_state hr (pa_c (pv 0) (pa_c (pv 1) pa_nil))) (pv 6) (nomark _))))) (pss_one (ps_ret pe_bl)) pss_nil)
      (pss_cons (ps_expr (pe_methM km_close S.cl hr pass1N (pv 0) (pa_c (pe_ix ix_tup (pv 5) pe_int (fun _ _ => rfl)) pa_nil)))
      (pss_cons (ps_if (PW.pt (pw_or (pt_cmpR op_ne (pe_ix ix_tup (pe_methM km_take S.cl hr pass1N (pv 0) (pa_c pe_int (pa_c (pv 4) (pa_c pe_int pa_nil)))) pe_int (fun _ _ => rfl)) (pv 3) (nomark _)) (pw_or1 (pt_not (pt_val (pe_callM k_gone hr (pa_c (pv 0) (pa_c (pe_ix ix_tup (pv 5) pe_int (fun _ _ => rfl)) (pa_c (pe_op op_fdiv (pv 2) pe_int) pa_nil))))))))) (pss_one (ps_ret pe_bl)) pss_nil)
      (pss_cons (ps_if (pt_cmpR (op_neL hu0) (pe_comp1 [0, 3] ["_law_way", "_law_house", "_law_number"] rfl (pi_tup (pe_tup (pa_c pe_int (pa_c pe_int (pa_c pe_int pa_nil))))) (fun _ _ _ _ => pts_nil) (fun _ _ _ _ => (pe_callM k_refused hr (pa_c (pv 1) (pa_c (pv 0) (pa_c (pv 2) (pa_c pe_int pa_nil))))))) (pe_lst (pa_c pe_str (pa_c pe_str (pa_c pe_str pa_nil)))) (nomark _)) (pss_one (ps_ret pe_bl)) pss_nil)
      (pss_one (ps_ret (pe_and (pe_callM k_gone hr (pa_c (pv 0) (pa_c (pv 3) (pa_c (pe_op op_fdiv (pv 2) pe_int) pa_nil)))) (pe_one (pe_cmpR op_eq (pe_callM k_refused hr (pa_c (pv 0) (pa_c pe_int (pa_c (pv 4) (pa_c pe_int pa_nil))))) pe_str (nomark _)))))))))))))))), ?_⟩
    refine ⟨_, rfl, p, C, dx, _, _, rfl, hp, S.cl, S.n2, rfl, ?_⟩
    dsimp only [gName]
    obtain ⟨z, hz, hzm⟩ := int_at (i := n) h8
    refine ⟨_, rfl, _, rfl, _, _, rfl, rfl, by walk_at "m", nl, _, _, _, rfl, rfl, SqL.of hnl, hz, ?_⟩
    dsimp only [gName]
    refine ⟨_, rfl, _, rfl, _, rfl, _, _, rfl, rfl, by walk_at "m", p, hd, m, _, _, rfl, L, by omega, .int, given_none L.ok, fun H1 s1 => ⟨_, rfl, iteF (next_to ?_)⟩⟩
    dsimp only
    have L1 := L.same s1
    have hp1 := s1 _ _ hp
    have hnl1 := s1 _ _ hnl
    refine seq_use (fun v H' => v = hv m z ∧ Same H1 H') (fun Q' kk => ⟨_, rfl, p, dx, _, rfl, hp1, rfl, _, rfl, p, hd, m, z, rfl, L1, (fun l hl H2 s2 => kk _ _ ⟨by unfold hv; rw [hl], s2⟩), (fun hn H2 s2 => kk _ _ ⟨by unfold hv; rw [hn], s2⟩)⟩) ?_
    rintro _ H2 ⟨rfl, s2⟩
    have L2 := L1.same s2
    have hp2 := s2 _ _ hp1
    have hnl2 := s2 _ _ hnl1
    clear L1 hp1 hnl1 L hp hnl
    dsimp only [gName]
    refine stm_use (t := tIfS _ _ _) (fun σ' H' => ∃ (m1 : Ls) (l : Lse), LsAt C H' p hd m1 ∧ m1.by_ z = some l ∧ m1.given < 501 ∧ H' nl = some (.lst (zs.map V.str)) ∧ σ' = [some (.ref p), some (.ref nl), some (.int n), some (.int (m1.given : Int)), some (.str z), some (.ref l.at_), none]) (fun Q' kk => ?_) ?_
    · refine ⟨_, rfl, rfl, _, rfl, ?_⟩
      unfold hv
      cases e : m.by_ z with
      | some l => exact iteF (kk _ _ ⟨m, l, L2, e, by omega, hnl2, by rfl⟩)
      | none =>
        refine iteT ?_
        refine ⟨_, rfl, p, dx, _, rfl, hp2, rfl, _, rfl, p, hd, m, 3, z, 60, rfl, L2, by omega, (fun l hl => by rw [e] at hl; cases hl), fun _ T H3 ch3 L3 => ?_⟩
        dsimp only [gName]
        obtain ⟨dx3, hp3⟩ := L3.obj
        refine ⟨_, rfl, p, C, dx3, _, _, rfl, hp3, S.cl, S.n2, rfl, ?_⟩
        refine kk _ _ ⟨m.take 3 z 60 T, ⟨m.given, 3, z, 60, 60 + m.term, T⟩, L3, ?_, ?_, L2.keepL ch3 hnl2, rfl⟩
        · show (m.held ++ [_]).find? _ = _
          rw [List.find?_append, show (m.held.find? fun l => decide (l.worker = z)) = none from e]
          simp
        · show m.given + 1 < 501
          omega
    rintro σ' H3 ⟨m1, l, L3, hby, hlt1, hnl3, rfl⟩
    clear L2 hp2 hnl2
    obtain ⟨hmem, hwz⟩ := by_some hby
    obtain ⟨dx3, hp3⟩ := L3.obj
    refine ⟨_, rfl, _, rfl, p, hd, nl, m1, zs, rfl, L3, hnl3, h8, fun kq H4 s4 k4 => ?_⟩
    dsimp only [gName]
    have L4 := L3.same s4
    have hnl4 := s4 _ _ hnl3
    have noS : m1.of (.str z) = none := rfl
    refine if_use (fun b H' => b = false ∧ Same H4 H') (fun Q' kk => ?_) (fun H' h => by cases h.1) (fun H5 ⟨_, s5⟩ => next_to ?_)
    · refine ⟨_, rfl, _, rfl, p, hd, m1, 3, .str z, _, rfl, L4, by omega, by decide, Any.str (Nat.le_trans (h100 z hzm) (by decide)), fun _ => ⟨z, rfl⟩, (fun h => by omega), (fun h => by omega), (fun h => by omega), (fun h => by omega), fun _ z' hz' => ⟨fun l' hl' H5 s5 => ?_, fun hnn => ?_⟩⟩
      · refine ⟨rfl, _, rfl, iteF ?_⟩
        have L5 := L4.same s5
        refine ⟨_, rfl, _, rfl, p, hd, nl, m1, zs, rfl, L5, s5 _ _ hnl4, h8, fun q2 H6 s6 k6 => ?_⟩
        have k4' := (k4.same s5).same s6
        refine ⟨_, rfl, stD m1 zs, stD m1 zs, k6.rep, k4'.rep, dep_st m1 zs, _, rfl, kk _ _ ⟨?_, s5.trans s6⟩⟩
        rw [st_eq (K := K) k6]
        rfl
      · cases hz'
        rw [hby] at hnn
        cases hnn
    dsimp only
    have L5 := L4.same s5
    have hp5 := s5 _ _ (s4 _ _ hp3)
    have hnl5 := s5 _ _ hnl4
    have hrow5 := L5.row l hmem
    refine ⟨_, rfl, p, dx3, _, rfl, hp5, rfl, _, rfl, l.at_, _, _, _, rfl, rfl, SqT.of hrow5, atI_nat (j := 0) rfl, p, hd, m1, .int (l.num : Int), rfl, L5, .int, fun l2 hl2 H6 ch6 L6 hrow6 => ?_, fun hnn => by rw [of_mem L5.ok hmem] at hnn; cases hnn⟩
    obtain rfl : l2 = l := by rw [of_mem L5.ok hmem] at hl2; injection hl2 with h; exact h.symm
    dsimp only
    have hno6 : (m1.close l2).by_ z = none := by rw [← hwz]; exact by_close L5.ok hmem
    have gn6 : Gn (m1.close l2) l2.num := Gn.closed L5.ok hmem
    have hnl6 := L5.keepL ch6 hnl5
    obtain ⟨dx6, hp6⟩ := L6.obj
    refine if_use (fun b H' => b = false ∧ ∃ T, LsAt C H' p hd ((m1.close l2).take 4 z 62 T)) (fun Q' kk => ?_) (fun H' h => by cases h.1) (fun H7 ⟨_, T7, L7⟩ => next_to ?_)
    · refine ⟨_, rfl, p, dx6, _, rfl, hp6, rfl, _, rfl, p, hd, m1.close l2, 4, z, 62, rfl, L6, (show m1.given < 1000 by omega), (fun l hl => by rw [hno6] at hl; cases hl), fun _ T H7 ch7 L7 => ?_⟩
      have hT : H7 T = some (.tup (⟨m1.given, 4, z, 62, 62 + m1.term, T⟩ : Lse).row) := L7.row ⟨m1.given, 4, z, 62, 62 + m1.term, T⟩ (List.mem_append.mpr (.inr (List.mem_singleton.mpr rfl)))
      refine ⟨T, _, _, _, rfl, rfl, SqT.of hT, atI_nat (j := 0) rfl, _, rfl, rfl, _, rfl, ?_⟩
      rw [show (!decide (V.int (m1.given : Int) = V.int (m1.given : Int))) = false from by simp]
      refine iteF ?_
      have hrow7 := L6.keepT ch7 hrow6
      refine ⟨_, rfl, _, rfl, l2.at_, _, _, _, rfl, rfl, SqT.of hrow7, atI_nat (j := 0) rfl, _, rfl, _, _, rfl, rfl, by walk_at "m", p, hd, _, _, _, rfl, L7, (show m1.given + 1 < 1000 by omega), .int, gn6.take.1, fun H8 s8 => ⟨_, rfl, kk _ _ ⟨rfl, T, L7.same s8⟩⟩⟩
    dsimp only
    have hok7 := L7.ok
    generalize hm3 : (m1.close l2).take 4 z 62 T7 = m3 at L7 hok7
    have hg3 : m3.given < 502 := by rw [← hm3]; show m1.given + 1 < 502; omega
    have hmem3 : (⟨m1.given, 4, z, 62, 62 + m1.term, T7⟩ : Lse) ∈ m3.held := by rw [← hm3]; exact List.mem_append.mpr (.inr (List.mem_singleton.mpr rfl))
    have hof3 : m3.of (.int (m1.given : Int)) = some ⟨m1.given, 4, z, 62, 62 + m1.term, T7⟩ := of_mem hok7 hmem3
    generalize hl3 : (⟨m1.given, 4, z, 62, 62 + m1.term, T7⟩ : Lse) = l3 at hmem3 hof3
    have hn3 : l3.num = m1.given := by rw [← hl3]
    have hw3 : l3.worker = z := by rw [← hl3]
    refine if_use (fun b H' => b = false ∧ ∃ m5 : Ls, LsAt C H' p hd m5 ∧ Gn m5 m1.given ∧ m5.by_ z = none ∧ m5.given < 502) (fun Q' kk => ?_) (fun H' h => by cases h.1) (fun H8 ⟨_, m5, L8, gn8, hno8, hg8⟩ => next_to ?_)
    · refine ⟨by show 3 ≤ sizeLine; decide, fun W hW => ⟨W, rfl, ⟨_, SqT.of upd_same⟩, ?_⟩⟩
      have sW : Same H7 (upd H7 W (.tup [.int 0, .int 1, .int 2])) := same_of hW
      have eW : (upd H7 W (.tup [.int 0, .int 1, .int 2])) W = some (.tup [.int 0, .int 1, .int 2]) := upd_same
      generalize upd H7 W (.tup [.int 0, .int 1, .int 2]) = HW at sW eW
      have LW := L7.same sW
      refine comp1_wk (wk_tup K W [.int 0, .int 1, .int 2]) (fun i ys H' => ys = List.replicate i (.str "") ∧ H' W = some (.tup [.int 0, .int 1, .int 2]) ∧ (i ≤ 1 → LsAt C H' p hd m3) ∧ (i = 2 → ∃ T, LsAt C H' p hd (m3.renew l3 63 T)) ∧ (i = 3 → ∃ m5 : Ls, LsAt C H' p hd m5 ∧ Gn m5 m1.given ∧ m5.by_ z = none ∧ m5.given < 502))
        ⟨rfl, eW, fun _ => LW, (fun h => by cases h), (fun h => by cases h)⟩ (fun i ys H' _ h => ⟨SqT.of h.2.1, by rw [h.1, List.length_replicate]; exact Nat.le_refl _⟩) (by show 3 ≤ sizeLine; decide) (fun i x ys H' Nx hx h kn => ?_) (fun ys H' h Dd hD => ?_)
      · obtain ⟨rfl, eW', h1, h2, h3⟩ := h
        refine tTrue_use ?_
        match i, hx, h1, h2, h3, kn with
        | 0, hx, h1, h2, h3, kn =>
          cases hx
          have L' := h1 (by decide)
          refine ⟨_, rfl, _, rfl, _, rfl, p, hd, m3, 0, .int (m1.given : Int), _, rfl, L', by omega, by decide, .int, (fun h => by cases h), (fun _ hnn => by rw [hof3] at hnn; cases hnn), (fun _ l' _ H2 s2 => kn _ _ ⟨rfl, s2 _ _ eW', fun _ => L'.same s2, (fun h => by cases h), (fun h => by cases h)⟩), (fun h => by cases h), (fun h => by cases h), (fun h => by cases h)⟩
        | 1, hx, h1, h2, h3, kn =>
          cases hx
          have L' := h1 (by decide)
          refine ⟨_, rfl, _, rfl, _, rfl, p, hd, m3, 1, .int (m1.given : Int), _, rfl, L', by omega, by decide, .int, (fun h => by cases h), (fun _ hnn => by rw [hof3] at hnn; cases hnn), (fun h => by cases h), (fun _ l' hl' T H2 ch2 L2 => kn _ _ ⟨rfl, L'.keepT ch2 eW', (fun h => by omega), (fun _ => ⟨T, ?_⟩), (fun h => by cases h)⟩), (fun h => by cases h), (fun h => by cases h)⟩
          obtain rfl : l' = l3 := by rw [hof3] at hl'; injection hl' with h; exact h.symm
          exact L2
        | 2, hx, h1, h2, h3, kn =>
          cases hx
          obtain ⟨T, L'⟩ := h2 rfl
          have hmem4 : (⟨l3.num, l3.place, l3.worker, l3.turn, 63 + m3.term, T⟩ : Lse) ∈ (m3.renew l3 63 T).held := List.mem_map.mpr ⟨l3, hmem3, if_pos rfl⟩
          have hof4 := of_mem L'.ok hmem4
          refine ⟨_, rfl, _, rfl, _, rfl, p, hd, m3.renew l3 63 T, 2, .int (m1.given : Int), _, rfl, L', (show m3.given < 1000 by omega), by decide, .int, (fun h => by cases h), (fun _ hnn => ?_), (fun h => by cases h), (fun h => by cases h), (fun _ l' hl' H2 ch2 L2 => kn _ _ ⟨rfl, L'.keepT ch2 eW', (fun h => by omega), (fun h => by cases h), (fun _ => ⟨_, L2, ?_, ?_, (show m3.given < 502 by omega)⟩)⟩), (fun h => by cases h)⟩
          · rw [← hn3] at hnn
            rw [show (m3.renew l3 63 T).of (.int (l3.num : Int)) = _ from hof4] at hnn
            cases hnn
          · rw [← hn3] at hl'
            rw [show (m3.renew l3 63 T).of (.int (l3.num : Int)) = _ from hof4] at hl'
            injection hl' with hl'
            subst hl'
            rw [← hn3]
            exact Gn.closed L'.ok hmem4
          · rw [← hn3] at hl'
            rw [show (m3.renew l3 63 T).of (.int (l3.num : Int)) = _ from hof4] at hl'
            injection hl' with hl'
            subst hl'
            rw [← hw3]
            exact by_close L'.ok hmem4
        | i + 3, hx, h1, h2, h3, kn => simp at hx
      · obtain ⟨rfl, eW', h1, h2, h3⟩ := h
        obtain ⟨m5, L', gn', hno', hg'⟩ := h3 rfl
        have sD : Same H' (upd H' Dd (.lst (List.replicate 3 (.str "")))) := same_of hD
        refine ⟨by show 3 ≤ sizeLine; decide, fun l2 hl2 => ?_⟩
        have eD : (upd H' Dd (.lst (List.replicate 3 (.str "")))) Dd = some (.lst (List.replicate 3 (.str ""))) := upd_same
        generalize hHD : upd H' Dd (.lst (List.replicate 3 (.str ""))) = HD at sD eD
        have hl2' : HD l2 = none := by rw [← hHD]; exact hl2
        have s2 : Same HD (upd HD l2 (.lst [.str "", .str "", .str ""])) := same_of hl2'
        exact ⟨Dd, l2, _, _, rfl, rfl, SqL.of (s2 _ _ eD), SqL.of upd_same, rfl, rfl, _, rfl, kk _ _ ⟨by decide +kernel, m5, (L'.same sD).same s2, gn', hno', hg'⟩⟩
    dsimp only
    refine ⟨_, rfl, _, rfl, _, rfl, _, _, rfl, rfl, by walk_at "m", p, hd, m5, .int (m1.given : Int), _, rfl, L8, by omega, .int, gn8.1, fun H9 s9 => ⟨_, rfl, iteT ?_⟩⟩
    refine ⟨_, rfl, _, rfl, p, hd, m5, 3, .str z, _, rfl, L8.same s9, by omega, by decide, Any.str (Nat.le_trans (h100 z hzm) (by decide)), fun _ => ⟨z, rfl⟩, (fun h => by omega), (fun h => by omega), (fun h => by omega), (fun h => by omega), fun _ z' hz' => ⟨fun l' hl' => ?_, fun _ T H10 ch L10 => ⟨rfl, q _⟩⟩⟩
    cases hz'
    rw [hno8] at hl'
    cases hl'
end
end K10

set_option Elab.async false
set_option linter.all false
set_option maxRecDepth 100000
set_option maxHeartbeats 4000000
set_option pp.maxSteps 600
set_option pp.deepTerms false
namespace K10
open PySem L2 PyProof.Rows
theorem cutV_mem {xs : List V} {lo hi : Option Int} {v : V} (h : v ∈ cutV xs lo hi) : v ∈ xs := by
  unfold cutV at h
  exact List.mem_of_mem_drop (List.mem_of_mem_take h)
theorem cutV_12 (xs : List V) : (cutV xs (some 5) (some 17)).length ≤ 12 := by
  unfold cutV
  have e1 : HT.sIx xs.length 0 (some 5) = min 5 xs.length := rfl
  have e2 : HT.sIx xs.length xs.length (some 17) = min 17 xs.length := rfl
  rw [List.length_take, List.length_drop, e1, e2]
  omega
section
variable {K : PySem.W.Frag} {H : Hp}
theorem Any.bl {b : Bool} : Any K H (.bl b) := ⟨⟨_, .bl b⟩, fun _ e => by cases e⟩
theorem Any.non : Any K H .non := ⟨⟨_, .non⟩, fun _ e => by cases e⟩
theorem Any.lst {p : Addr} {xs : List V} (h : H p = some (.lst xs)) : Any K H (.ref p) := ⟨⟨_, .lst h⟩, fun _ e => by cases e⟩
theorem Any.tup {p : Addr} {xs : List V} (h : H p = some (.tup xs)) : Any K H (.ref p) := ⟨⟨_, .tup h⟩, fun _ e => by cases e⟩
theorem Any.dK {p : Addr} {xs : List (Key × V)} (h : H p = some (.dK xs)) : Any K H (.ref p) := ⟨⟨_, .dK h⟩, fun _ e => by cases e⟩
end
theorem among_int (i : Int) : amongV (.int i) 2 1000 = (decide (2 ≤ i) && decide (i ≤ 1000)) := rfl
theorem of_far {m : Ls} (ok : m.Ok) {i : Int} (h : (m.given : Int) ≤ i) : m.of (.int i) = none := by
  cases e : m.of (.int i) with
  | none => rfl
  | some l =>
    obtain ⟨h1, h2⟩ := of_some e
    injection h2 with h2
    have := ok.lt l h1
    omega
theorem of_neg {m : Ls} {i : Int} (h : i < 0) : m.of (.int i) = none := by
  cases e : m.of (.int i) with
  | none => rfl
  | some l =>
    obtain ⟨h1, h2⟩ := of_some e
    injection h2 with h2
    omega
section
variable {P : Program} {w : World} {K : PySem.W.Frag} {mg : Str → Option Value} {base : Heap} {C : Addr} {D : Nat → Addr} {R : Nat → Prop}
def spLaw (K : PySem.W.Frag) : Sp := fun vs H Q _ => ∃ (a : Addr) (ns : List Int), vs = [.ref a] ∧ SqL K H a (ns.map V.int) ∧ ns.length ≤ 63 ∧ (∀ v ∈ ns, Sm v) ∧ ∀ H', Q (.bl true) H'
theorem ok_law {f : Addr} {fd : FuncData} (F : Fun K "law" "law" s_law f fd) (B : Bw mg) (S : LCls K mg C) (k_cell : Knows P w K mg base 1 "_law_cell_at" ["_law_script", "_law_k"] (spCell K)) (k_mixed : Knows P w K mg base 1 "_law_mixed" ["_law_cell", "_law_k"] spMixed) (k_names : Knows P w K mg base 2 "_law_names" ["_law_cell"] spNames)
    (k_made : Knows P w K mg base 6 "_law_made" ["_law_term"] (spMade K)) (ki : KnowsI (CX1 P w base) P w K mg base 4 C ["self", "term"] (spInit K C D)) (k_filled : Knows P w K mg base 4 "_law_filled" ["_law_house", "_law_cells", "_law_names_here"] (spFilled C))
    (k_state : Knows P w K mg base 2 "_law_state" ["_law_house", "_law_names_here"] (spState C)) (k_gone : Knows P w K mg base 5 "_law_all_gone" ["_law_house", "_law_thing", "_law_cell"] (spGone K C)) (k_next : Knows P w K mg base 6 "_law_next_one" ["_law_house", "_law_names_here", "_law_cell"] (spNext C)) : FnOk P w K mg base CX0 7 f fd ["_law_script"] (spLaw K) := by
  refine F.ok sc_law (fun vs H Q E h => ?_) (fun cdv A outer s H vs Q E hr h => ?_)
  · obtain ⟨a, ns, rfl, _⟩ := h
    rfl
  · obtain ⟨a, ns, rfl, hS, hlen, hsm, q⟩ := h
    have hu := hr.units
    have hu0 := hr.units0
    refine ⟨_, by exact (pss_cons (ps_set (i := 1) sc_law.nd rfl (Or.inl rfl) (pe_callM k_cell hr (pa_c (pv 0) (pa_c pe_int pa_nil))))
      (pss_cons (ps_set (i := 2) sc_law.nd rfl (Or.inl rfl) (pe_callM k_names hr (pa_c (pe_callM k_cell hr (pa_c (pv 0) (pa_c pe_int pa_nil))) pa_nil)))
      (pss_cons (ps_set (i := 3) sc_law.nd rfl (Or.inl rfl) (pe_lst (pa_c pe_int (pa_c pe_int (pa_c pe_int (pa_c (pe_op op_sub (pe_un un_neg pe_int) (pe_op op_mod (pv 1) pe_int)) (pa_c (pe_op op_add pe_int (pe_op op_mod (pv 1) (pe_op op_powS pe_int pe_int))) (pa_c pe_bl (pa_c pe_bl (pa_c pe_non (pa_c pe_str (pa_c (pe_lst (pa_c pe_int pa_nil)) (pa_c (pe_tup (pa_c pe_int pa_nil)) (pa_c pe_dnewK (pa_c pe_str (pa_c (pe_lst (pa_c pe_non pa_nil)) pa_nil))))))))))))))))
      (pss_cons (ps_if (PW.pt (pw_or (pt_cmpR op_ne (pe_callM k_made hr (pa_c (pe_ix ix_list (pv 3) (pe_op op_mod (pe_op op_fdiv (pv 1) pe_int) pe_int) (fun _ _ => rfl)) pa_nil)) pe_str (nomark _)) (pw_or1 (pt_cmpR op_ne (pe_callM k_made hr (pa_c (pe_op op_add pe_int (pe_op op_mod (pv 1) pe_int)) pa_nil)) pe_str (nomark _))))) (pss_one (ps_ret pe_bl)) pss_nil)
      (pss_cons (ps_set (i := 4) sc_law.nd rfl (Or.inl rfl) (pe_makeM ki hr S.mgC pass1N (pa_c (pe_op op_add pe_int (pe_op op_mod (pe_callM k_cell hr (pa_c (pv 0) (pa_c pe_int pa_nil))) pe_int)) pa_nil)))
      (pss_cons (ps_set (i := 5) sc_law.nd rfl (Or.inl rfl) (pe_callM k_filled hr (pa_c (pv 4) (pa_c (pe_comp2 [] ["_law_k", "_law_one"] rfl (pi_enum B.enum (pe_slice sl_list (pv 0) (po_some pe_int) (po_some pe_int))) (fun _ _ _ _ => (pe_callM k_mixed hr (pa_c (pv 1) (pa_c (pv 0) pa_nil))))) (pa_c (pv 2) pa_nil)))))
      (pss_cons (ps_set (i := 1) sc_law.nd rfl (Or.inl rfl) (pe_callM k_cell hr (pa_c (pv 0) (pa_c pe_int pa_nil))))
      (pss_cons (ps_set (i := 6) sc_law.nd rfl (Or.inl rfl) (pe_op op_add (pe_fld (pv 4) rfl) (pe_op op_mod (pe_op op_fdiv (pv 1) pe_int) (pe_op op_powS pe_int pe_int))))
      (pss_cons (ps_set (i := 7) sc_law.nd rfl (Or.inl rfl) (pe_lst (pa_c (pv 6) (pa_c (pe_op op_sub (pe_un un_neg pe_int) (pe_op op_mod (pe_op op_fdiv (pv 1) pe_int) pe_int)) (pa_c pe_bl (pa_c pe_bl (pa_c pe_non (pa_c pe_str (pa_c (pe_lst (pa_c pe_int pa_nil)) (pa_c (pe_tup (pa_c pe_int pa_nil)) (pa_c pe_dnewK (pa_c (pe_fld (pv 4) rfl) (pa_c (pe_un un_neg (pe_op op_powS pe_int pe_int)) (pa_c pe_str (pa_c (pe_lst (pa_c pe_non pa_nil)) pa_nil)))))))))))))))
      (pss_cons (ps_set (i := 8) sc_law.nd rfl (Or.inl rfl) (pe_ix ix_list (pv 7) (pe_op op_mod (pv 1) pe_int) (fun _ _ => rfl)))
      (pss_cons (ps_if (PW.pt (pw_and (pt_cmpR (op_neL hu0) (pv 5) (pe_lst pa_nil) (nomark _)) (pw_and1 (pt_cmpR op_eq (pe_op op_mod (pe_callM k_cell hr (pa_c (pv 0) (pa_c pe_int pa_nil))) pe_int) pe_int (nomark _))))) (pss_one (ps_set (i := 8) sc_law.nd rfl (Or.inl rfl) (pe_ix ix_list (pv 5) (pe_op op_mod (pv 1) (pe_bcall call_len_seq rfl B.b.len PySem.boot_len (pa_c (pv 5) pa_nil))) (fun _ _ => rfl)))) pss_nil)
      (pss_cons (ps_set (i := 9) sc_law.nd rfl (Or.inl rfl) (pe_callM k_state hr (pa_c (pv 4) (pa_c (pv 2) pa_nil))))
      (pss_cons (ps_if (PW.pt (pw_or (pt_not (pt_val (pe_callM k_gone hr (pa_c (pv 4) (pa_c (pv 8) (pa_c (pe_callM k_cell hr (pa_c (pv 0) (pa_c pe_int pa_nil))) pa_nil)))))) (pw_or1 (pt_cmpR (op_neD hu) (pe_callM k_state hr (pa_c (pv 4) (pa_c (pv 2) pa_nil))) (pv 9) (nomark _))))) (pss_one (ps_ret pe_bl)) pss_nil)
      (pss_one (ps_ret (pe_callM k_next hr (pa_c (pv 4) (pa_c (pv 2) (pa_c (pe_callM k_mixed hr (pa_c (pe_callM k_cell hr (pa_c (pv 0) (pa_c pe_int pa_nil))) (pa_c pe_int pa_nil))) pa_nil))))))))))))))))))), ?_⟩
    refine ⟨_, rfl, a, ns, 1, rfl, hS, hsm, fun c1 hc1 => ?_⟩
    dsimp only [gName]
    refine ⟨_, rfl, a, ns, 0, rfl, hS, hsm, fun c0 hc0 => ⟨c0, rfl, hc0, fun nl zs H1 s1 hnl h8 h100 => ?_⟩⟩
    dsimp only [gName]
    have hS1 := s1.seq hS
    refine seq_use (fun v H' => ∃ (l : Addr) (xs : List V), v = .ref l ∧ H' l = some (.lst xs) ∧ xs.length = 14 ∧ (∀ y ∈ xs, Any K H' y ∧ amongV y 2 1000 = false) ∧ Same H1 H') (fun Q' kk => ?_) ?_
    · refine ⟨_, rfl, _, rfl, _, _, rfl, rfl, by walk_at "m", _, _, rfl, rfl, _, rfl, _, _, rfl, rfl, ⟨by decide, by decide⟩, _, _, rfl, rfl, (show (0 : Int) < 10 ^ Int.toNat 9 by decide), _, _, rfl, rfl, by show 1 ≤ sizeLine; decide, fun p1 hp1 => ⟨by show 1 ≤ sizeLine; decide, fun p2 hp2 p3 hp3 => ⟨by show 1 ≤ sizeLine; decide, fun p4 hp4 => ⟨by show 14 ≤ sizeLine; decide, fun p5 hp5 => ?_⟩⟩⟩⟩
      generalize hH5 : upd (upd (upd (upd H1 p1 (.lst [.int 5])) p2 (.tup [.int 5])) p3 (.dK [])) p4 (.lst [.non]) = H5 at hp5
      have s5 : Same H1 H5 := by rw [← hH5]; exact ((((Same.refl H1).new hp1).new hp2).new hp3).new hp4
      have g1 : H5 p1 = some (.lst [.int 5]) := by rw [← hH5]; exact same_of hp4 _ _ (same_of hp3 _ _ (same_of hp2 _ _ upd_same))
      have g2 : H5 p2 = some (.tup [.int 5]) := by rw [← hH5]; exact same_of hp4 _ _ (same_of hp3 _ _ upd_same)
      have g3 : H5 p3 = some (.dK []) := by rw [← hH5]; exact same_of hp4 _ _ upd_same
      have g4 : H5 p4 = some (.lst [.non]) := by rw [← hH5]; exact upd_same
      refine kk _ _ ⟨p5, _, rfl, upd_same, rfl, fun y hy => ?_, s5.trans (same_of hp5)⟩
      have z1 := Int.emod_nonneg c1 (show (9 : Int) ≠ 0 by decide)
      have z2 : 0 ≤ c1 % (10 : Int) ^ (9 : Int).toNat := Int.emod_nonneg c1 (by decide)
      simp only [List.mem_cons, List.not_mem_nil, or_false] at hy
      rcases hy with rfl | rfl | rfl | rfl | rfl | rfl | rfl | rfl | rfl | rfl | rfl | rfl | rfl | rfl
      · exact ⟨.int, by decide⟩
      · exact ⟨.int, by decide⟩
      · exact ⟨.int, by decide⟩
      · refine ⟨.int, ?_⟩
        rw [among_int, decide_eq_false (by omega), Bool.false_and]
      · refine ⟨.int, ?_⟩
        rw [among_int, decide_eq_false (p := 1002 + c1 % (10 : Int) ^ (9 : Int).toNat ≤ 1000) (by omega), Bool.and_false]
      · exact ⟨.bl, rfl⟩
      · exact ⟨.bl, rfl⟩
      · exact ⟨.non, rfl⟩
      · exact ⟨.str (by decide +kernel), rfl⟩
      · exact ⟨(Any.lst g1).same (same_of hp5), rfl⟩
      · exact ⟨(Any.tup g2).same (same_of hp5), rfl⟩
      · exact ⟨(Any.dK g3).same (same_of hp5), rfl⟩
      · exact ⟨.str (by decide +kernel), rfl⟩
      · exact ⟨(Any.lst g4).same (same_of hp5), rfl⟩
    rintro _ H2 ⟨tl, xs, rfl, etl, l14, hxs, s2⟩
    dsimp only [gName]
    have hS2 := s2.seq hS1
    have hnl2 := s2 _ _ hnl
    refine if_use (fun b H' => b = false ∧ Same H2 H') (fun Q' kk => ?_) (fun H' h => by cases h.1) (fun H3 ⟨_, s3⟩ => next_to ?_)
    · obtain ⟨v, hv, hm, _⟩ := atI_mem (xs := xs) (i := c1 / 5 % 14) (Int.emod_nonneg _ (show (14 : Int) ≠ 0 by decide)) (by rw [l14]; exact Int.emod_lt_of_pos _ (show (0 : Int) < 14 by decide))
      obtain ⟨an, hf⟩ := hxs v hm
      refine ⟨_, rfl, _, rfl, _, _, rfl, rfl, by walk_at "m", _, _, rfl, rfl, by walk_at "m", tl, _, _, _, rfl, rfl, SqL.of etl, hv, v, rfl, an, (fun _ H3 s3 => ?_), fun ht => by rw [hf] at ht; cases ht⟩
      refine ⟨rfl, _, rfl, iteF ?_⟩
      have w0 := Int.emod_nonneg c1 (show (999 : Int) ≠ 0 by decide)
      have w1 := Int.emod_lt_of_pos c1 (show (0 : Int) < 999 by decide)
      have tr : amongV (.int (2 + c1 % 999)) 2 1000 = true := by
        rw [among_int, decide_eq_true (by omega), decide_eq_true (by omega)]
        rfl
      refine ⟨_, rfl, _, _, rfl, rfl, by walk_at "m", _, _, rfl, rfl, _, rfl, .int, (fun hf => by rw [tr] at hf; cases hf), fun _ H4 s4 => ⟨rfl, _, rfl, kk _ _ ⟨rfl, s3.trans s4⟩⟩⟩
    dsimp only
    have hS3 := s3.seq hS2
    have hnl3 := s3 _ _ hnl2
    refine seq_use (fun v H' => ∃ p hd t, v = .ref p ∧ LsAt C H' p hd ⟨t, 0, []⟩ ∧ Same H3 H') (fun Q' kk => ?_) ?_
    · refine ⟨_, rfl, a, ns, 2, rfl, hS3, hsm, fun c2 hc2 => ⟨_, _, rfl, rfl, by walk_at "m", _, _, rfl, rfl, fun y dx hy hdx hne => ?_⟩⟩
      have sy : Same H3 (upd (upd H3 dx (.own y)) y (.ins C dx [])) := fun b o e => by
        rw [upd_ne (ne_of_none e hy), upd_ne (ne_of_none e hdx)]
        exact e
      have w0 := Int.emod_nonneg c2 (show (999 : Int) ≠ 0 by decide)
      have w1 := Int.emod_lt_of_pos c2 (show (0 : Int) < 999 by decide)
      have tr : amongV (.int (2 + c2 % 999)) 2 1000 = true := by
        rw [among_int, decide_eq_true (by omega), decide_eq_true (by omega)]
        rfl
      refine ⟨y, dx, .int (2 + c2 % 999), rfl, upd_same, .int, fun t _ _ hd H' ch L => ⟨rfl, kk _ _ ⟨y, hd, t, rfl, L, fun b o e => ch b o (fun z => ?_) (sy _ _ e)⟩⟩, fun hf => by rw [tr] at hf; cases hf⟩
      rw [List.mem_singleton.mp z, hy] at e
      cases e
    rintro _ H4 ⟨p, hd, t, rfl, L4, s4⟩
    dsimp only [gName]
    have hS4 := s4.seq hS3
    have hnl4 := s4 _ _ hnl3
    have aL : ∀ H', Chg [p, hd] H4 H' → SqL K H' a (ns.map V.int) := fun H' ch => by
      obtain ⟨dx, hp⟩ := L4.obj
      have na : ∀ u, H4 a = some u → (∀ C' d fs, u ≠ .ins C' d fs) → (∀ k, u ≠ .dK k) → H' a = some u := fun u e h1 h2 => ch a u (fun zz => by
        simp only [List.mem_cons, List.not_mem_nil, or_false] at zz
        rcases zz with rfl | rfl
        · rw [hp] at e; injection e with e; exact h1 _ _ _ e.symm
        · rw [L4.tab] at e; injection e with e; exact h2 _ e.symm) e
      rcases hS4 with (h | ⟨ob, h⟩) | h
      · exact .inl (.inl (na _ h (fun _ _ _ z => by cases z) (fun _ z => by cases z)))
      · exact .inl (.inr ⟨ob, na _ h (fun _ _ _ z => by cases z) (fun _ z => by cases z)⟩)
      · exact .inr h
    refine seq_use (fun v H' => ∃ l cs m', v = .ref l ∧ Chg [p, hd] H4 H' ∧ LsAt C H' p hd m' ∧ H' l = some (.lst (natsV cs)) ∧ (∀ n ∈ cs, Gn m' n) ∧ m'.given ≤ 12) (fun Q' kk => ?_) ?_
    · refine ⟨_, rfl, _, rfl, _, rfl, _, rfl, a, _, rfl, hS4, fun sl hsl => ⟨sl, rfl, ⟨_, SqL.of upd_same⟩, ?_⟩⟩
      have ssl : Same H4 (upd H4 sl (.lst (cutV (ns.map V.int) (some 5) (some 17)))) := same_of hsl
      have esl : (upd H4 sl (.lst (cutV (ns.map V.int) (some 5) (some 17)))) sl = some (.lst (cutV (ns.map V.int) (some 5) (some 17))) := upd_same
      generalize upd H4 sl (.lst (cutV (ns.map V.int) (some 5) (some 17))) = H5 at ssl esl
      have hms : ∀ v ∈ cutV (ns.map V.int) (some 5) (some 17), ∃ n : Int, v = .int n ∧ Sm n := fun v hv => by
        obtain ⟨n, hn, rfl⟩ := List.mem_map.mp (cutV_mem hv)
        exact ⟨n, rfl, hsm n hn⟩
      have hml := cutV_12 (ns.map V.int)
      generalize cutV (ns.map V.int) (some 5) (some 17) = ms at esl hms hml
      refine comp2_enum (xs := ms) (fun i ys H' => Same H5 H' ∧ ∃ ks : List Int, ys = ks.map V.int ∧ ks.length = i) ⟨Same.refl _, [], rfl, rfl⟩ (fun i ys H' _ h => ⟨SqL.of (h.1 _ _ esl), by obtain ⟨_, ks, e, el⟩ := h; rw [e, List.length_map, el]; exact Nat.le_refl _⟩) (Nat.le_trans hml (by decide)) (fun i x ys H' T Nx hx h hT kn => ?_) (fun ys H' h Dd hD => ?_)
      · obtain ⟨s', ks, rfl, hk⟩ := h
        obtain ⟨n, rfl, hn⟩ := hms x (List.mem_of_getElem? hx)
        have hi : i < ms.length := (List.getElem?_eq_some_iff.mp hx).1
        exact ⟨_, rfl, _, rfl, n, i, rfl, hn, by omega, fun mm => kn _ _ ⟨s'.trans (same_of hT), ks ++ [mm], by simp, by simp [hk]⟩⟩
      · obtain ⟨s', ks, rfl, hk⟩ := h
        have s6 := (ssl.trans s').trans (same_of hD : Same H' (upd H' Dd (.lst (ks.map V.int))))
        have eD : (upd H' Dd (.lst (ks.map V.int))) Dd = some (.lst (ks.map V.int)) := upd_same
        generalize upd H' Dd (.lst (ks.map V.int)) = H6 at s6 eD
        refine ⟨_, rfl, p, hd, Dd, nl, _, ks, zs, rfl, L4.same s6, (by show 0 + ks.length < 500; omega), eD, s6 _ _ hnl4, h8, fun l cs m' H7 ch L7 el hG hg _ => kk _ _ ⟨l, cs, m', rfl, (Chg.of s6).trans ch, L7, el, hG, ?_⟩⟩
        have : m'.given ≤ 0 + ks.length := hg
        omega
    rintro _ H5 ⟨cl, cs, m, rfl, ch5, L5, ecl, hG, hg5⟩
    dsimp only [gName]
    have hS5 := aL H5 ch5
    have hnl5 := L4.keepL ch5 hnl4
    obtain ⟨dx, hp⟩ := L5.obj
    refine ⟨_, rfl, a, ns, 3, rfl, hS5, hsm, fun c3 hc3 => ?_⟩
    dsimp only [gName]
    refine ⟨_, rfl, p, C, dx, _, _, rfl, hp, S.cl, S.n2, rfl, _, rfl, _, _, rfl, rfl, by walk_at "m", _, _, rfl, rfl, ⟨by decide, by decide⟩, _, _, rfl, rfl, (show (0 : Int) < 10 ^ Int.toNat 9 by decide), _, _, rfl, rfl, ?_⟩
    dsimp only [gName]
    have f0 : 0 ≤ c3 / 13 % (10 : Int) ^ (9 : Int).toNat := Int.emod_nonneg _ (by decide)
    have efar : ∃ far : Int, (m.given : Int) + c3 / 13 % (10 : Int) ^ (9 : Int).toNat = far ∧ (m.given : Int) ≤ far := ⟨_, rfl, by omega⟩
    obtain ⟨far, ef, hfar⟩ := efar
    rw [ef]
    refine seq_use (fun v H' => ∃ (l : Addr) (xs : List V), v = .ref l ∧ H' l = some (.lst xs) ∧ xs.length = 13 ∧ (∀ y ∈ xs, Any K H' y ∧ m.of y = none) ∧ Same H5 H') (fun Q' kk => ?_) ?_
    · have z1 := Int.emod_nonneg (c3 / 13) (show (9 : Int) ≠ 0 by decide)
      refine ⟨_, rfl, _, rfl, _, rfl, _, _, rfl, rfl, by walk_at "m", _, _, rfl, rfl, by walk_at "m", _, _, rfl, rfl, by show 1 ≤ sizeLine; decide, fun p1 hp1 => ⟨by show 1 ≤ sizeLine; decide, fun p2 hp2 p3 hp3 => ?_⟩⟩
      generalize hH6 : upd (upd (upd H5 p1 (.lst [.int 0])) p2 (.tup [.int 0])) p3 (.dK []) = H6
      have s6 : Same H5 H6 := by rw [← hH6]; exact (((Same.refl H5).new hp1).new hp2).new hp3
      have g1 : H6 p1 = some (.lst [.int 0]) := by rw [← hH6]; exact same_of hp3 _ _ (same_of hp2 _ _ upd_same)
      have g2 : H6 p2 = some (.tup [.int 0]) := by rw [← hH6]; exact same_of hp3 _ _ upd_same
      have g3 : H6 p3 = some (.dK []) := by rw [← hH6]; exact upd_same
      refine ⟨_, rfl, p, C, dx, _, _, rfl, s6 _ _ hp, S.cl, S.n2, rfl, _, _, rfl, rfl, ⟨by decide, by decide⟩, _, rfl, by show 1 ≤ sizeLine; decide, fun p4 hp4 => ⟨by show 13 ≤ sizeLine; decide, fun p5 hp5 => ?_⟩⟩
      have s7 : Same H6 (upd H6 p4 (.lst [.non])) := same_of hp4
      have g4 : (upd H6 p4 (.lst [.non])) p4 = some (.lst [.non]) := upd_same
      generalize upd H6 p4 (.lst [.non]) = H7 at s7 g4 hp5
      refine kk _ _ ⟨p5, _, rfl, upd_same, rfl, fun y hy => ?_, (s6.trans s7).trans (same_of hp5)⟩
      simp only [List.mem_cons, List.not_mem_nil, or_false] at hy
      rcases hy with rfl | rfl | rfl | rfl | rfl | rfl | rfl | rfl | rfl | rfl | rfl | rfl | rfl
      · exact ⟨.int, of_far L5.ok hfar⟩
      · exact ⟨.int, of_neg (by omega)⟩
      · exact ⟨.bl, rfl⟩
      · exact ⟨.bl, rfl⟩
      · exact ⟨.non, rfl⟩
      · exact ⟨.str (by decide +kernel), rfl⟩
      · exact ⟨((Any.lst g1).same s7).same (same_of hp5), rfl⟩
      · exact ⟨((Any.tup g2).same s7).same (same_of hp5), rfl⟩
      · exact ⟨((Any.dK g3).same s7).same (same_of hp5), rfl⟩
      · exact ⟨.int, given_none L5.ok⟩
      · exact ⟨.int, of_neg (by decide)⟩
      · exact ⟨.str (by decide +kernel), rfl⟩
      · exact ⟨(Any.lst g4).same (same_of hp5), rfl⟩
    rintro _ H6 ⟨ol, xs6, rfl, eol, l13, hxs6, s6⟩
    dsimp only [gName]
    obtain ⟨v, hv, hm, _⟩ := atI_mem (xs := xs6) (i := c3 % 13) (Int.emod_nonneg _ (show (13 : Int) ≠ 0 by decide)) (by rw [l13]; exact Int.emod_lt_of_pos _ (show (0 : Int) < 13 by decide))
    obtain ⟨an, hno⟩ := hxs6 v hm
    refine ⟨_, rfl, _, rfl, _, _, rfl, rfl, by walk_at "m", ol, _, _, _, rfl, rfl, SqL.of eol, hv, ?_⟩
    dsimp only [gName]
    have L6 := L5.same s6
    have hS6 := s6.seq hS5
    have hnl6 := s6 _ _ hnl5
    have ecl6 := s6 _ _ ecl
    refine stm_use (t := tIfS _ _ _) (fun σ' H' => ∃ (v : V) (v3 v6 v7 : Option V), Any K H' v ∧ m.of v = none ∧ Same H6 H' ∧ σ' = [some (.ref a), some (.int c3), some (.ref nl), v3, some (.ref p), some (.ref cl), v6, v7, some v, none]) (fun Q' kk => ?_) ?_
    · refine ⟨_, rfl, by decide, fun l0 hl0 => ?_⟩
      have s7 : Same H6 (upd H6 l0 (.lst [])) := same_of hl0
      have e0 : (upd H6 l0 (.lst [])) l0 = some (.lst []) := upd_same
      generalize upd H6 l0 (.lst []) = H7 at s7 e0
      have ecl7 := s7 _ _ ecl6
      refine ⟨cl, l0, _, _, rfl, rfl, SqL.of ecl7, SqL.of e0, ?_, rfl, _, rfl, ite2 (fun hne => ?_) (fun hne => ?_)⟩
      · unfold natsV
        rw [List.all_map, List.all_eq_true]
        intro x _
        rfl
      · refine ⟨_, rfl, a, ns, 4, rfl, s7.seq hS6, hsm, fun c4 hc4 => ⟨_, _, rfl, rfl, by walk_at "m", rfl, _, rfl, ite2 (fun _ => ?_) (fun _ => ?_)⟩⟩
        · have hcs : cs ≠ [] := fun z => by
            rw [z] at hne
            exact absurd hne (by decide)
          have lp : 0 < cs.length := List.length_pos_iff.mpr hcs
          have ll : (natsV cs).length = cs.length := List.length_map ..
          have lpi : (0 : Int) < ((natsV cs).length : Int) := by rw [ll]; omega
          obtain ⟨v2, hv2, hm2, _⟩ := atI_mem (xs := natsV cs) (i := c3 % ((natsV cs).length : Int)) (Int.emod_nonneg _ (by omega)) (Int.emod_lt_of_pos _ lpi)
          obtain ⟨k, hk, rfl⟩ := List.mem_map.mp hm2
          refine ⟨_, rfl, _, rfl, _, rfl, cl, _, rfl, .inl (SqL.of ecl7), _, _, rfl, rfl, lpi, cl, _, _, _, rfl, rfl, SqL.of ecl7, hv2, ?_⟩
          exact kk _ _ ⟨.int (k : Int), _, _, _, .int, (hG k hk).1, s7, rfl⟩
        · exact kk _ _ ⟨v, _, _, _, an.same s7, hno, s7, rfl⟩
      · exact kk _ _ ⟨v, _, _, _, an.same s7, hno, s7, rfl⟩
    rintro σ' H7 ⟨x, v3, v6, v7, anx, hnx, s7, rfl⟩
    have L7 := L6.same s7
    have hS7 := s7.seq hS6
    have hnl7 := s7 _ _ hnl6
    refine ⟨_, rfl, _, rfl, p, hd, nl, m, zs, rfl, L7, hnl7, h8, fun kq H8 s8 k8 => ?_⟩
    dsimp only [gName]
    have L8 := L7.same s8
    have hS8 := s8.seq hS7
    have hnl8 := s8 _ _ hnl7
    refine if_use (fun b H' => b = false ∧ Same H8 H') (fun Q' kk => ?_) (fun H' h => by cases h.1) (fun H9 ⟨_, s9⟩ => next_to ?_)
    · refine ⟨_, rfl, _, rfl, _, rfl, a, ns, 4, rfl, hS8, hsm, fun c4 hc4 => ⟨p, hd, m, x, c4, rfl, L8, by omega, anx.same s8, hnx, fun H9 s9 => ⟨_, rfl, iteF ?_⟩⟩⟩
      refine ⟨_, rfl, _, rfl, p, hd, nl, m, zs, rfl, L8.same s9, s9 _ _ hnl8, h8, fun q2 H10 s10 k10 => ?_⟩
      have k8' := (k8.same s9).same s10
      refine ⟨_, rfl, stD m zs, stD m zs, k10.rep, k8'.rep, dep_st m zs, _, rfl, kk _ _ ⟨?_, s9.trans s10⟩⟩
      rw [st_eq (K := K) k10]
      rfl
    dsimp only
    have hS9 := s9.seq hS8
    exact ⟨_, rfl, _, rfl, _, rfl, a, ns, 4, rfl, hS9, hsm, fun c4 hc4 => ⟨c4, 7, rfl, hc4, by decide, fun mm => ⟨p, hd, nl, m, zs, mm, rfl, L8.same s9, by omega, s9 _ _ hnl8, h8, h100, q⟩⟩⟩
end
end K10

set_option Elab.async false
set_option linter.all false
set_option maxRecDepth 100000
set_option maxHeartbeats 8000000
namespace K10
open PySem L2
def mkd (e0 e1 e2 e3 e4 e5 e6 e7 e8 e9 e10 e11 e12 e13 e14 e15 e16 e17 e18 : Addr) : Nat → Addr
  | 0 => e0
  | 1 => e1
  | 2 => e2
  | 3 => e3
  | 4 => e4
  | 5 => e5
  | 6 => e6
  | 7 => e7
  | 8 => e8
  | 9 => e9
  | 10 => e10
  | 11 => e11
  | 12 => e12
  | 13 => e13
  | 14 => e14
  | 15 => e15
  | 16 => e16
  | 17 => e17
  | _ => e18
theorem all_mk {l : PySem.W.OpenLaw} {w : World} {K : PySem.W.Frag} {h : Heap} {mg : Str → Option Value} {fa : Addr} (X : K.In h) (G : h.Ns mainGlobals mg) (hfa : mg "law" = some (.ref fa)) {C f eh e0 e1 e2 e3 e4 e5 e6 e7 e8 e9 e10 e11 e12 e13 e14 e15 e16 e17 e18 : Addr}
    {od an : Option Addr} {sl : Array (Option Value)} {oc kV dc pm cd ct : Value} {t1 t2 : Tok}
    (is_Leases : PySem.W.nsIn K mainGlobals "Leases" = some (some (.ref C)))
    (cls_Leases : Cls K C)
    (n1 : PySem.W.findIn K (.ref C) "term" = some none)
    (n2 : PySem.W.findIn K (.ref C) "given" = some none)
    (n3 : PySem.W.findIn K (.ref C) "held" = some none)
    (hn : PySem.W.specialIn K (.builtin "object.__class__") "__get__" = some (some (.builtin "getset_descriptor.__get__")))
    (htk : PySem.W.takesIn K (.builtin "object.__class__") = some true)
    (i_L : IDef K C "Leases.__init__" s_Leases___init__ ["self", "term"])
    (m_holder : MDef K C "holder" "Leases.holder" s_Leases_holder ["self", "worker"])
    (m_take : MDef K C "take" "Leases.take" s_Leases_take ["self", "place", "worker", "turn"])
    (m_of : MDef K C "of" "Leases.of" s_Leases_of ["self", "number"])
    (m_renew : MDef K C "renew" "Leases.renew" s_Leases_renew ["self", "number", "turn"])
    (m_close : MDef K C "close" "Leases.close" s_Leases_close ["self", "number"])
    (m_rows : MDef K C "rows" "Leases.rows" s_Leases_rows ["self"])
    (d_is_whole : Def K mg "is_whole" s_is_whole ["thing"])
    (d_is_among : Def K mg "is_among" s_is_among ["thing", "least", "most"])
    (d_is_term : Def K mg "is_term" s_is_term ["thing"])
    (d__law_cell_at : Def K mg "_law_cell_at" s__law_cell_at ["_law_script", "_law_k"])
    (d__law_mixed : Def K mg "_law_mixed" s__law_mixed ["_law_cell", "_law_k"])
    (d__law_word : Def K mg "_law_word" s__law_word ["_law_e"])
    (d__law_names : Def K mg "_law_names" s__law_names ["_law_cell"])
    (d__law_refused : Def K mg "_law_refused" s__law_refused ["_law_house", "_law_way", "_law_thing", "_law_turn"])
    (d__law_made : Def K mg "_law_made" s__law_made ["_law_term"])
    (d__law_state : Def K mg "_law_state" s__law_state ["_law_house", "_law_names_here"])
    (d__law_filled : Def K mg "_law_filled" s__law_filled ["_law_house", "_law_cells", "_law_names_here"])
    (d__law_all_gone : Def K mg "_law_all_gone" s__law_all_gone ["_law_house", "_law_thing", "_law_cell"])
    (d__law_next_one : Def K mg "_law_next_one" s__law_next_one ["_law_house", "_law_names_here", "_law_cell"])
    (lk : PySem.W.nsIn K mainGlobals "law" = some (some (.ref f)))
    (ll : K.lookup f = some ⟨oc, od, .func (PySem.W.fnOf "law" "law" (defArgs s_law) (defBody s_law) (defScope s_law) .none kV dc pm an cd ct), sl⟩)
    (lc : PySem.W.codeIn K cd "law" = true)
    (lp : PySem.W.keepIn K (.ref f) = true)
    (b_isinstance : PySem.W.nsIn K mainGlobals "isinstance" = some none)
    (b_len : PySem.W.nsIn K mainGlobals "len" = some none)
    (b_all : PySem.W.nsIn K mainGlobals "all" = some none)
    (b_int : PySem.W.nsIn K mainGlobals "int" = some none)
    (b_bool : PySem.W.nsIn K mainGlobals "bool" = some none)
    (b_str : PySem.W.nsIn K mainGlobals "str" = some none)
    (b_list : PySem.W.nsIn K mainGlobals "list" = some none)
    (b_range : PySem.W.nsIn K mainGlobals "range" = some none)
    (b_set : PySem.W.nsIn K mainGlobals "set" = some none)
    (b_enumerate : PySem.W.nsIn K mainGlobals "enumerate" = some none)
    (b_ValueError : PySem.W.nsIn K mainGlobals "ValueError" = some none)
    (g_LEAST : PySem.W.nsIn K mainGlobals "LEAST_TERM" = some (some (.int 2 t1)))
    (g_MOST : PySem.W.nsIn K mainGlobals "MOST_TERM" = some (some (.int 1000 t2)))
    (x_BadTerm : PySem.W.nsIn K mainGlobals "BadTerm" = some (some (.ref e0)))
    (x_Busy : PySem.W.nsIn K mainGlobals "Busy" = some (some (.ref e1)))
    (x_Gone : PySem.W.nsIn K mainGlobals "Gone" = some (some (.ref e2)))
    (x_NoAlarm : PySem.W.nsIn K mainGlobals "NoAlarm" = some (some (.ref e3)))
    (x_BadName : PySem.W.nsIn K mainGlobals "BadName" = some (some (.ref e4)))
    (x_BadNumber : PySem.W.nsIn K mainGlobals "BadNumber" = some (some (.ref e5)))
    (x_BadNeeds : PySem.W.nsIn K mainGlobals "BadNeeds" = some (some (.ref e6)))
    (x_BadPlan : PySem.W.nsIn K mainGlobals "BadPlan" = some (some (.ref e7)))
    (x_Twice : PySem.W.nsIn K mainGlobals "Twice" = some (some (.ref e8)))
    (x_NoJob : PySem.W.nsIn K mainGlobals "NoJob" = some (some (.ref e9)))
    (x_Ring : PySem.W.nsIn K mainGlobals "Ring" = some (some (.ref e10)))
    (x_BadLine : PySem.W.nsIn K mainGlobals "BadLine" = some (some (.ref e11)))
    (x_BadBook : PySem.W.nsIn K mainGlobals "BadBook" = some (some (.ref e12)))
    (x_BadShot : PySem.W.nsIn K mainGlobals "BadShot" = some (some (.ref e13)))
    (x_BadEvent : PySem.W.nsIn K mainGlobals "BadEvent" = some (some (.ref e14)))
    (x_BadStep : PySem.W.nsIn K mainGlobals "BadStep" = some (some (.ref e15)))
    (x_BadState : PySem.W.nsIn K mainGlobals "BadState" = some (some (.ref e16)))
    (x_BadTurn : PySem.W.nsIn K mainGlobals "BadTurn" = some (some (.ref e17)))
    (x_BadBuilders : PySem.W.nsIn K mainGlobals "BadBuilders" = some (some (.ref e18)))
    (x_HallError : PySem.W.nsIn K mainGlobals "HallError" = some (some (.ref eh)))
    (ga0 : PySem.W.findIn K (.ref e0) "__getattribute__" = some (some (.builtin "BaseException.__getattribute__")))
    (gh0 : PySem.W.findIn K (.ref e0) "__getattr__" = some none)
    (be0 : PySem.W.mroIn K e0 (.type "BaseException") = some true)
    (hd0 : PySem.W.hasDictIn K e0 = true)
    (ha0 : PySem.W.findIn K (.ref e0) "__class__" = some (some (.builtin "object.__class__")))
    (hm0 : PySem.W.mroIn K e0 (.type "object") = some true)
    (kt0_0 : PySem.W.kitOne K (.ref e0) (.ref e0) = some true)
    (kt0_1 : PySem.W.kitOne K (.ref e0) (.ref e1) = some false)
    (kt0_2 : PySem.W.kitOne K (.ref e0) (.ref e2) = some false)
    (kt0_3 : PySem.W.kitOne K (.ref e0) (.ref e3) = some false)
    (kt0_4 : PySem.W.kitOne K (.ref e0) (.ref e4) = some false)
    (kt0_5 : PySem.W.kitOne K (.ref e0) (.ref e5) = some false)
    (kt0_6 : PySem.W.kitOne K (.ref e0) (.ref e6) = some false)
    (kt0_7 : PySem.W.kitOne K (.ref e0) (.ref e7) = some false)
    (kt0_8 : PySem.W.kitOne K (.ref e0) (.ref e8) = some false)
    (kt0_9 : PySem.W.kitOne K (.ref e0) (.ref e9) = some false)
    (kt0_10 : PySem.W.kitOne K (.ref e0) (.ref e10) = some false)
    (kt0_11 : PySem.W.kitOne K (.ref e0) (.ref e11) = some false)
    (kt0_12 : PySem.W.kitOne K (.ref e0) (.ref e12) = some false)
    (kt0_13 : PySem.W.kitOne K (.ref e0) (.ref e13) = some false)
    (kt0_14 : PySem.W.kitOne K (.ref e0) (.ref e14) = some false)
    (kt0_15 : PySem.W.kitOne K (.ref e0) (.ref e15) = some false)
    (kt0_16 : PySem.W.kitOne K (.ref e0) (.ref e16) = some false)
    (kt0_17 : PySem.W.kitOne K (.ref e0) (.ref e17) = some false)
    (kt0_18 : PySem.W.kitOne K (.ref e0) (.ref e18) = some false)
    (kve0 : PySem.W.kitOne K (.ref e0) (.type "ValueError") = some true)
    (exc0 : PySem.W.excIn K e0 bmV "ValueError.__new__" = true)
    (exm0 : PySem.W.exmOne K (.ref e0) (.ref eh) = some true)
    (ga1 : PySem.W.findIn K (.ref e1) "__getattribute__" = some (some (.builtin "BaseException.__getattribute__")))
    (gh1 : PySem.W.findIn K (.ref e1) "__getattr__" = some none)
    (be1 : PySem.W.mroIn K e1 (.type "BaseException") = some true)
    (hd1 : PySem.W.hasDictIn K e1 = true)
    (ha1 : PySem.W.findIn K (.ref e1) "__class__" = some (some (.builtin "object.__class__")))
    (hm1 : PySem.W.mroIn K e1 (.type "object") = some true)
    (kt1_0 : PySem.W.kitOne K (.ref e1) (.ref e0) = some false)
    (kt1_1 : PySem.W.kitOne K (.ref e1) (.ref e1) = some true)
    (kt1_2 : PySem.W.kitOne K (.ref e1) (.ref e2) = some false)
    (kt1_3 : PySem.W.kitOne K (.ref e1) (.ref e3) = some false)
    (kt1_4 : PySem.W.kitOne K (.ref e1) (.ref e4) = some false)
    (kt1_5 : PySem.W.kitOne K (.ref e1) (.ref e5) = some false)
    (kt1_6 : PySem.W.kitOne K (.ref e1) (.ref e6) = some false)
    (kt1_7 : PySem.W.kitOne K (.ref e1) (.ref e7) = some false)
    (kt1_8 : PySem.W.kitOne K (.ref e1) (.ref e8) = some false)
    (kt1_9 : PySem.W.kitOne K (.ref e1) (.ref e9) = some false)
    (kt1_10 : PySem.W.kitOne K (.ref e1) (.ref e10) = some false)
    (kt1_11 : PySem.W.kitOne K (.ref e1) (.ref e11) = some false)
    (kt1_12 : PySem.W.kitOne K (.ref e1) (.ref e12) = some false)
    (kt1_13 : PySem.W.kitOne K (.ref e1) (.ref e13) = some false)
    (kt1_14 : PySem.W.kitOne K (.ref e1) (.ref e14) = some false)
    (kt1_15 : PySem.W.kitOne K (.ref e1) (.ref e15) = some false)
    (kt1_16 : PySem.W.kitOne K (.ref e1) (.ref e16) = some false)
    (kt1_17 : PySem.W.kitOne K (.ref e1) (.ref e17) = some false)
    (kt1_18 : PySem.W.kitOne K (.ref e1) (.ref e18) = some false)
    (kve1 : PySem.W.kitOne K (.ref e1) (.type "ValueError") = some true)
    (exc1 : PySem.W.excIn K e1 bmV "ValueError.__new__" = true)
    (exm1 : PySem.W.exmOne K (.ref e1) (.ref eh) = some true)
    (ga2 : PySem.W.findIn K (.ref e2) "__getattribute__" = some (some (.builtin "BaseException.__getattribute__")))
    (gh2 : PySem.W.findIn K (.ref e2) "__getattr__" = some none)
    (be2 : PySem.W.mroIn K e2 (.type "BaseException") = some true)
    (hd2 : PySem.W.hasDictIn K e2 = true)
    (ha2 : PySem.W.findIn K (.ref e2) "__class__" = some (some (.builtin "object.__class__")))
    (hm2 : PySem.W.mroIn K e2 (.type "object") = some true)
    (kt2_0 : PySem.W.kitOne K (.ref e2) (.ref e0) = some false)
    (kt2_1 : PySem.W.kitOne K (.ref e2) (.ref e1) = some false)
    (kt2_2 : PySem.W.kitOne K (.ref e2) (.ref e2) = some true)
    (kt2_3 : PySem.W.kitOne K (.ref e2) (.ref e3) = some false)
    (kt2_4 : PySem.W.kitOne K (.ref e2) (.ref e4) = some false)
    (kt2_5 : PySem.W.kitOne K (.ref e2) (.ref e5) = some false)
    (kt2_6 : PySem.W.kitOne K (.ref e2) (.ref e6) = some false)
    (kt2_7 : PySem.W.kitOne K (.ref e2) (.ref e7) = some false)
    (kt2_8 : PySem.W.kitOne K (.ref e2) (.ref e8) = some false)
    (kt2_9 : PySem.W.kitOne K (.ref e2) (.ref e9) = some false)
    (kt2_10 : PySem.W.kitOne K (.ref e2) (.ref e10) = some false)
    (kt2_11 : PySem.W.kitOne K (.ref e2) (.ref e11) = some false)
    (kt2_12 : PySem.W.kitOne K (.ref e2) (.ref e12) = some false)
    (kt2_13 : PySem.W.kitOne K (.ref e2) (.ref e13) = some false)
    (kt2_14 : PySem.W.kitOne K (.ref e2) (.ref e14) = some false)
    (kt2_15 : PySem.W.kitOne K (.ref e2) (.ref e15) = some false)
    (kt2_16 : PySem.W.kitOne K (.ref e2) (.ref e16) = some false)
    (kt2_17 : PySem.W.kitOne K (.ref e2) (.ref e17) = some false)
    (kt2_18 : PySem.W.kitOne K (.ref e2) (.ref e18) = some false)
    (kve2 : PySem.W.kitOne K (.ref e2) (.type "ValueError") = some true)
    (exc2 : PySem.W.excIn K e2 bmV "ValueError.__new__" = true)
    (exm2 : PySem.W.exmOne K (.ref e2) (.ref eh) = some true) :
    ∃ fd : FuncData, (∀ (s : Shared) (v : Value), BindsTo s fd ⟨[v], []⟩ [("_law_script", v)]) ∧ ∀ base : Heap, K.In base → base.Ns mainGlobals mg → FnOk l.prog w K mg base CX0 7 fa fd ["_law_script"] (spLaw K) := by
  have e := hfa.symm.trans (PySem.W.mg_of X G lk)
  cases e
  have B0 : Bltn mg := ⟨PySem.W.mg_none_of X G b_isinstance, PySem.W.mg_none_of X G b_len, PySem.W.mg_none_of X G b_all, PySem.W.mg_none_of X G b_int, PySem.W.mg_none_of X G b_bool, PySem.W.mg_none_of X G b_str, PySem.W.mg_none_of X G b_list, PySem.W.mg_none_of X G b_range⟩
  have B1 : Bw mg := ⟨B0, PySem.W.mg_none_of X G b_set, PySem.W.mg_none_of X G b_enumerate⟩
  have S : LCls K mg C := ⟨cls_Leases, PySem.W.mg_of X G is_Leases, n1, n2, n3⟩
  have BXX : BX K mg (mkd e0 e1 e2 e3 e4 e5 e6 e7 e8 e9 e10 e11 e12 e13 e14 e15 e16 e17 e18) := ⟨exc0, exc1, exc2, PySem.W.mg_of X G x_BadTerm, PySem.W.mg_of X G x_Busy, PySem.W.mg_of X G x_Gone⟩
  have EXX : EX K mg (mkd e0 e1 e2 e3 e4 e5 e6 e7 e8 e9 e10 e11 e12 e13 e14 e15 e16 e17 e18) (fun r => r < 3) := by
    refine ⟨⟨hn, htk⟩, (fun r hr => ?_), (fun r i hr hi => ?_), (fun r hr => ?_), PySem.W.mg_none_of X G b_ValueError, PySem.W.mg_of X G x_BadTerm, PySem.W.mg_of X G x_Busy, PySem.W.mg_of X G x_Gone, PySem.W.mg_of X G x_NoAlarm, PySem.W.mg_of X G x_BadName, PySem.W.mg_of X G x_BadNumber, PySem.W.mg_of X G x_BadNeeds, PySem.W.mg_of X G x_BadPlan, PySem.W.mg_of X G x_Twice, PySem.W.mg_of X G x_NoJob, PySem.W.mg_of X G x_Ring, PySem.W.mg_of X G x_BadLine, PySem.W.mg_of X G x_BadBook, PySem.W.mg_of X G x_BadShot, PySem.W.mg_of X G x_BadEvent, PySem.W.mg_of X G x_BadStep, PySem.W.mg_of X G x_BadState, PySem.W.mg_of X G x_BadTurn, PySem.W.mg_of X G x_BadBuilders⟩
    · match r, hr with
      | 0, _ => exact ⟨ga0, gh0, be0, hd0, ha0, hm0⟩
      | 1, _ => exact ⟨ga1, gh1, be1, hd1, ha1, hm1⟩
      | 2, _ => exact ⟨ga2, gh2, be2, hd2, ha2, hm2⟩
      | r + 3, hr => exact absurd (show r + 3 < 3 from hr) (by omega)
    · match r, hr with
      | 0, _ =>
        match i, hi with
        | 0, _ => exact kt0_0
        | 1, _ => exact kt0_1
        | 2, _ => exact kt0_2
        | 3, _ => exact kt0_3
        | 4, _ => exact kt0_4
        | 5, _ => exact kt0_5
        | 6, _ => exact kt0_6
        | 7, _ => exact kt0_7
        | 8, _ => exact kt0_8
        | 9, _ => exact kt0_9
        | 10, _ => exact kt0_10
        | 11, _ => exact kt0_11
        | 12, _ => exact kt0_12
        | 13, _ => exact kt0_13
        | 14, _ => exact kt0_14
        | 15, _ => exact kt0_15
        | 16, _ => exact kt0_16
        | 17, _ => exact kt0_17
        | 18, _ => exact kt0_18
        | i + 19, hi => omega
      | 1, _ =>
        match i, hi with
        | 0, _ => exact kt1_0
        | 1, _ => exact kt1_1
        | 2, _ => exact kt1_2
        | 3, _ => exact kt1_3
        | 4, _ => exact kt1_4
        | 5, _ => exact kt1_5
        | 6, _ => exact kt1_6
        | 7, _ => exact kt1_7
        | 8, _ => exact kt1_8
        | 9, _ => exact kt1_9
        | 10, _ => exact kt1_10
        | 11, _ => exact kt1_11
        | 12, _ => exact kt1_12
        | 13, _ => exact kt1_13
        | 14, _ => exact kt1_14
        | 15, _ => exact kt1_15
        | 16, _ => exact kt1_16
        | 17, _ => exact kt1_17
        | 18, _ => exact kt1_18
        | i + 19, hi => omega
      | 2, _ =>
        match i, hi with
        | 0, _ => exact kt2_0
        | 1, _ => exact kt2_1
        | 2, _ => exact kt2_2
        | 3, _ => exact kt2_3
        | 4, _ => exact kt2_4
        | 5, _ => exact kt2_5
        | 6, _ => exact kt2_6
        | 7, _ => exact kt2_7
        | 8, _ => exact kt2_8
        | 9, _ => exact kt2_9
        | 10, _ => exact kt2_10
        | 11, _ => exact kt2_11
        | 12, _ => exact kt2_12
        | 13, _ => exact kt2_13
        | 14, _ => exact kt2_14
        | 15, _ => exact kt2_15
        | 16, _ => exact kt2_16
        | 17, _ => exact kt2_17
        | 18, _ => exact kt2_18
        | i + 19, hi => omega
      | r + 3, hr => exact absurd (show r + 3 < 3 from hr) (by omega)
    · match r, hr with
      | 0, _ => exact kve0
      | 1, _ => exact kve1
      | 2, _ => exact kve2
      | r + 3, hr => exact absurd (show r + 3 < 3 from hr) (by omega)
  have EXM : ∀ r, r < 3 → PySem.W.exmOne K (.ref ((mkd e0 e1 e2 e3 e4 e5 e6 e7 e8 e9 e10 e11 e12 e13 e14 e15 e16 e17 e18) r)) (.ref eh) = some true := fun r hr => by
    match r, hr with
    | 0, _ => exact exm0
    | 1, _ => exact exm1
    | 2, _ => exact exm2
    | r + 3, hr => omega
  refine ⟨PySem.W.fnOf "law" "law" (defArgs s_law) (defBody s_law) (defScope s_law) .none kV dc pm an cd ct, fun s v => .of_eq rfl, fun base _ _ => ?_⟩
  have F := fun_mk (st := s_law) ll lc lp
  have gL := PySem.W.mg_of X G g_LEAST
  have gM := PySem.W.mg_of X G g_MOST
  have k_is_whole := ok_is_whole (P := l.prog) (w := w) (base := base) d_is_whole B0
  have k_is_among := ok_is_among d_is_among k_is_whole
  have k_term := ok_term d_is_term gL gM k_is_among
  have ki := i_L.knows (P := l.prog) (w := w) (mg := mg) (base := base) fun f fd F => ok_init F BXX S gL gM k_term
  have km_holder := m_holder.knows (P := l.prog) (w := w) (mg := mg) (base := base) fun f fd F => ok_holder F S
  have km_take := m_take.knows (P := l.prog) (w := w) (mg := mg) (base := base) fun f fd F => ok_take F BXX S km_holder
  have km_of := m_of.knows (P := l.prog) (w := w) (mg := mg) (base := base) fun f fd F => ok_of F BXX S k_is_whole
  have km_renew := m_renew.knows (P := l.prog) (w := w) (mg := mg) (base := base) fun f fd F => ok_renew F S km_of
  have km_close := m_close.knows (P := l.prog) (w := w) (mg := mg) (base := base) fun f fd F => ok_close F S km_of
  have km_rows := m_rows.knows (P := l.prog) (w := w) (mg := mg) (base := base) fun f fd F => ok_rows F S B0
  have k_word := ok_word (P := l.prog) (w := w) (base := base) d__law_word B0 EXX
  have k_cell := ok_cell (P := l.prog) (w := w) (base := base) d__law_cell_at B0
  have k_mixed := ok_mixed (P := l.prog) (w := w) (base := base) d__law_mixed
  have k_names := ok_names d__law_names B1 k_mixed
  have k_refused := ok_refused (D := (mkd e0 e1 e2 e3 e4 e5 e6 e7 e8 e9 e10 e11 e12 e13 e14 e15 e16 e17 e18)) (R := fun r => r < 3) d__law_refused S eh (PySem.W.mg_of X G x_HallError) EXM (fun r h => h) km_of km_renew km_close km_take k_word
  have k_made := ok_made (D := (mkd e0 e1 e2 e3 e4 e5 e6 e7 e8 e9 e10 e11 e12 e13 e14 e15 e16 e17 e18)) (R := fun r => r < 3) d__law_made S eh (PySem.W.mg_of X G x_HallError) EXM (fun r h => h) ki k_word
  have k_state := ok_state d__law_state S km_holder km_rows
  have k_gone := ok_gone d__law_all_gone B1 k_refused
  have k_filled := ok_filled d__law_filled B1 S km_holder km_close km_take
  have k_next := ok_next d__law_next_one S km_holder km_close km_take k_refused k_state k_gone
  exact ok_law F B1 S k_cell k_mixed k_names k_made ki k_filled k_state k_gone k_next
theorem walk {l : PySem.W.OpenLaw} {q : Program} {loose : List Str} {XP : (Str → Option Value) → Heap → Prop} {YP : World → Heap → Prop} {d : DefRec} {K : Params → PySem.W.Frag} (hn : l.most = some 63) (hdf : d.params.defaults = [])
    (hY : ∀ (w : World) (h : Heap), YP w h → (K w.params).In h)
    (F : ∀ (w : World) (mg : Str → Option Value) (fa : Addr) (h : Heap), (K w.params).In h → h.Ns mainGlobals mg → mg d.name = some (.ref fa) →
      ∃ fd : FuncData, (∀ (s : Shared) (u : Value), BindsTo s fd ⟨[u], []⟩ [("_law_script", u)]) ∧ ∀ base : Heap, (K w.params).In base → base.Ns mainGlobals mg → FnOk l.prog w (K w.params) mg base CX0 7 fa fd ["_law_script"] (spLaw (K w.params))) :
    PySem.W.WalkO q loose XP YP l.row.toRowW d [] (fun f vs => PySem.call f vs) :=
  L2.walk_ofW (n := 63) (k := 7) (x := "_law_script") (CX := fun _ => CX0) (sp := fun w => spLaw (K w.params)) hn (by decide) hdf ⟨rfl, by decide, by decide⟩ hY F (fun _ _ a ns hl hsm _ hS => ⟨a, ns, rfl, hS, hl, hsm, fun _ => rfl⟩) fun _ _ _ _ _ z => z
end K10

set_option Elab.async false
set_option linter.all false
namespace PySem.W.Fast
end PySem.W.Fast
open PySem PySem.W PyProof.Rows
set_option maxRecDepth 100000 in
set_option maxHeartbeats 0 in
theorem PySem.Challenge.cw_buildhall_k10_leases_refused_holds : PySem.Challenge.rw_buildhall_k10_leases_refused.Holds := by
  w_on; o_law; k_head; (case hw => w_witness2)
  k_fill
  refine K10.walk (l := PySem.Challenge.rw_buildhall_k10_leases_refused) rfl rfl (fun w h Y => PySem.W.kIn_of Y) ?F
  case F =>
    intro w mg fa h KX G hmg
    refine' K10.all_mk KX G hmg ?is_Leases ?cls_Leases ?n1 ?n2 ?n3 ?hn ?htk ?i_L ?m_holder ?m_take ?m_of ?m_renew ?m_close ?m_rows ?d_is_whole ?d_is_among ?d_is_term ?d__law_cell_at ?d__law_mixed ?d__law_word ?d__law_names ?d__law_refused ?d__law_made ?d__law_state ?d__law_filled ?d__law_all_gone ?d__law_next_one ?lk ?ll ?lc ?lp ?b_isinstance ?b_len ?b_all ?b_int ?b_bool ?b_str ?b_list ?b_range ?b_set ?b_enumerate ?b_ValueError ?g_LEAST ?g_MOST ?x_BadTerm ?x_Busy ?x_Gone ?x_NoAlarm ?x_BadName ?x_BadNumber ?x_BadNeeds ?x_BadPlan ?x_Twice ?x_NoJob ?x_Ring ?x_BadLine ?x_BadBook ?x_BadShot ?x_BadEvent ?x_BadStep ?x_BadState ?x_BadTurn ?x_BadBuilders ?x_HallError ?ga0 ?gh0 ?be0 ?hd0 ?ha0 ?hm0 ?kt0_0 ?kt0_1 ?kt0_2 ?kt0_3 ?kt0_4 ?kt0_5 ?kt0_6 ?kt0_7 ?kt0_8 ?kt0_9 ?kt0_10 ?kt0_11 ?kt0_12 ?kt0_13 ?kt0_14 ?kt0_15 ?kt0_16 ?kt0_17 ?kt0_18 ?kve0 ?exc0 ?exm0 ?ga1 ?gh1 ?be1 ?hd1 ?ha1 ?hm1 ?kt1_0 ?kt1_1 ?kt1_2 ?kt1_3 ?kt1_4 ?kt1_5 ?kt1_6 ?kt1_7 ?kt1_8 ?kt1_9 ?kt1_10 ?kt1_11 ?kt1_12 ?kt1_13 ?kt1_14 ?kt1_15 ?kt1_16 ?kt1_17 ?kt1_18 ?kve1 ?exc1 ?exm1 ?ga2 ?gh2 ?be2 ?hd2 ?ha2 ?hm2 ?kt2_0 ?kt2_1 ?kt2_2 ?kt2_3 ?kt2_4 ?kt2_5 ?kt2_6 ?kt2_7 ?kt2_8 ?kt2_9 ?kt2_10 ?kt2_11 ?kt2_12 ?kt2_13 ?kt2_14 ?kt2_15 ?kt2_16 ?kt2_17 ?kt2_18 ?kve2 ?exc2 ?exm2
    (case is_Leases => k_is)
    (case cls_Leases => refine' ⟨?_, ?_, ?_, ?_⟩ <;> k_is)
    (case n1 => k_is)
    (case n2 => k_is)
    (case n3 => k_is)
    (case hn => first | k_is | kernel_rfl)
    (case htk => first | k_is | kernel_rfl)
    case i_L =>
      refine' L2.init_mk ?a ?n ?l ?c ?k ?mk ?kC ?b
      (case a => k_is); (case n => k_is); (case l => k_is); (case c => k_is); (case k => k_is); (case mk => k_is); (case kC => k_is)
      (case b => exact fun _ _ _ _ _ _ us hl => match us, hl with | [_, _], _ => rfl)
    case m_holder =>
      refine' L2.meth_mk ?a ?n ?l ?c ?k ?b
      (case a => k_is); (case n => k_is); (case l => k_is); (case c => k_is); (case k => k_is)
      (case b => exact fun _ _ _ _ _ _ us hl => match us, hl with | [_, _], _ => rfl)
    case m_take =>
      refine' L2.meth_mk ?a ?n ?l ?c ?k ?b
      (case a => k_is); (case n => k_is); (case l => k_is); (case c => k_is); (case k => k_is)
      (case b => exact fun _ _ _ _ _ _ us hl => match us, hl with | [_, _, _, _], _ => rfl)
    case m_of =>
      refine' L2.meth_mk ?a ?n ?l ?c ?k ?b
      (case a => k_is); (case n => k_is); (case l => k_is); (case c => k_is); (case k => k_is)
      (case b => exact fun _ _ _ _ _ _ us hl => match us, hl with | [_, _], _ => rfl)
    case m_renew =>
      refine' L2.meth_mk ?a ?n ?l ?c ?k ?b
      (case a => k_is); (case n => k_is); (case l => k_is); (case c => k_is); (case k => k_is)
      (case b => exact fun _ _ _ _ _ _ us hl => match us, hl with | [_, _, _], _ => rfl)
    case m_close =>
      refine' L2.meth_mk ?a ?n ?l ?c ?k ?b
      (case a => k_is); (case n => k_is); (case l => k_is); (case c => k_is); (case k => k_is)
      (case b => exact fun _ _ _ _ _ _ us hl => match us, hl with | [_, _], _ => rfl)
    case m_rows =>
      refine' L2.meth_mk ?a ?n ?l ?c ?k ?b
      (case a => k_is); (case n => k_is); (case l => k_is); (case c => k_is); (case k => k_is)
      (case b => exact fun _ _ _ _ _ _ us hl => match us, hl with | [_], _ => rfl)
    case d_is_whole =>
      refine' L2.def_mk KX G ?a ?l ?c ?k ?b
      (case a => k_is); (case l => k_is); (case c => k_is); (case k => k_is)
      (case b => exact fun _ _ _ _ _ _ us hl => match us, hl with | [_], _ => rfl)
    case d_is_among =>
      refine' L2.def_mk KX G ?a ?l ?c ?k ?b
      (case a => k_is); (case l => k_is); (case c => k_is); (case k => k_is)
      (case b => exact fun _ _ _ _ _ _ us hl => match us, hl with | [_, _, _], _ => rfl)
    case d_is_term =>
      refine' L2.def_mk KX G ?a ?l ?c ?k ?b
      (case a => k_is); (case l => k_is); (case c => k_is); (case k => k_is)
      (case b => exact fun _ _ _ _ _ _ us hl => match us, hl with | [_], _ => rfl)
    case d__law_cell_at =>
      refine' L2.def_mk KX G ?a ?l ?c ?k ?b
      (case a => k_is); (case l => k_is); (case c => k_is); (case k => k_is)
      (case b => exact fun _ _ _ _ _ _ us hl => match us, hl with | [_, _], _ => rfl)
    case d__law_mixed =>
      refine' L2.def_mk KX G ?a ?l ?c ?k ?b
      (case a => k_is); (case l => k_is); (case c => k_is); (case k => k_is)
      (case b => exact fun _ _ _ _ _ _ us hl => match us, hl with | [_, _], _ => rfl)
    case d__law_word =>
      refine' L2.def_mk KX G ?a ?l ?c ?k ?b
      (case a => k_is); (case l => k_is); (case c => k_is); (case k => k_is)
      (case b => exact fun _ _ _ _ _ _ us hl => match us, hl with | [_], _ => rfl)
    case d__law_names =>
      refine' L2.def_mk KX G ?a ?l ?c ?k ?b
      (case a => k_is); (case l => k_is); (case c => k_is); (case k => k_is)
      (case b => exact fun _ _ _ _ _ _ us hl => match us, hl with | [_], _ => rfl)
    case d__law_refused =>
      refine' L2.def_mk KX G ?a ?l ?c ?k ?b
      (case a => k_is); (case l => k_is); (case c => k_is); (case k => k_is)
      (case b => exact fun _ _ _ _ _ _ us hl => match us, hl with | [_, _, _, _], _ => rfl)
    case d__law_made =>
      refine' L2.def_mk KX G ?a ?l ?c ?k ?b
      (case a => k_is); (case l => k_is); (case c => k_is); (case k => k_is)
      (case b => exact fun _ _ _ _ _ _ us hl => match us, hl with | [_], _ => rfl)
    case d__law_state =>
      refine' L2.def_mk KX G ?a ?l ?c ?k ?b
      (case a => k_is); (case l => k_is); (case c => k_is); (case k => k_is)
      (case b => exact fun _ _ _ _ _ _ us hl => match us, hl with | [_, _], _ => rfl)
    case d__law_filled =>
      refine' L2.def_mk KX G ?a ?l ?c ?k ?b
      (case a => k_is); (case l => k_is); (case c => k_is); (case k => k_is)
      (case b => exact fun _ _ _ _ _ _ us hl => match us, hl with | [_, _, _], _ => rfl)
    case d__law_all_gone =>
      refine' L2.def_mk KX G ?a ?l ?c ?k ?b
      (case a => k_is); (case l => k_is); (case c => k_is); (case k => k_is)
      (case b => exact fun _ _ _ _ _ _ us hl => match us, hl with | [_, _, _], _ => rfl)
    case d__law_next_one =>
      refine' L2.def_mk KX G ?a ?l ?c ?k ?b
      (case a => k_is); (case l => k_is); (case c => k_is); (case k => k_is)
      (case b => exact fun _ _ _ _ _ _ us hl => match us, hl with | [_, _, _], _ => rfl)
    (case lk => k_is)
    (case ll => k_is)
    (case lc => k_is)
    (case lp => k_is)
    (case b_isinstance => k_is)
    (case b_len => k_is)
    (case b_all => k_is)
    (case b_int => k_is)
    (case b_bool => k_is)
    (case b_str => k_is)
    (case b_list => k_is)
    (case b_range => k_is)
    (case b_set => k_is)
    (case b_enumerate => k_is)
    (case b_ValueError => k_is)
    (case g_LEAST => k_is)
    (case g_MOST => k_is)
    (case x_BadTerm => k_is)
    (case x_Busy => k_is)
    (case x_Gone => k_is)
    (case x_NoAlarm => k_is)
    (case x_BadName => k_is)
    (case x_BadNumber => k_is)
    (case x_BadNeeds => k_is)
    (case x_BadPlan => k_is)
    (case x_Twice => k_is)
    (case x_NoJob => k_is)
    (case x_Ring => k_is)
    (case x_BadLine => k_is)
    (case x_BadBook => k_is)
    (case x_BadShot => k_is)
    (case x_BadEvent => k_is)
    (case x_BadStep => k_is)
    (case x_BadState => k_is)
    (case x_BadTurn => k_is)
    (case x_BadBuilders => k_is)
    (case x_HallError => k_is)
    (case ga0 => first | k_is | kernel_rfl)
    (case gh0 => first | k_is | kernel_rfl)
    (case be0 => first | k_is | kernel_rfl)
    (case hd0 => first | k_is | kernel_rfl)
    (case ha0 => first | k_is | kernel_rfl)
    (case hm0 => first | k_is | kernel_rfl)
    (case kt0_0 => first | kernel_rfl | k_is)
    (case kt0_1 => first | kernel_rfl | k_is)
    (case kt0_2 => first | kernel_rfl | k_is)
    (case kt0_3 => first | kernel_rfl | k_is)
    (case kt0_4 => first | kernel_rfl | k_is)
    (case kt0_5 => first | kernel_rfl | k_is)
    (case kt0_6 => first | kernel_rfl | k_is)
    (case kt0_7 => first | kernel_rfl | k_is)
    (case kt0_8 => first | kernel_rfl | k_is)
    (case kt0_9 => first | kernel_rfl | k_is)
    (case kt0_10 => first | kernel_rfl | k_is)
    (case kt0_11 => first | kernel_rfl | k_is)
    (case kt0_12 => first | kernel_rfl | k_is)
    (case kt0_13 => first | kernel_rfl | k_is)
    (case kt0_14 => first | kernel_rfl | k_is)
    (case kt0_15 => first | kernel_rfl | k_is)
    (case kt0_16 => first | kernel_rfl | k_is)
    (case kt0_17 => first | kernel_rfl | k_is)
    (case kt0_18 => first | kernel_rfl | k_is)
    (case kve0 => first | kernel_rfl | k_is)
    (case exc0 => first | k_is | kernel_rfl)
    (case exm0 => first | k_is | kernel_rfl)
    (case ga1 => first | k_is | kernel_rfl)
    (case gh1 => first | k_is | kernel_rfl)
    (case be1 => first | k_is | kernel_rfl)
    (case hd1 => first | k_is | kernel_rfl)
    (case ha1 => first | k_is | kernel_rfl)
    (case hm1 => first | k_is | kernel_rfl)
    (case kt1_0 => first | kernel_rfl | k_is)
    (case kt1_1 => first | kernel_rfl | k_is)
    (case kt1_2 => first | kernel_rfl | k_is)
    (case kt1_3 => first | kernel_rfl | k_is)
    (case kt1_4 => first | kernel_rfl | k_is)
    (case kt1_5 => first | kernel_rfl | k_is)
    (case kt1_6 => first | kernel_rfl | k_is)
    (case kt1_7 => first | kernel_rfl | k_is)
    (case kt1_8 => first | kernel_rfl | k_is)
    (case kt1_9 => first | kernel_rfl | k_is)
    (case kt1_10 => first | kernel_rfl | k_is)
    (case kt1_11 => first | kernel_rfl | k_is)
    (case kt1_12 => first | kernel_rfl | k_is)
    (case kt1_13 => first | kernel_rfl | k_is)
    (case kt1_14 => first | kernel_rfl | k_is)
    (case kt1_15 => first | kernel_rfl | k_is)
    (case kt1_16 => first | kernel_rfl | k_is)
    (case kt1_17 => first | kernel_rfl | k_is)
    (case kt1_18 => first | kernel_rfl | k_is)
    (case kve1 => first | kernel_rfl | k_is)
    (case exc1 => first | k_is | kernel_rfl)
    (case exm1 => first | k_is | kernel_rfl)
    (case ga2 => first | k_is | kernel_rfl)
    (case gh2 => first | k_is | kernel_rfl)
    (case be2 => first | k_is | kernel_rfl)
    (case hd2 => first | k_is | kernel_rfl)
    (case ha2 => first | k_is | kernel_rfl)
    (case hm2 => first | k_is | kernel_rfl)
    (case kt2_0 => first | kernel_rfl | k_is)
    (case kt2_1 => first | kernel_rfl | k_is)
    (case kt2_2 => first | kernel_rfl | k_is)
    (case kt2_3 => first | kernel_rfl | k_is)
    (case kt2_4 => first | kernel_rfl | k_is)
    (case kt2_5 => first | kernel_rfl | k_is)
    (case kt2_6 => first | kernel_rfl | k_is)
    (case kt2_7 => first | kernel_rfl | k_is)
    (case kt2_8 => first | kernel_rfl | k_is)
    (case kt2_9 => first | kernel_rfl | k_is)
    (case kt2_10 => first | kernel_rfl | k_is)
    (case kt2_11 => first | kernel_rfl | k_is)
    (case kt2_12 => first | kernel_rfl | k_is)
    (case kt2_13 => first | kernel_rfl | k_is)
    (case kt2_14 => first | kernel_rfl | k_is)
    (case kt2_15 => first | kernel_rfl | k_is)
    (case kt2_16 => first | kernel_rfl | k_is)
    (case kt2_17 => first | kernel_rfl | k_is)
    (case kt2_18 => first | kernel_rfl | k_is)
    (case kve2 => first | kernel_rfl | k_is)
    (case exc2 => first | k_is | kernel_rfl)
    (case exm2 => first | k_is | kernel_rfl)
#print axioms PySem.Challenge.cw_buildhall_k10_leases_refused_holds
