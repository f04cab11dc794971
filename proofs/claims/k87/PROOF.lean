import PyProof.Rows.All
import Wide.All
import OpenK.KLine
import OpenK.KMore
import OpenK.KRaise
import OpenK.KMake
import OpenK.KOwn
import OpenK.KDescr
import OpenK.KFacts
import KE.KIntText
import KE.KIsAll
import KE.RegKIsAll
import KE.KTabLook
import KE.LcSums
import KE.KxSplit
import KE.KStrWords
import KE.KSetInts
import KE.KRevIter
import KE.KDictOf
import KE.KMinKey
import Lean
import PyProof.EqAt
import PyProof.EqKinds
import PyProof.TupleCall
import PySem.Challenge.RW_waymark_k87_rows_refused
open List(take_nil drop_nil mem_filter filterMap_cons mem_cons_self mem_cons_of_mem mem_cons mem_append mem_append_left mem_filterMap mem_append_right length_cons map_cons length_map append_nil nodup_cons of_mem_zip length_take mem_of_getElem? length_append size_toArray length_drop all_cons any_cons length_singleton length_dropLast map_nil not_mem_nil take_add_one map_append take_length take_zero range_succ map_congr_left length_range take_of_length_le drop_eq_nil_of_le drop_zero flatMap_cons getElem_mem sum_cons drop_drop mem_map cons_append mem_singleton all_eq_true map_map forIn_cons forIn_nil length_nil lookup_cons mem_range'_1 foldl_append append_assoc nil_append length_eq_zero_iff drop_succ_cons length_pos_iff drop_left length_filter_le filter_append filter_cons map_id map_take any_eq_true all_map forall_mem_cons)
set_option Elab.async false
set_option compiler.extract_closed false
set_option linter.all false
set_option maxRecDepth 100000
structure PySem.W.Fast:Prop where(tw4290864757253303354 tw16864618592142003386 tw1035953614122953912 tw14904681115217272601 tw11898673842065290130 tw4684226298888400098 tw15235614512728720 tw17680797132471856694 tw10236332898609347644 tw10539347186207431242 tw4077048163395320219 tw13913613514976480042 tw4026147355466621588 tw599730875272715187 tw13996866031312336078 tw14785633479632635281 tw6128106870883400570 tw16053306600634468012 tw4903002758410956813 tw8060666987683057360 tw16217903435359918192 tw561727478393794602 tw10988764466652934233 tw14284835775768690865 tw16822532161544500889 tw11824586356888161845 tw13298828918039433023 tw2187251505897268136 tw11024694936033576346 tw12188032599808994241 tw2629151800749243262 tw6329614223026926184 tw11063759124802658401 tw13462424878891718212 tw18335596039185421423 tw855453113358079251 tw6953138203311097117 tw6148498323302512570 tw11738243743197964597 tw12461081396071149458 tw11468729153070441980 tw8739830900816887780 tw3308634892276815127 tw4323258101793500111 tw8318101203651539667 tw14334995849660946996 tw2358075552688931204 tw14689541978594310382 tw17188069144378779261 tw17137270108147033825 tw10741264400317747893 tw8392358500681263680 tw17271881437230615512 tw2474200967059427378 tw9381626543082597023 tw11401859456886640639 tw12884060626414724322 tw6526287140368922620 tw10294118229990073760 tw18384110700954362821 tw18101783494082082527 tw15240619367488684849 tw15166322114958858414 tw9113380124883318265 tw16746677531222629524 tw8232614014015475128 tw15621415185263527259 tw786537726763496527 tw7538781388859322016 tw14219159868682941630 tw13034982811429478159 tw3919386906821981792 tw13861322856664149509 tw12887044766017154078 tw4971374062829452455 tw12681666616541194006 tw7217548393331319763 tw16636501806038632012 tw15254633091992210921 tw15214748959534726111 tw699815216081779126 tw8047209995159408440 tw18215293855667816671 tw7050804516273991350 tw13813618637161013713 tw6557801498797044033 tw5239429619861171699 tw11564986514327137767 tw11962351593759143498 tw13601115934706021691 tw13769103115541136327 tw9592521066531166775 tw5662061979359257339 tw2773992215795510196 tw9461873434466728008 tw3233987462203235646 tw7151132215420815488 tw4545961482378311905 tw6056707288978253535 tw11308061921803828041 tw1378205811072252300 tw727553628536289456 tw16766484511958638138 tw6522051377940421278 tw2827255003249426055 tw2576523973992343609 tw8374155422468719031 tw1116146690788884255 tw13459084325293418506 tw4562827626845409882 tw1932759071263863916 tw5342471268416680606 tw4413860948169739490 tw18383651708701053236 tw7933485763601977624 tw4408816720484365081 tw18367749455379333440 tw7350462372000428638 tw1342123614928995077 tw16902440903046159558 tw4075453323654395381 tw5037459499596335280 tw14341141199694864594 tw17823556299335049440 tw2295934692909999376 tw9689729476882780088 tw987426779421491659 tw8319933024895762948 tw3985964047577975286 tw9546543985431337016 tw3592811809046731828 tw8297923619242306668 tw8002303944043701648 tw12954591660760965231 tw13084661642996705785 tw14261769069557060686 tw7053471978191194526 tw11384182702204212275 tw17937168697417666835 tw7873748247521183178 tw10026605065719503897 tw15978794797337165890 tw13946496683202179788 tw12020253756985099128 tw6128145076113358165 tw12459912946257978736 tw10258873121960336067 tw8565224436197482051 tw3017473084950110804 tw10510056951384868246 tw3726453103677007866 tw8428246938381088814 tw1950803216711332702 tw7592715696027808041 tw8909772338491405060 tw206757683497733573 tw10550934584343373414 tw3300257896294614128 tw5610444585433571239 tw2172276787581067923 tw2392593158011319353 tw1825952489489211193 tw1207101557538958131 tw17338325484393633139 tw2353971826329051332 tw4607425872040536859 tw8278001386518606062 tw18407495941553956032 tw12298192366917762067 tw5832305185047221409 tw13444670453868202053 tw5890639436620234070 tw12330612334027959195 tw651700358538967526 tw11907897558876765624 tw5665240888008139550 tw17155049476370652306 tw14592624751514493413 tw11402884983299125971 tw12250869413391326473 tw10341888390210383824 tw13812277999558781770 tw9592300441314626372 tw9433028549170029634 tw5395340147747708899 tw10611411778653204182 tw5285915839522022235 tw17163426234232328066 tw8219003486749837733 tw12917704675397863716 tw8171798328758944481 tw3324424495497590471 tw13421457143807847188 tw8006371003960147343 tw2107523057676978006 tw6162269159774324313 tw4341293187932698999 tw3235425350174046738 tw17170472223608059050 tw14424681132571578402 tw1809081822641864270 tw1835201335921387983 tw4524658085876675188 tw2169353149406203877 tw896878414759379649 tw12138319994727072339 tw7220529860990300233 tw13073492499399858440 tw10618743133412781800 tw15504105790966721872 tw12549542988036985293 tw2925816871977632210 tw16203965252921439515 tw5467331546851215429 tw14243238205550065757 tw6194202620331982285 tw2483420100392427323 tw384561282630992784 tw14935467056822913822 tw6822071536725586909 tw6690350156832105676 tw14761691873820075506 tw16409965706819354750 tw8733291241859026926 tw10016166984437732892 tw13394580363473044415 tw10510019762269167821 tw9300808954929066293 tw5221592684559293012 tw4635989785427082552 tw16955839230299176341 tw1922157984580058403 tw11823594873375168262 tw16279288168775177219 tw1979317910248211280 tw11033627544408312984 tw18105302477358141223 tw3666531124078437927 tw17187875760726034783 tw12297992134047619483 tw296083027919845158 tw446995266069924076 tw14022695629967993375 tw8535803893964050539 tw18400553757987027518 tw14961746396406840608 tw16873086082458093902 tw2400638427578300857 tw6798380500665416597 tw14617222483516278133 tw12091130801917272685 tw13135312941875745310 tw1630143524128594353 tw13669536469129627823 tw2144661209622563809 tw6880980288501444468 tw1864683662541468164 tw5649666937502919571 tw9223045988441327695 tw447263597446747957 tw7764699552788554220 tw4382473104129494423 tw2244103112122482387 tw11161164713144168021 tw17464319187374939960 tw609457278022895560 tw10953238642706405951 tw2080317491765294665 tw429539710256275620 tw3365755272349913518 tw2132029292895624192 tw18095796173783872564 tw3433779192033484610 tw5233118043267047457 tw1000662321505670351 tw7086961617601330827 tw4142209100229140859 tw3303267245142563540 tw6125853113672642322 tw14391293386007564604 tw861502493610598483 tw6046103115902281144 tw14202271707224943307 tw211337195705725219 tw12468840222048715292 tw5000232492035539693 tw17062427158221528723 tw15078025765462805510 tw8222940686941784037 tw140236481695663071 tw9402243437249704421 tw18111853076867884516 tw7231845647793152400 tw9358312197846296583 tw13757698761724263525 tw4483904966330829159 tw7867829370405329436 tw12738610918357793766 tw8115137120850386438 tw5832146486336120021 tw1986786360949550309 tw16721508838639397229 tw256976265262469064 tw13710940844802916613 tw11095110211248682772 tw2597523674469684444 tw2020029945253560339 tw9536688357841153863 tw3075201292733833056 tw14935156969734317764 tw2314633323536394700 tw17863247350239516317 tw5459702643516471331 tw17318462890700432884 tw13303234937177203706 tw2424988045566436242 tw14387916025512776202 tw7164969610272591079 tw1717767836212652739 tw15764947353670896545 tw6086601852175090872 tw8159993647027272844 tw16140922888777852060 tw1572662034153507859 tw896239598344801917 tw10698057553749749337 tw18073898193381586223 tw16607193741793207195 tw7001957589650049515 tw12314708539913122752 tw2261719852989239553 tw258204147387103276 tw5344687154915797982 tw15565715512253457277 tw140001813534094272 tw14226173905949225808 tw726351398001015727 tw5444512763150141072 tw15895094517606616290 tw12652081859355081885 tw9387514328989991554 tw14845619989558847073 tw16753820520455620202 tw17602763723307633555 tw11525993766095887173 tw12930229547647579594 tw5352658492097401123 tw13622603851894308203 tw2213964242967304950 tw15763482434359817770 tw908480701973217441 tw12627051441459223148 tw16919654943277366748 tw6170744672141170255 tw7181997581385953548 tw5498123283257192965 tw4470585836733325578 tw16108870410212019532 tw4267111383703672358 tw15861351967447197489 tw247591363613054380 tw8498532028676091811 tw10374632558016547081 tw7873786274422454737 tw542563422162235373 tw1599053048872161195 tw694261584828832409 tw6714880395473160397 tw12670982853097334264 tw5694767641087392711 tw11066385474520676512 tw12132732476715806282 tw6259241058660970061 tw5323657890516693427 tw6508132753307246276 tw17397653436517662659 tw4490611911172417597 tw6782663255696616371 tw6702445572142316249 tw14196522196718054806 tw17292613610259460706 tw1383625962624193546 tw16925712312323332580 tw12669407529647801677 tw4993863958327201973 tw4046790133079468173 tw4321966507151631593 tw6105849179199505303 tw14664691819916384248 tw9510108024173832781 tw1708089923452030704 tw14560624547652848805 tw12408111787983249662 tw14520296925931582552 tw2868442198168577507 tw15925456577456769635 tw4548300405975405348 tw16298917771340976007 tw11843415546741370313 tw1402340071739887797 tw12747814925858328940 tw11267315532378154396 tw9317495090193701157 tw15621116118777243554 tw15805137534098808535 tw3300454383303005205 tw11421057715548341654 tw7322748291113730364 tw6420159726195949164 tw4102176305081739490 tw6469784823511061222 tw18183970276198133131 tw7249310025045793396 tw15910123707662034135 tw14564479935002850509 tw9215358943560890414 tw4859391219904099992 tw11151835277377553703 tw14404928986312190071 tw14736888041290939073 tw6188973233030003785 tw3543459598558145280 tw13855379610559885079 tw18004296560267143027 tw10958628066121416707 tw14703100239697439463 tw6858818405166986180 tw17518593693041627797 tw5960047855520388891 tw11524815483048965402 tw4772062507164038959 tw15142666989864626641 tw17613222154834848340 tw2931988195819169919 tw16654469307462801742 tw3641951560692057861 tw16003985067176294414 tw1956775160557780875 tw5289818103960998278 tw14154597600763967237 tw306047672372848657 tw5872530126848033075 tw6631347999910079877 tw12528533614272120300 tw2941924889016668590 tw9388066449989048879 tw10019012548757998224 tw12826555694032677247 tw4704452742865826424 tw28018229315631829 tw9796564346219866840 tw2768188642542392010 tw13956191218907399338 tw18157406047293677543 tw6542358382571353910 tw11489344026974618541 tw12740759652641322565 tw8908233856664302321 tw10910644110388302437 tw16260866306193365299 tw13813548295540068894 tw17360015989920007124 tw15685335758407661847 tw14833712730911297017 tw14995258362815363992 tw13142635158332540280 tw15771247859494662083 tw206582138325595820 tw14849461344987154502 tw5101696844757716304 tw15475723433398761304 tw13810262117814702294 tw9947508896943372755 tw2078950565319712143 tw6607644564249050058 tw11317637306720784765 tw16899829786455025840 tw15554417296805563061 tw13557862171009465336 tw12099505692703838030 tw10842938092177581297 tw2789304352393801511 tw6124413428159637790 tw10861573186032746274 tw14594842627406614536 tw17890440400047909864 tw5725222548895626118 tw9331231397406362311 tw8432719020341155521 tw2403389108928632939 tw1725486776273817318 tw172746767574481773 tw11153475782318119604 tw14036186469904095446 tw8480184845173159842 tw14993981098963755598 tw3721919958574915784 tw463774138113389760 tw11489657468027745950 tw15593559885672580101 tw9969077435446430640 tw8924819469995637033 tw4860023922305330110 tw14553807712399142462 tw9848817304349107530 tw18328257000508772394 tw17312402878845073609 tw12798174099139212305 tw13465540834166320765 tw4512776594637900181 tw15438627641174518403 tw9404705873571188630 tw3992765435912101610 tw14074196154385387334 tw8995945545434573385 tw12717557048674177747 tw5994696166404524948 tw7374399212775623666 tw9116068151291705539 tw87601786513091389 tw1401067106901849026 tw14842496431369740429 tw6548459193220583526 tw6472337539984862722 tw1835071406663858368 tw615563214671542189 tw17883462748017686043 tw13367274342830030513 tw2228412568605170491 tw622995879521568732 tw3049343062529576306 tw10297410513487048360 tw6248682570935725439 tw10387345722656961088 tw14782954611325821827 tw15401437161963490237 tw9304451534382375720 tw12921946191010883867 tw3198059409981156222 tw12901003280762261817 tw3475869608268796686 tw10903146660539688938 tw7921390202802761869 tw4804111812005502284 tw17483705464198625004 tw3713540243193553862 tw16682895059504647277 tw1205274952441263945 tw9806118890596472461 tw12727641955093265886 tw13953587524928339648 tw2480015634913765671 tw5874822333441161849 tw8865387616306378214 tw14801369171006070438 tw1495895850433845275 tw14938211915633500526 tw4538635040379822027 tw12058884036946728934 tw8899516883271353254 tw16035376269474964883 tw2570914705882880060 tw17963105932079019327 tw18361725300881549022 tw2353497105660221152 tw991626836265849350 tw3110587219445414310 tw9646623106273453227 tw17658959251048325594 tw9950792792127014553 tw10159399881129095643 tw2997480634906808460 tw17760279517084355780 tw18031968618487185184 tw14329579894275425762 tw354308444213283272 tw15433366417846715934 tw6145912378217320015 tw1972164579936704799 tw4211115844707057057 tw17980500129456985241 tw18293242582946804979 tw3953844824629472508 tw9919008367099125623 tw9744259246892133002 tw7091221385724896812 tw1051097531963168837 tw3831019782443316194 tw2646887283097553488 tw11853640710764476214 tw14172470266813156586 tw13437419889732721216 tw5341297951324810720 tw3335794202401238526 tw5992840812097835891 tw9879335643197240621 tw15173544498738437827 tw16120054744476736488 tw6968137755033780318 tw5010956058597451964 tw4186743451310774866 tw1293241653719404408 tw8166255043249204926 tw17339309145561079191 tw1054878856607437042 tw4906484309439969231 tw13366278800048369731 tw977512076041815475 tw2869065659524454656 tw17590876675597686902 tw3419001889969749887 tw9045458381397004210 tw4699756791338806529 tw443766864951011646 tw525804813940649037 tw6030501089693204938 tw14577027041581768965 tw2084650752826471497 tw643336161829623379 tw16902085369446701243 tw3099597729799864441 tw16773468814595293053 tw7007286002206832825 tw7501186508268903616 tw4171853373547519906 tw18003772858949239459 tw4953865588907285216 tw9003107776662980439 tw10192973710116140151 tw3374319085511977134 tw5702276774652866934 tw2259672571474061568 tw10519837036962490867 tw5404398260228975080 tw8912161614967838395 tw3238445694619138142 tw13343918040275786880 tw2810200551564342888 tw17267597263503486738 tw9320515035125037321 tw12550775161083096063 tw10282777137419654623 tw4449297822257671152 tw7046044490832178742 tw13307065042914920193 tw7212858340449540239 tw4561898282857576226 tw4493901809537577575 tw938635154573522699 tw6945566481307383155 tw6575520176995025181 tw15539815450414544023 tw10624116801336726872 tw13313058339493701161 tw7774113678449685934 tw4189273013823423559 tw2527701527901579348 tw13851971633180934007 tw12773500944031208451 tw5362036446546632119 tw3862579087033980201 tw15576859146164187699 tw11368310244458860372 tw8285278889055680438 tw10879749546641988924 tw5537553045615171315 tw8833860146974802555 tw8422229294311615681 tw4313010194945074917 tw16615150188913437886 tw16309811473084048462 tw9768418358887946270 tw10551173667578312727 tw2386784164831690217 tw9399754086935153974 tw4096438862311573950 tw5137589814051832496 tw3350206127114907401 tw12960429369202013873 tw12903330217458380548 tw15733337929971156237 tw523537741815420091 tw17016834523296244275 tw467448935156912217 tw3676754643040562684 tw16629204123399850450 tw6084841979344569690 tw1891733041441978011 tw16086907953836968628 tw15752536640612570366 tw9104974531708491489 tw2595585439558603231 tw2595618661548880785 tw17382457898008728272 tw17348111734160510231 tw2455152089536381482 tw17817366049700826239 tw11722297561840779299 tw6410535254896278334 tw12431713363859531893 tw6884460384040791391 tw1467881925912835984 tw12132596417379514657 tw18248855084332350957 tw5072417060200589145 tw13547939009206843870 tw14760874974797668852 tw5002640475654186023 tw7480016910919988345 tw1070438729232803039 tw15127105006835628225 tw3778530596728393105 tw2466311954974566718 tw12768989823518198380 tw1937721966566455358 tw8737599933303070863 tw4946147512530127568 tw9630203353718772412 tw13215348057498601715 tw9977182230042388008 tw6851275008772768644 tw13160504802963445071 tw514280064592716601 tw13484562703626004877 tw2015444344454546412 tw2694234056635809718 tw4015202173357781934 tw1205604411410820431 tw5438652380644606353 tw16412085850373738351 tw4051853165826885262 tw17916429707943930468 tw4309217394794523951 tw4039707410889071942 tw16109456028575089023 tw11373181179767321252 tw3801850119919557013 tw5449601097390414333 tw6278996535519779258 tw14727194681476072466 tw8431482922422412695 tw15675013803050531044 tw15779231459743154856 tw819570635367399668 tw14859695947638507448 tw17510684818845775701 tw14847308668706973960 tw15402603294489630176 tw10826640976665885199 tw14607143338591219252 tw10161179621583223854 tw772564365185477556 tw6208910965292489261 tw890339118813698166 tw13439652990877377571 tw10295913840692754127 tw14827714588952709054 tw17592209452093105858 tw1158361714356455011 tw15743010393045028110 tw539538531456391632 tw15012102849882553082 tw1840220198017710270 tw11212356425047092601 tw11662115353561507501 tw6845413283916081801 tw14903569129155370506 tw8331849164307833061 tw13055953723892786844 tw11481637867367846703 tw15870398105094248349 tw9456574344343218679 tw16839002366802243188 tw8212203176049278890 tw13257283266767686631 tw15227483606004533461 tw18375999264515656923 tw2692750590507578028 tw12488014758255163090 tw14441679199631801671 tw15499940227032437249 tw8949853181751564097 tw209982475168477708 tw10792498714594961201 tw13631397514672939371 tw5634867526602368427 tw8972062959192195235 tw14963028359598502718 tw1998347030407657756 tw14819390147424179368 tw15495752065017430504 tw14538725608371270373 tw9615563845995560447 tw7837367980739423823 tw740290905518256060 tw13069393092227542028 tw11502921971960690029 tw13053770412826190925 tw11408881796089955267 tw16670775579421159206 tw6408400580700104982 tw4938610541543285704 tw12269216009862288129 tw13674586047789940208 tw14958820412457663293 tw6327569006664949090 tw12770481643036789091 tw12003660372656728261 tw6549852094080907030 tw866652123128751154 tw10576836333797772347 tw17334828202450815106 tw10911716485165742097 tw6828597562223498359 tw13705283562680751584 tw3239113980409921550 tw11429584451438056573 tw5274481202262711730 tw5920806927976990809 tw9860861378791804195 tw3581434408401558974 tw4063829332388037331 tw5667099127317398114 tw10988312798546598065 tw9757595895972200118 tw1198783387198779033 tw8997383693586321770 tw12772213712371865176 tw18124618509676941091 tw13032259773685033708 tw3270257207059953099 tw16626521671886133394 tw13348088958985639553 tw8186657734068701312 tw16860917588515726111 tw4334401890000744311 tw17678831435119133177:True)
set_option maxHeartbeats 0 in
open_top hd for PySem.Challenge.rw_waymark_k87_rows_refused
open PySem.Str(ofString)
abbrev Tq:=List Nat
local macro_rules|`(tactic| fail "k")=>`(tactic| decide +kernel)
set_option hygiene false
local macro_rules|`($x:name)=>match x.getName with|`d=>`(by decide)|`l=>`(by lia)|`D=>`(by fail "D")|`k=>`(by fail "k")|`c=>`(by fail "c")|`s=>`(by simp)|`E=>`(fun z=>by cases z)|`a=>`(fun z=>absurd rfl z)|`m=>`(model X.prog X.w)|`M=>`(model prog w)|`n=>`(Nat.le_refl _)|`r=>`(Same.refl _)|`f=>`(mem_cons_self ..)|`z=>`(s.heap.objs.size)|`y=>`(s1.heap.objs.size)|`x=>`(xs.length)|`L=>`(l.length)|`t=>`(t.length)|`T=>`(Value->Shared->Prop)|`O=>`(List (Addr×Obj))|`V=>`(List V)|`F=>`(W.Frag)|`o=>`(⟨_,rfl⟩)|`R=>`(⟨rfl,rfl⟩)|`A=>`(⟨l.toArray⟩)|_=>Lean.Macro.throwUnsupported
set_option hygiene true
namespace L2
open PySem PySem.Spec PyProof.Rows
noncomputable abbrev Key:=Sum Int Str
noncomputable def keyIs:Key->Value->Bool
 |.inl k,v=>Value.isInt k v
 |.inr x,v=>Value.isStrOf x v
noncomputable def keyH (w:World):Key->Int
 |.inl k=>hashInt k
 |.inr x=>hashStr w x
theorem bq:∀{k:Key}{v:Value},keyIs k v=true->(∃i t,k=Sum.inl i/\v=Value.int i t)\/(∃x t,k=Sum.inr x/\v=Value.str x t)
 |.inl i,v,h=>by obtain⟨t,e⟩:=Value.isInt_shape (k:=i) (v:=v) h;exact .inl ⟨i,t,rfl,e⟩
 |.inr x,v,h=>by obtain⟨t,e⟩:=Value.isStrOf_shape (x:=x) (v:=v) h;exact .inr ⟨x,t,rfl,e⟩
theorem wO (a b:Int):decide ((Sum.inl a:Key)=Sum.inl b)=(a == b):=by
 by_cases e:a=b
 .subst e;simp
 .have h:¬ (Sum.inl a:Key)=Sum.inl b:=λq=>e (Sum.inl.inj q);rw[decide_eq_false h];exact (beq_eq_false_iff_ne.mpr e).symm
theorem wP (a b:Str):decide ((Sum.inr a:Key)=Sum.inr b)=decide (a=b):=by
 by_cases e:a=b
 .subst e;simp
 .have h:¬ (Sum.inr a:Key)=Sum.inr b:=λq=>e (Sum.inr.inj q);rw[decide_eq_false h,decide_eq_false e]
theorem wQ (a:Int)(b:Str):decide ((Sum.inl a:Key)=Sum.inr b)=false:=decide_eq_false (λq=>nomatch q)
theorem wS (a:Str)(b:Int):decide ((Sum.inr a:Key)=Sum.inl b)=false:=decide_eq_false (λq=>nomatch q)
noncomputable def mixKind (prog:Program)(w:World):PySem.KeyKind prog w Key where
 is:=keyIs
 hash:=keyH w
 inj:=λv a b ha hb=>by
  rcases bq ha with⟨i,t,rfl,rfl⟩|⟨x,t,rfl,rfl⟩
  .rcases bq hb with⟨j,u,rfl,e⟩|⟨y,u,rfl,e⟩
   .injection e with e1 _;rw[e1]
   .exact nomatch e
  .rcases bq hb with⟨j,u,rfl,e⟩|⟨y,u,rfl,e⟩
   .exact nomatch e
   .injection e with e1 _;rw[e1]
 byValue:=λk v h=>by rcases bq h with⟨i,t,rfl,rfl⟩|⟨x,t,rfl,rfl⟩ <;> rfl
 pyHash:=λhv h=>by
  rcases bq hv with⟨i,t,rfl,rfl⟩|⟨x,t,rfl,rfl⟩
  .exact wpAny_pyHash_int h
  .exact wpAny_pyHash_str h
 eqBool:=λhu hv h=>by
  rcases bq hu with⟨i,t,rfl,rfl⟩|⟨x,t,rfl,rfl⟩
  .rcases bq hv with⟨j,u,rfl,rfl⟩|⟨y,u,rfl,rfl⟩
   .rw[wO] at h;exact wpAny_eqBool_int h
   .rw[wQ] at h;exact SeqAt.EqAt.int_str i t y u _ _ _ _ h
  .rcases bq hv with⟨j,u,rfl,rfl⟩|⟨y,u,rfl,rfl⟩
   .rw[wS] at h;exact SeqAt.EqAt.str_int x t j u _ _ _ _ h
   .rw[wP] at h;exact wpAny_eqBool_str h
 «strs»:=λk x t v h=>by
  rcases bq h with⟨i,u,rfl,e⟩|⟨y,u,rfl,e⟩
  .exact nomatch e
  .injection e with e1 _;subst e1;cases v <;> rfl
inductive V where
 |non|bl (b:Bool)|int (i:Int)|str (x:Str)|byt (b:Array UInt8)|flt (b:UInt64)|ref (a:Addr)|ty (n:String)
 deriving DecidableEq
def RelV:V->Value->Prop
 |.non,u=>u=Value.none
 |.bl b,u=>u=Value.bool b
 |.int i,u=>∃t,u=Value.int i t
 |.str x,u=>∃t,u=Value.str x t
 |.byt b,u=>∃t,u=Value.bytes b t
 |.flt b,u=>∃t,u=Value.float b t
 |.ref a,u=>u=Value.ref a
 |.ty n,u=>u=Value.type n
abbrev Vals:`V->List Value->Prop:=Paired RelV
theorem Vals.length {xs:`V}{us:List Value}(r:Vals xs us):`x=us.length:=Paired.length r
theorem Vals.get {xs:`V}{us:List Value}{i:Nat}{x:V}(h:Vals xs us)(e:xs[i]?=some x):∃u,us[i]?=some u/\RelV x u:=by
 induction h generalizing i with
 |nil=>cases e
 |cons r _ ih=>cases i with
  |zero=>cases e;exact⟨_,rfl,r⟩
  |succ i=>exact ih e
theorem Vals.append {xs ys:`V}{us ws:List Value}(h:Vals xs us)(s:Vals ys ws):Vals (xs++ys) (us++ws):=by
 induction h with
 |nil=>exact s
 |cons r _ ih=>exact .cons r ih
theorem Vals.take {xs:`V}{us:List Value}(n:Nat)(h:Vals xs us):Vals (xs.take n) (us.take n):=by
 induction h generalizing n with
 |nil=>rw[take_nil,take_nil];exact .nil
 |cons r _ ih=>cases n with
  |zero=>exact .nil
  |succ n=>exact .cons r (ih n)
theorem Vals.drop {xs:`V}{us:List Value}(n:Nat)(h:Vals xs us):Vals (xs.drop n) (us.drop n):=by
 induction h generalizing n with
 |nil=>rw[drop_nil,drop_nil];exact .nil
 |cons r t ih=>cases n with
  |zero=>exact .cons r t
  |succ n=>exact ih n
def RelO:Option V->Option Value->Prop
 |some v,some u=>RelV v u
 |none,none=>True
 |_,_=>False
def KV {κ:Type}:List (κ×V)->List (κ×Value)->Prop:=Paired λ(p:κ×V) (q:κ×Value)=>p.1=q.1/\RelV p.2 q.2
noncomputable def kV:Key->V
 |.inl i=>.int i
 |.inr x=>.str x
inductive HO where
 |lst (xs:`V)
 |tup (xs:`V)
 |dK (kvs:List (Key×V))|dT (kvs:List (List Key×V))
 |set (S:Int->Bool) (n:Nat)
 |ins (C dx:Addr) (fs:List (Str×V))
 |own (x:Addr)
 |xd (fs:List (Str×V))
 |met (f x:Addr)
 |rng (lo hi:Int)
 |frz (o:Obj) (u:HO)
 |tbl (ps:Array Value)
 |ext (φ:Heap->Prop)
noncomputable abbrev Hp:=Addr->Option HO
noncomputable def upd (H:Hp)(a:Addr)(o:HO):Hp:=λb=>if b=a then some o else H b
theorem aE {H:Hp}{a:Addr}{o:HO}:upd H a o a=some o:=by unfold upd;rw[if_pos rfl]
theorem aD {H:Hp}{a b:Addr}{o:HO}(h:b≠a):upd H a o b=H b:=by unfold upd;rw[if_neg h]
theorem lq {H:Hp}{a:Addr}{o u:HO}:upd (upd H a o) a u=upd H a u:=by funext b;unfold upd;split <;> rfl
theorem bU {H:Hp}{a b:Addr}{o u:HO}(h:H a=some o)(h':H b=some u)(d:o≠u):a≠b:=by intro e;subst e;rw[h] at h';exact d (Option.some.inj h')
theorem aJ {H:Hp}{a b:Addr}{o:HO}(h:H a=some o)(h':H b=none):a≠b:=by intro e;subst e;rw[h] at h';cases h'
section
variable (P:Program)(w:World)
def ObjOk (H:Hp)(h:Heap)(a:Addr):HO->Prop
 |.lst xs=>`x<=sizeLine/\∃(its:List Value) (n:Nat),Vals xs its/\h.get? a=some {cls:=.type "list",data:=.seq its.toArray n}
 |.tup xs=>`x<=sizeLine/\∃its:List Value,Vals xs its/\IsTup h a its.toArray
 |.dK kvs=>kvs.length<=sizeLine/\(a == sysModules)=false/\∃vs,KV kvs vs/\h.DictOf (mixKind P w) a vs
 |.dT kvs=>kvs.length<=sizeLine/\(a == sysModules)=false/\∃xs:List (List Key×Addr×Value),
   Paired (λ(p:List Key×V) (q:List Key×Addr×Value)=>p.1=q.1/\H q.2.1=some (.tup (p.1.map kV))/\RelV p.2 q.2.2) kvs xs/\
   ∃o es ep,h.get? a=some o/\o.ExactDict/\o.data=.dict es ep/\es.toList=xs.map (entryOfKey (tupleKind (mixKind P w)))/\(xs.map (·.1)).Nodup
 |.set S n=>h.SetOf (intKind P w) a S n
 |.ins C dx fs=>H dx=some (.own a)/\fs.length<=1000/\dx≠a/\h.get? a=some (PySem.W.instObj C dx)/\
   ∃mA,h.Ns1 dx mA/\(∀f,RelO (fs.lookup f) (mA f))/\PySem.Within mA (fs.map (·.1))
 |.own _=>∃o,h.get? a=some o
 |.xd fs=>∃mA,h.Ns1 a mA/\∀f,RelO (fs.lookup f) (mA f)
 |.rng lo hi=>∃t u v,h.get? a=some {cls:=.type "range",data:=.fields #[.int lo t,.int hi u,.int 1 v]}
 |.frz o u=>h.get? a=some o/\ObjOk H h a u
 |.tbl ps=>h.get? a=some {cls:=.none,data:=.fields ps}
 |.met f x=>h.get? a=some (PySem.W.methodObj (.ref f) (.ref x))
 |.ext φ=>φ h/\(∃o,h.get? a=some o)/\∀h1 h2:Heap,φ h1->(∀o,h1.get? a=some o->h2.get? a=some o)->φ h2
def HOk (H:Hp)(h:Heap):Prop:=∀a o,H a=some o->ObjOk P w H h a o
end
section
variable {P:Program}{w:World}{H H':Hp}{h h':Heap}{a:Addr}{o:HO}
theorem ObjOk.lt (x:ObjOk P w H h a o):a < h.objs.size:=by
 cases o with
 |lst xs=>obtain⟨_,_,_,_,e⟩:=x;exact Heap.lt_size e
 |tup xs=>obtain⟨_,_,_,p⟩:=x;exact p.lt
 |dK kvs=>obtain⟨_,_,_,_,o,_,_,e,_⟩:=x;exact Heap.lt_size e
 |dT kvs=>obtain⟨_,_,_,_,o,_,_,e,_⟩:=x;exact Heap.lt_size e
 |set S n=>obtain⟨o,_,_,_,e,_⟩:=x;exact Heap.lt_size e
 |ins C dx fs=>obtain⟨_,_,_,e,_⟩:=x;exact Heap.lt_size e
 |own y=>obtain⟨_,e⟩:=x;exact Heap.lt_size e
 |xd fs=>obtain⟨_,⟨_,_,_,e,_⟩,_⟩:=x;exact Heap.lt_size e
 |rng lo hi=>obtain⟨_,_,_,e⟩:=x;exact Heap.lt_size e
 |frz ob u=>obtain⟨e,_⟩:=x;exact Heap.lt_size e
 |tbl ps=>exact Heap.lt_size (show h.get? a=some _ from x)
 |met f y=>exact Heap.lt_size (show h.get? a=some _ from x)
 |ext φ=>obtain⟨_,⟨_,e⟩,_⟩:=x;exact Heap.lt_size e
theorem Paired.mapP {α β:Type}{F G:α->β->Prop}{l₁:List α}{l₂:List β}(h:Paired F l₁ l₂)(f:∀a b,F a b->G a b):Paired G l₁ l₂:=by
 induction h with
 |nil=>exact .nil
 |cons r _ ih=>exact .cons (f _ _ r) ih
theorem ObjOk.stay (x:ObjOk P w H h a o)(k:∀b u,(b=a\/H b=some (.own a))->h.get? b=some u->h'.get? b=some u)
  (ho:∀b,H b=some (.own a)->H' b=some (.own a)) (ht:∀b xs,H b=some (.tup xs)->H' b=some (.tup xs)):ObjOk P w H' h' a o:=by
 induction o with
 |lst xs=>obtain⟨z,ad,n,r,e⟩:=x;exact⟨z,ad,n,r,k _ _ (.inl rfl) e⟩
 |tup xs=>obtain⟨z,ad,r,ob,e,c⟩:=x;exact⟨z,ad,r,ob,k _ _ (.inl rfl) e,c⟩
 |dK kvs=>obtain⟨z,y,vs,r,ob,es,ep,e,c⟩:=x;exact⟨z,y,vs,r,ob,es,ep,k _ _ (.inl rfl) e,c⟩
 |dT kvs=>obtain⟨z,y,xs,r,ob,es,ep,e,c⟩:=x;exact⟨z,y,xs,Paired.mapP r λp q z=>⟨z.1,ht _ _ z.2.1,z.2.2⟩,ob,es,ep,k _ _ (.inl rfl) e,c⟩
 |set S n=>obtain⟨ob,es,ep,t,e,c⟩:=x;exact⟨ob,es,ep,t,k _ _ (.inl rfl) e,c⟩
 |ins C dx fs=>obtain⟨d,z,ne,e,mA,⟨od,es,ep,e2,c⟩,r⟩:=x;exact⟨ho _ d,z,ne,k _ _ (.inl rfl) e,mA,⟨od,es,ep,k _ _ (.inr d) e2,c⟩,r⟩
 |own y=>obtain⟨ob,e⟩:=x;exact⟨ob,k _ _ (.inl rfl) e⟩
 |xd fs=>obtain⟨mA,⟨od,es,ep,e,c⟩,r⟩:=x;exact⟨mA,⟨od,es,ep,k _ _ (.inl rfl) e,c⟩,r⟩
 |rng lo hi=>obtain⟨t,u,v,e⟩:=x;exact⟨t,u,v,k _ _ (.inl rfl) e⟩
 |frz ob u ih=>obtain⟨e,q⟩:=x;exact⟨k _ _ (.inl rfl) e,ih q⟩
 |tbl ps=>have e:h.get? a=some {cls:=.none,data:=.fields ps}:=x;show h'.get? a=some {cls:=.none,data:=.fields ps};exact k a _ (.inl rfl) e
 |met f y=>have e:h.get? a=some (PySem.W.methodObj (.ref f) (.ref y)):=x;show h'.get? a=some (PySem.W.methodObj (.ref f) (.ref y));exact k a _ (.inl rfl) e
 |ext φ=>obtain⟨p,⟨o,e⟩,st⟩:=x;exact⟨st _ _ p λo q=>k _ _ (.inl rfl) q,⟨o,k _ _ (.inl rfl) e⟩,st⟩
theorem HOk.lt (x:HOk P w H h)(e:H a=some o):a < h.objs.size:=(x a o e).lt
theorem HOk.fresh (x:HOk P w H h)(e:h.objs.size<=a):H a=none:=by
 cases q:H a with
 |none=>rfl
 |some u=>exact absurd (Nat.lt_of_lt_of_le (x.lt q) e) (Nat.lt_irrefl _)
theorem HOk.kept (x:HOk P w H h)(k:∀b u,h.get? b=some u->h'.get? b=some u):HOk P w H h':=λa o e=>
 (x a o e).stay (λb u _ q=>k b u q) (λ_ q=>q) λ_ _ q=>q
theorem HOk.laid (x:HOk P w H h)(k:∀b u,h.get? b=some u->h'.get? b=some u)(hp:h.objs.size<=a)(new:ObjOk P w (upd H a o) h' a o):HOk P w (upd H a o) h':=λb u e=>by
 have hn:=x.fresh hp;by_cases hb:b=a
 .subst hb;rw[aE] at e;cases e;exact new
 .rw[aD hb] at e;exact (x b u e).stay (λc v _ q=>k c v q) (λc q=>by rw[aD (aJ q hn)];exact q) λc xs q=>by rw[aD (aJ q hn)];exact q
end
def Rd (H:Hp)(a:Addr)(u:HO):Prop:=H a=some u\/∃o,H a=some (.frz o u)
theorem Rd.ok {P:Program}{w:World}{H:Hp}{h:Heap}{a:Addr}{u:HO}(r:Rd H a u)(x:HOk P w H h):ObjOk P w H h a u:=by
 rcases r with r|⟨o,r⟩
 .exact x a u r
 .obtain⟨_,q⟩:=x a _ r;exact q
def Mut:Option HO->Prop
 |some (.lst _)=>True
 |some (.dK _)=>True
 |some (.dT _)=>True
 |some (.set _ _)=>True
 |some (.ins _ _ _)=>True
 |some (.ext _)=>True
 |_=>False
section
variable {P:Program}{w:World}{H:Hp}{h h':Heap}{x e:Addr}{o':HO}
theorem HOk.write (ok:HOk P w H h)(mu:Mut (H x))(he:e=x\/H e=some (.own x))(k:∀b u,b≠e->h.get? b=some u->h'.get? b=some u)(heo:∃u,h'.get? e=some u)
  (new:ObjOk P w (upd H x o') h' x o'):HOk P w (upd H x o') h':=λb u q=>by
 have nown:∀c y,H c=some (.own y)->c≠x:=λc y r z=>by subst z;rw[r] at mu;exact mu
 have ntup:∀c xs,H c=some (.tup xs)->c≠x:=λc xs r z=>by subst z;rw[r] at mu;exact mu
 by_cases hb:b=x
 .subst hb;rw[aE] at q;cases q;exact new
 .rw[aD hb] at q;by_cases hbe:b=e
  .have q':H b=some (.own x):=by
    rcases he with z|z
    .exact absurd (hbe.trans z) hb
    .rw[hbe];exact z
   rw[q] at q';cases q';obtain⟨v,hv⟩:=heo;exact⟨v,by rw[hbe];exact hv⟩
  .refine (ok b u q).stay (λc v hc r=>k c v ?_ r) (λc r=>by rw[aD (nown c b r)];exact r) λc xs r=>by rw[aD (ntup c xs r)];exact r
   rcases hc with rfl|hc
   .exact hbe
   .rintro rfl;rcases he with z|z
    .exact nown c b hc z
    .rw[hc] at z;cases z;exact hb rfl
end
structure Un (fs ex:List Addr)(H H':Hp)(h h':Heap):Prop where
 keep:∀b o,h.get? b=some o->H b=none->b∉fs->b∉ex->h'.get? b=some o
 slot:∀b o,h.get? b=some o->H b=none->b∈fs->b∉ex->∃sl,h'.get? b=some {o with slots:=sl}
 free:∀b o,h.get? b=some o->H b=none->b∉ex->H' b=none
 there:∀b o,h.get? b=some o->b∉ex->∃o',h'.get? b=some o'
 tups:∀b xs,H b=some (.tup xs)->H' b=some (.tup xs)
 frzs:∀b o u,H b=some (.frz o u)->H' b=some (.frz o u)
 tbls:∀b ps,H b=some (.tbl ps)->∃more,H' b=some (.tbl (ps++more))
section
variable {fs ex:List Addr}{H H1:Hp}{h h1 h':Heap}{a x e:Addr}{o:HO}
theorem Un.any (u:Un fs ex H H1 h h1){b:Addr}{ob:Obj}(q:h.get? b=some ob)(n:H b=none)(hx:b∉ex):∃sl,h1.get? b=some {ob with slots:=sl}:=by
 by_cases hb:b∈fs
 .exact u.slot b ob q n hb hx
 .exact⟨ob.slots,u.keep b ob q n hb hx⟩
theorem Un.kept (k:∀b u,h.get? b=some u->h'.get? b=some u):Un fs ex H H h h':=
 ⟨λb ob q _ _ _=>k b ob q,λb ob q _ _ _=>⟨ob.slots,k b ob q⟩,λ_ _ _ n _=>n,λb ob q _=>⟨ob,k b ob q⟩,λ_ _ q=>q,λ_ _ _ q=>q,λ_ ps q=>⟨#[],by rw[q];simp⟩⟩
theorem Un.refl:Un fs ex H H h h:=Un.kept λ_ _ q=>q
theorem Un.laid (k:∀b u,h.get? b=some u->h'.get? b=some u)(hp:h.objs.size<=a)(hn:H a=none):Un fs ex H (upd H a o) h h' where
 keep:=λb u q _ _ _=>k b u q
 slot:=λb u q _ _ _=>⟨u.slots,k b u q⟩
 free:=λb u q n _=>by rw[aD (Nat.ne_of_lt (Nat.lt_of_lt_of_le (Heap.lt_size q) hp))];exact n
 there:=λb u q _=>⟨u,k b u q⟩
 tups:=λb xs q=>by rw[aD (aJ q hn)];exact q
 frzs:=λb u xs q=>by rw[aD (aJ q hn)];exact q
 tbls:=λb ps q=>⟨#[],by rw[aD (aJ q hn),q];simp⟩
theorem Un.write (mu:Mut (H x))(he:e=x\/H e=some (.own x))(k:∀b u,b≠e->h.get? b=some u->h'.get? b=some u)(heo:∃u,h'.get? e=some u):Un fs ex H (upd H x o) h h':=by
 have hx:∀b,H b=none->b≠x:=λb n z=>by subst z;rw[n] at mu;exact mu
 have hb:∀b,H b=none->b≠e:=λb n z=>by
  subst z;rcases he with r|r
  .exact hx b n r
  .rw[n] at r;cases r
 have hm:∀b u,H b=some u->¬ Mut (some u)->b≠x:=λb u q nm z=>by subst z;rw[q] at mu;exact nm mu
 refine⟨λb u q n _ _=>k b u (hb b n) q,λb u q n _ _=>⟨u.slots,k b u (hb b n) q⟩,λb u q n _=>by rw[aD (hx b n)];exact n,λb u q _=>?_,
  λb xs q=>by rw[aD (hm b _ q λz=>z)];exact q,λb u xs q=>by rw[aD (hm b _ q λz=>z)];exact q,λb ps q=>⟨#[],by rw[aD (hm b _ q λz=>z),q];simp⟩⟩
 by_cases ad:b=e
 .subst ad;exact heo
 .exact⟨u,k b u ad q⟩
end
noncomputable def trk (h:Heap)(H:Hp):List Addr:=(List.range h.objs.size).filter λa=>(H a).isSome
noncomputable def hidT (h:Heap)(H:Hp):Heap:=PySem.W.hideAll h (trk h H)
theorem wU (h:Heap)(H:Hp):(hidT h H).objs.size=h.objs.size:=PySem.W.hideAll_size _ _
theorem wV {h:Heap}{H:Hp}{b:Addr}{o:Obj}(e:h.get? b=some o)(n:H b=none):(hidT h H).get? b=some o:=
 PySem.W.hideAll_get _ e λhm=>by have q:(H b).isSome=true:=(mem_filter.mp hm).2;rw[n] at q;simp at q
theorem wW {h:Heap}{H:Hp}{b:Addr}{o:Obj}(e:(hidT h H).get? b=some o):h.get? b=some o/\H b=none:=by
 have e':h.get? b=some o:=PySem.W.of_hideAll (trk h H) e;refine⟨e',?_⟩;cases q:H b with
 |none=>rfl
 |some x=>have hm:b∈trk h H:=mem_filter.mpr ⟨List.mem_range.mpr (Heap.lt_size e'),by simp[q]⟩;have z:(hidT h H).get? b=none:=PySem.W.hideAll_none (trk h H) hm;rw[z] at e;cases e
noncomputable def allNews (g h:Heap)(L:Addr):`O:=(List.range h.objs.size).filterMap λa=>if a=L\/(g.get? a).isSome=true then none else (h.get? a).map λo=>(a,o)
noncomputable def rest (g h:Heap)(L d:Addr):`O:=(allNews g h L).filter λp=>decide (p.1≠d)
structure Mod (K:`F)(mg:Str->Option Value)(base:Heap):Prop where
 kin:K.In base
 glob:base.Ns mainGlobals mg
 blt:∃mb,base.Ns builtinsNs mb/\∀x:Str,x ≠ "__name__" -> mb x=bootBuiltins x
 nolimit:base.NoLimit
structure Cx where
 prog:Program
 w:World
 K:`F
 mg:Str->Option Value
 base:Heap
 A:Around
 N:List Str
 s₀:Shared
 H₀:Hp
 env:Env
 outer:List Env
 stack:List Env
 ex:List Addr
 fn:Str->Bool
 calm:Bool
 pn:`O
 xe:Value->Shared->Prop
noncomputable def frs (l:List Env):List Addr:=l.filterMap (·.frame)
noncomputable abbrev Cx.fs (X:Cx):List Addr:=frs X.outer
def Vis (sc:Scope)(x:Str):Prop:=sc.names.lookup x=some .local\/sc.names.lookup x=some .cell\/sc.names.lookup x=some .free
def Loc (sc:Scope)(x:Str):Prop:=sc.names.lookup x=some .local\/sc.names.lookup x=some .cell
def Look (env:Env)(h:Heap)(m:Str->Option Value)(x:Str)(u:Value):Prop:=
 (env.kindOf x=some .local/\m x=some u)\/((env.kindOf x=some .cell\/env.kindOf x=some .free)/\∃c,env.cells.lookup x=some c/\h.IsCell c (some u))
structure Cx.Ok (X:Cx):Prop where
 mod:Mod X.K X.mg X.base
 kind:X.env.scope.kind=.function
 glob:X.env.globals=mainGlobals
 blt:X.env.builtins=builtinsNs
 above:X.s₀.heap.objs.size<=X.env.locals
 inj:∀x y c,X.env.cells.lookup x=some c->X.env.cells.lookup y=some c->x=y
 has:∀x,(X.env.kindOf x=some .cell\/X.env.kindOf x=some .free)->∃c,X.env.cells.lookup x=some c
 cab:∀x c,X.fn x=true->X.env.cells.lookup x=some c->X.s₀.heap.objs.size<=c
 hd:X.calm=true->X.A.handled=none
 frames:X.A.frames=some X.stack
 stk:X.stack=X.outer\/(X.stack=X.env::X.outer/\X.env.frame=some X.env.locals)
 exf:∀b∈X.ex,b≠X.env.locals/\∀x c,X.env.cells.lookup x=some c->c≠b
 bs:∀b o,X.base.get? b=some o->X.s₀.heap.get? b=some o/\X.H₀ b=none
 bsz:X.base.objs.size<=X.s₀.heap.objs.size
 noex:∀b o,X.base.get? b=some o->b∉X.ex
 exfs:∀b∈X.ex,b∉X.fs
 funs:X.s₀.heap.FunFrames X.base X.outer
 frf:∀b∈X.fs,X.H₀ b=none
structure Inv (X:Cx)(pins:`O)(Z:List (Option V))(H:Hp)(s:Shared):Prop where
 ok:X.Ok
 os:s.os=X.s₀.os
 bare:AllBare s.gens
 base:Un X.fs X.ex X.H₀ H X.s₀.heap s.heap
 loc:∃m,s.heap.Ns X.env.locals m/\∀(i:Nat) (x:Str) (v:V),X.N[i]?=some x->Z[i]?=some (some v)->Vis X.env.scope x->∃u,RelV v u/\Look X.env s.heap m x u
 cell:∀x c,X.env.cells.lookup x=some c->∃v,s.heap.IsCell c v
 free:H X.env.locals=none
 freeC:∀x c,X.env.cells.lookup x=some c->H c=none
 pin:∀p∈X.pn++pins,s.heap.get? p.1=some p.2/\H p.1=none/\p.1≠X.env.locals/\p.1∉X.fs/\∀v,p.2.data≠.cell v
 hok:HOk X.prog X.w H s.heap
 len:Z.length=X.N.length
section
variable {X:Cx}{pins:`O}{Z:List (Option V)}{H H':Hp}{s:Shared}{h':Heap}
theorem Cx.Ok.nofr (ok:X.Ok){b:Addr}{o:Obj}(e:X.base.get? b=some o):b∉X.fs:=λhb=>by have:=(ok.funs.mem hb).1;rw[e] at this;cases this
theorem Inv.bs (I:Inv X pins Z H s):∀b o,X.base.get? b=some o->s.heap.get? b=some o/\H b=none:=λb o e=>
 ⟨I.base.keep b o (I.ok.bs b o e).1 (I.ok.bs b o e).2 (I.ok.nofr e) (I.ok.noex b o e),I.base.free b o (I.ok.bs b o e).1 (I.ok.bs b o e).2 (I.ok.noex b o e)⟩
theorem Inv.bk (I:Inv X pins Z H s):∀b o,X.base.get? b=some o->s.heap.get? b=some o:=λb o e=>(I.bs b o e).1
theorem Inv.mod (I:Inv X pins Z H s):Mod X.K X.mg X.base:=I.ok.mod
theorem Inv.kIn (I:Inv X pins Z H s):X.K.In s.heap:=I.ok.mod.kin.keeps I.bk
theorem Inv.lt (I:Inv X pins Z H s):X.env.locals < `z:=let ⟨_,hn,_⟩:=I.loc;hn.lt
theorem Inv.sz (I:Inv X pins Z H s):X.s₀.heap.objs.size<=`z:=Nat.le_trans I.ok.above (Nat.le_of_lt I.lt)
theorem Inv.nofs (I:Inv X pins Z H s){a:Addr}(h:`z<=a):a∉X.fs:=λhb=>by obtain⟨_,o,ho,_⟩:=I.ok.funs.mem hb;exact absurd (Nat.lt_of_lt_of_le (Heap.lt_size ho) (Nat.le_trans I.sz h)) (Nat.lt_irrefl _)
theorem Inv.cne (I:Inv X pins Z H s):∀x c,X.env.cells.lookup x=some c->c≠X.env.locals:=λx c e z=>by obtain⟨v,o,ho,hd⟩:=I.cell x c e;obtain⟨m,⟨o',es,ep,ho',hd',_⟩,_⟩:=I.loc;rw[z,ho'] at ho;cases ho;rw[hd'] at hd;cases hd
theorem Inv.funs (I:Inv X pins Z H s):s.heap.FunFrames X.base X.outer:=by
 have ad:∀(l:List Env),(∀b∈frs l,b∈X.fs)->X.s₀.heap.FunFrames X.base l->s.heap.FunFrames X.base l:=by
  intro l;induction l with
  |nil=>intro _ _;trivial
  |cons env r ih=>intro hs hl;obtain⟨hk,⟨L,o,hf,hn,ho,hd⟩,hr⟩:=hl;have hL:L∈X.fs:=hs L (by unfold frs;rw[filterMap_cons,hf];exact mem_cons_self);obtain⟨sl,e⟩:=I.base.slot L o ho (I.ok.frf L hL) hL λz=>I.ok.exfs L z hL;exact⟨hk,⟨L,_,hf,hn,e,hd⟩,ih (λb hb=>hs b (by unfold frs;rw[filterMap_cons,hf];exact mem_cons_of_mem _ hb)) hr⟩
 exact ad X.outer (λ_ hb=>hb) I.ok.funs
theorem Inv.stack (I:Inv X pins Z H s):s.heap.FunFrames X.base X.stack:=by
 rcases I.ok.stk with e|⟨e,hf⟩
 .rw[e];exact I.funs
 .rw[e];obtain⟨m,hn,_⟩:=I.loc;refine .cons (by rw[I.ok.kind];decide) hf hn ?_ I.funs;exact Heap.get?_none_of_le (Nat.le_trans I.ok.bsz I.ok.above)
theorem Inv.stkSub (I:Inv X pins Z H s):∀b∈frs X.stack,b∈X.env.locals::X.fs:=λb hb=>by
 rcases I.ok.stk with e|⟨e,hf⟩
 .rw[e] at hb;exact mem_cons_of_mem _ hb
 .rw[e] at hb;unfold frs at hb;rw[filterMap_cons,hf] at hb;exact hb
theorem Inv.stkFree (I:Inv X pins Z H s):∀b∈frs X.stack,H b=none:=λb hb=>by
 rcases mem_cons.mp (I.stkSub b hb) with e|hb
 .rw[e];exact I.free
 .obtain⟨_,o,ho,_⟩:=I.ok.funs.mem hb;exact I.base.free b o ho (I.ok.frf b hb) λz=>I.ok.exfs b z hb
theorem Inv.step {g':Array GenState}{t':Nat}{d':Drawn}{ch:List Addr}(I:Inv X pins Z H s)
  (hch:∀b∈ch,(b∈X.ex\/X.s₀.heap.objs.size<=b)/\b≠X.env.locals/\(∀x c,X.env.cells.lookup x=some c->c≠b)/\∀p∈X.pn++pins,p.1≠b)
  (keep:∀b o,b≠X.env.locals->b∉X.fs->b∉ch->s.heap.get? b=some o->H b=none->h'.get? b=some o)
  (slot:∀b o,b≠X.env.locals->b∈X.fs->b∉ch->s.heap.get? b=some o->H b=none->∃sl,h'.get? b=some {o with slots:=sl}) (free:∀b o,b∉ch->s.heap.get? b=some o->H b=none->H' b=none)
  (there:∀b o,b∉ch->s.heap.get? b=some o->∃o',h'.get? b=some o')
  (tups:∀b xs,H b=some (.tup xs)->H' b=some (.tup xs)) (frzs:∀b o u,H b=some (.frz o u)->H' b=some (.frz o u)) (tbls:∀b ps,H b=some (.tbl ps)->∃more,H' b=some (.tbl (ps++more)))
  (ns:∀m,s.heap.Ns X.env.locals m->h'.Ns X.env.locals m) (hok:HOk X.prog X.w H' h') (hg:AllBare g') :
  Inv X pins Z H' { s with heap:=h',gens:=g',drawn:=d',toks:=t' }:=by
 have BT:∀b o,X.s₀.heap.get? b=some o->b≠X.env.locals:=λb o e=>Nat.ne_of_lt (Nat.lt_of_lt_of_le (Heap.lt_size e) I.ok.above);have mt:∀b o,X.s₀.heap.get? b=some o->b∉X.ex->b∉ch:=λb o e hx hb=>by
  rcases (hch b hb).1 with z|z
  .exact hx z
  .exact absurd (Nat.lt_of_lt_of_le (Heap.lt_size e) z) (Nat.lt_irrefl _)
 have ad:∀x c,X.env.cells.lookup x=some c->∀v,s.heap.IsCell c v->h'.IsCell c v:=λx c e v ⟨o,ho,hd⟩=>by
  have dl:c∉ch:=λz=>(hch c z).2.2.1 x c e rfl;by_cases hc:c∈X.fs
  .obtain⟨sl,q⟩:=slot c o (I.cne x c e) hc dl ho (I.freeC x c e);exact⟨_,q,hd⟩
  .exact⟨o,keep c o (I.cne x c e) hc dl ho (I.freeC x c e),hd⟩
 refine⟨I.ok,I.os,hg,⟨λb o e n hb hx=>?_,λb o e n hb hx=>?_,λb o e n hx=>?_,λb o e hx=>?_,λb xs e=>tups b xs (I.base.tups b xs e),λb o xs e=>frzs b o xs (I.base.frzs b o xs e),λb ps e=>?_⟩,?_,λx c e=>?_,?_,λx c e=>?_,λp hp=>?_,hok,I.len⟩
 .exact keep b o (BT b o e) hb (mt b o e hx) (I.base.keep b o e n hb hx) (I.base.free b o e n hx)
 .obtain⟨sl,e1⟩:=I.base.slot b o e n hb hx;obtain⟨Cl,e2⟩:=slot b _ (BT b o e) hb (mt b o e hx) e1 (I.base.free b o e n hx);exact⟨Cl,e2⟩
 .obtain⟨o',e1⟩:=I.base.there b o e hx;exact free b o' (mt b o e hx) e1 (I.base.free b o e n hx)
 .obtain⟨o',e1⟩:=I.base.there b o e hx;exact there b o' (mt b o e hx) e1
 .obtain⟨m1,e1⟩:=I.base.tbls b ps e;obtain⟨m2,e2⟩:=tbls b _ e1;exact⟨m1++m2,by rw[e2,Array.append_assoc]⟩
 .obtain⟨m,hn,hl⟩:=I.loc;refine⟨m,ns m hn,λi x v e1 e2 e3=>?_⟩;obtain⟨u,r,l⟩:=hl i x v e1 e2 e3;refine⟨u,r,?_⟩;rcases l with l|⟨k,c,e,z⟩
  .exact .inl l
  .exact .inr ⟨k,c,e,ad x c e _ z⟩
 .obtain⟨v,z⟩:=I.cell x c e;exact⟨v,ad x c e v z⟩
 .obtain⟨m,⟨o,_,_,ho,_⟩,_⟩:=I.loc;exact free _ o (λz=>(hch _ z).2.1 rfl) ho I.free
 .obtain⟨v,o,ho,hd⟩:=I.cell x c e;exact free c o (λz=>(hch c z).2.2.1 x c e rfl) ho (I.freeC x c e)
 .obtain⟨e,n,ne,nf,d⟩:=I.pin p hp;have dl:p.1∉ch:=λz=>(hch p.1 z).2.2.2 p hp rfl;exact⟨keep p.1 p.2 ne nf dl e n,free p.1 p.2 dl e n,ne,nf,d⟩
theorem Inv.un {t':Nat}(I:Inv X pins Z H s)(u:Un X.fs [] H H' s.heap h')(hok:HOk X.prog X.w H' h'):Inv X pins Z H' { s with heap:=h',toks:=t' }:=by
 obtain⟨m,⟨o,es,ep,ho,r⟩,_⟩:=id I.loc;obtain⟨sl,hL⟩:=u.any ho I.free `s;exact I.step (g':=s.gens) (d':=s.drawn) (ch:=[]) (λ_ z=>nomatch z) (λb o _ hb _ e n=>u.keep b o e n hb `s) (λb o _ hb _ e n=>u.slot b o e n hb `s) (λb o _ e n=>u.free b o e n `s) (λb o _ e=>u.there b o e `s) u.tups u.frzs u.tbls (λm' hm=>by obtain⟨o',dl,mt,ad,r'⟩:=hm;rw[ho] at ad;cases ad;exact⟨_,dl,mt,hL,r'⟩) hok I.bare
theorem Inv.call {g':Array GenState}{t':Nat}{d':Drawn}{ch:List Addr}(I:Inv X pins Z H s)(u:Un (frs X.stack) ch H H' s.heap h')(hok:HOk X.prog X.w H' h')(hg:AllBare g')
  (hch:∀b∈ch,(b∈X.ex\/X.s₀.heap.objs.size<=b)/\b≠X.env.locals/\(∀x c,X.env.cells.lookup x=some c->c≠b)/\∀p∈X.pn++pins,p.1≠b) :
  Inv X pins Z H' { s with heap:=h',gens:=g',drawn:=d',toks:=t' }:=by
 obtain⟨m,⟨o,es,ep,ho,r⟩,_⟩:=id I.loc;obtain⟨sl,hL⟩:=u.any ho I.free λz=>(hch _ z).2.1 rfl;exact I.step (ch:=ch) hch (λb o hL hb hc e n=>u.keep b o e n (λz=>(mem_cons.mp (I.stkSub b z)).elim hL hb) hc) (λb o _ _ hc e n=>u.any e n hc) (λb o hc e n=>u.free b o e n hc) (λb o hc e=>u.there b o e hc) u.tups u.frzs u.tbls (λm' hm=>by obtain⟨o',dl,mt,ad,r'⟩:=hm;rw[ho] at ad;cases ad;exact⟨_,dl,mt,hL,r'⟩) hok hg
theorem Inv.turned {t':Nat}{it:Addr}(I:Inv X pins Z H s)(k:∀b o,b≠it->s.heap.get? b=some o->h'.get? b=some o)(hn:H it=none)(hL:it≠X.env.locals)
  (h1:it∈X.ex\/X.s₀.heap.objs.size<=it) (h2:∀x c,X.env.cells.lookup x=some c->c≠it) (h3:∀p∈X.pn++pins,p.1≠it):Inv X pins Z H {s with heap:=h',toks:=t' }:=by
 have ad:∀b u,H b=some u->b≠it:=λb u e z=>by rw[z,hn] at e;cases e
 refine I.step (g':=s.gens) (d':=s.drawn) (ch:=[it]) (λb hb=>?_) (λb o _ _ hc e _=>k b o (λz=>hc (by simp[z])) e) (λb o _ _ hc e _=>⟨o.slots,k b o (λz=>hc (by simp[z])) e⟩) (λ_ _ _ _ n=>n)
  (λb o hc e=>⟨o,k b o (λz=>hc (by simp[z])) e⟩) (λ_ _ e=>e) (λ_ _ _ e=>e) (λb ps e=>⟨#[],by rw[e];simp⟩) (λm hm=>?_) (λb u e=>?_) I.bare
 .have e:b=it:=by simpa using hb
  subst e;exact⟨h1,hL,h2,h3⟩
 .obtain⟨o,es,ep,ho,r⟩:=hm;exact⟨o,es,ep,k _ o (Ne.symm hL) ho,r⟩
 .refine (I.hok b u e).stay (λc v hc q=>k c v ?_ q) (λ_ q=>q) λ_ _ q=>q;rcases hc with z|z
  .rw[z];exact ad b u e
  .exact ad c _ z
theorem Inv.tok (I:Inv X pins Z H s)(t:Nat):Inv X pins Z H {s with toks:=t}:=I.un (h':=s.heap) (t':=t) Un.refl I.hok
theorem Inv.kept {t':Nat}(I:Inv X pins Z H s)(k:∀b u,s.heap.get? b=some u->h'.get? b=some u):Inv X pins Z H {s with heap:=h',toks:=t' }:=I.un (Un.kept k) (I.hok.kept k)
theorem Inv.laid {a:Addr}{o:HO}{t':Nat}(I:Inv X pins Z H s)(k:∀b u,s.heap.get? b=some u->h'.get? b=some u)(hp:`z<=a)(new:ObjOk X.prog X.w (upd H a o) h' a o) :
  Inv X pins Z (upd H a o) {s with heap:=h',toks:=t' }:=I.un (Un.laid k hp (I.hok.fresh hp)) (I.hok.laid k hp new)
theorem Inv.write {x e:Addr}{o:HO}{t':Nat}(I:Inv X pins Z H s)(mu:Mut (H x))(he:e=x\/H e=some (.own x))(k:∀b u,b≠e->s.heap.get? b=some u->h'.get? b=some u)(heo:∃u,h'.get? e=some u)
  (new:ObjOk X.prog X.w (upd H x o) h' x o):Inv X pins Z (upd H x o) {s with heap:=h',toks:=t' }:=I.un (Un.write mu he k heo) (I.hok.write mu he k heo new)
theorem Inv.pins_of {pins':`O}(I:Inv X pins Z H s)(h:∀p∈pins',s.heap.get? p.1=some p.2/\H p.1=none/\p.1≠X.env.locals/\p.1∉X.fs/\∀v,p.2.data≠.cell v):Inv X pins' Z H s:=
 ⟨I.ok,I.os,I.bare,I.base,I.loc,I.cell,I.free,I.freeC,λp hp=>(mem_append.mp hp).elim (λz=>I.pin p (mem_append_left _ z)) (h p),I.hok,I.len⟩
theorem jI {N:List Str}(hN:N.Nodup){i j:Nat}{x:Str}(a:N[i]?=some x)(b:N[j]?=some x):i=j:=by obtain⟨h1,e1⟩:=List.getElem?_eq_some_iff.mp a;obtain⟨h2,e2⟩:=List.getElem?_eq_some_iff.mp b;exact (List.getElem_inj hN).mp (e1.trans e2.symm)
theorem lr {M:Model}{A:Around}{E:`T}{i:Nat}{x:Str}{v:V}{u:Value}{Q:Unit->Shared->Prop}(I:Inv X pins Z H s)(hN:X.N.Nodup)(hi:X.N[i]?=some x)(hx:Loc X.env.scope x)(r:RelV v u)
  (h:∀s',Inv X pins (Z.set i (some v)) H s'->(∃a,Heap.SameBut a s.heap s'.heap/\(a=X.env.locals\/X.env.cells.lookup x=some a))->Q () s') (hf:X.fn x=true\/X.env.scope.names.lookup x=some .local:=by first|exact .inl rfl|exact .inr rfl|assumption):wpAny M A (storeName X.env x u) Q E s:=by
 obtain⟨m,hn,hl⟩:=id I.loc;have Cl:(X.env.scope.kind == .class || (X.env.scope.kind == .module && X.env.locals != X.env.globals))=false:=by rw[I.ok.kind];rfl
 have hiσ:i < Z.length:=by rw[I.len];exact (List.getElem?_eq_some_iff.mp hi).1
 have GT:=I.cne;have ad:∀{a:Addr}{h':Heap},(∃o,s.heap.get? a=some o/\H a=none)->Heap.SameBut a s.heap h'->HOk X.prog X.w H h':=λ{a h'} ha hs b ob e=>by
  obtain⟨_,_,dl⟩:=ha;refine (I.hok b ob e).stay (λc w' hc q=>(hs.2 c ?_).trans q) (λ_ q=>q) λ_ _ q=>q;rintro rfl;rcases hc with rfl|hc
  .rw[dl] at e;cases e
  .rw[dl] at hc;cases hc
 rcases hx with hk|hk
 .refine wpAny_storeName_local hk hn (λh' HB hs=>?_) Cl;obtain⟨oL,_,_,HA,_⟩:=id hn;refine h _ ⟨I.ok,I.os,I.bare,⟨λb o e n hb hx=>?_,λb o e n hb hx=>?_,I.base.free,λb o e hx=>?_,I.base.tups,I.base.frzs,I.base.tbls⟩,⟨_,HB,λj y v' e1 e2 e3=>?_⟩,λy c e=>?_,I.free,I.freeC,λp hp=>?_,ad ⟨oL,HA,I.free⟩ hs,by simpa using I.len⟩ ⟨_,hs,.inl rfl⟩
  .exact (hs.2 b (Nat.ne_of_lt (Nat.lt_of_lt_of_le (Heap.lt_size e) I.ok.above))).trans (I.base.keep b o e n hb hx)
  .obtain⟨sl,e1⟩:=I.base.slot b o e n hb hx;exact⟨sl,(hs.2 b (Nat.ne_of_lt (Nat.lt_of_lt_of_le (Heap.lt_size e) I.ok.above))).trans e1⟩
  .obtain⟨o',e1⟩:=I.base.there b o e hx;exact⟨o',(hs.2 b (Nat.ne_of_lt (Nat.lt_of_lt_of_le (Heap.lt_size e) I.ok.above))).trans e1⟩
  .by_cases hj:j=i
   .subst hj;rw[hi] at e1;cases e1;rw[List.getElem?_set_self hiσ] at e2;cases e2;exact⟨u,r,.inl ⟨hk,`s⟩⟩
   .rw[List.getElem?_set_ne (Ne.symm hj)] at e2;obtain⟨u',r',q⟩:=hl j y v' e1 e2 e3;refine⟨u',r',?_⟩;rcases q with⟨k,e⟩|⟨k,c,e,z⟩
    .refine .inl ⟨k,?_⟩;have:y≠x:=λe=>hj (jI hN e1 (e▸hi));simp[this,e]
    .exact .inr ⟨k,c,e,z.sameBut hs (GT y c e)⟩
  .obtain⟨w',z⟩:=I.cell y c e;exact⟨w',z.sameBut hs (GT y c e)⟩
  .obtain⟨e,n,ne,nf,d⟩:=I.pin p hp;exact⟨(hs.2 p.1 ne).trans e,n,ne,nf,d⟩
 .have BT:X.fn x=true:=by
   rcases hf with z|z
   .exact z
   .rw[z] at hk;cases hk
  obtain⟨c,hc⟩:=I.ok.has x (.inl hk);obtain⟨w',z⟩:=I.cell x c hc;refine wpAny_storeName_cell I.ok.kind hk hc z (λh' GE hs=>?_);obtain⟨oc,Fn,mt⟩:=id z;refine h {s with heap:=h' } ⟨I.ok,I.os,I.bare,⟨λb o e n hb hx=>?_,λb o e n hb hx=>?_,I.base.free,λb o e hx=>?_,I.base.tups,I.base.frzs,I.base.tbls⟩,⟨m,hn.sameBut hs (Ne.symm (GT x c hc)),λj y v' e1 e2 e3=>?_⟩,λy c' e=>?_,I.free,I.freeC,λp hp=>?_,ad ⟨oc,Fn,I.freeC x c hc⟩ hs,by simpa using I.len⟩ ⟨c,hs,.inr hc⟩
  .exact (hs.2 b (Nat.ne_of_lt (Nat.lt_of_lt_of_le (Heap.lt_size e) (I.ok.cab x c BT hc)))).trans (I.base.keep b o e n hb hx)
  .obtain⟨sl,e1⟩:=I.base.slot b o e n hb hx;exact⟨sl,(hs.2 b (Nat.ne_of_lt (Nat.lt_of_lt_of_le (Heap.lt_size e) (I.ok.cab x c BT hc)))).trans e1⟩
  .obtain⟨o',e1⟩:=I.base.there b o e hx;exact⟨o',(hs.2 b (Nat.ne_of_lt (Nat.lt_of_lt_of_le (Heap.lt_size e) (I.ok.cab x c BT hc)))).trans e1⟩
  .by_cases hj:j=i
   .subst hj;rw[hi] at e1;cases e1;rw[List.getElem?_set_self hiσ] at e2;cases e2;exact⟨u,r,.inr ⟨.inl hk,c,hc,GE⟩⟩
   .rw[List.getElem?_set_ne (Ne.symm hj)] at e2;obtain⟨u',r',q⟩:=hl j y v' e1 e2 e3;refine⟨u',r',?_⟩;rcases q with q|⟨k,c',e,z'⟩
    .exact .inl q
    .refine .inr ⟨k,c',e,z'.sameBut hs ?_⟩;rintro rfl;exact hj (jI hN e1 (I.ok.inj _ _ _ e hc▸hi))
  .by_cases Fr:c'=c
   .subst Fr;exact⟨_,GE⟩
   .obtain⟨w2,z2⟩:=I.cell y c' e;exact⟨w2,z2.sameBut hs Fr⟩
  .obtain⟨e,n,ne,nf,d⟩:=I.pin p hp;refine⟨(hs.2 p.1 ?_).trans e,n,ne,nf,d⟩;intro q;rw[q,Fn] at e;have q':oc=p.2:=Option.some.inj e;exact d w' (by rw[<- q'];exact mt)
theorem jJ {M:Model}{A:Around}{E:`T}{i:Nat}{x:Str}{v:V}{u:Value}{Q:Unit->Shared->Prop}(I:Inv X pins Z H s)(hN:X.N.Nodup)(hi:X.N[i]?=some x)(hx:Loc X.env.scope x)(r:RelV v u)
  (h:∀s',Inv X pins (Z.set i (some v)) H s'->Q () s') (hf:X.fn x=true\/X.env.scope.names.lookup x=some .local:=by first|exact .inl rfl|exact .inr rfl|assumption):wpAny M A (storeName X.env x u) Q E s:=
 lr I hN hi hx r (λs' I' _=>h s' I') hf
theorem Inv.call' {s':Shared}{ch:List Addr}(I:Inv X pins Z H s)(ho:s'.os=s.os)(u:Un (frs X.stack) ch H H' s.heap s'.heap)(hok:HOk X.prog X.w H' s'.heap)(hg:AllBare s'.gens)
  (hch:∀b∈ch,(b∈X.ex\/X.s₀.heap.objs.size<=b)/\b≠X.env.locals/\(∀x c,X.env.cells.lookup x=some c->c≠b)/\∀p∈X.pn++pins,p.1≠b):Inv X pins Z H' s':=by
 obtain⟨h',g',d',t',o'⟩:=s';have e:o'=s.os:=ho;subst e;exact I.call (g':=g') (t':=t') (d':=d') u hok hg hch
end
noncomputable abbrev XK:=Value->Option Addr->Hp->Prop
noncomputable abbrev St:=List (Option V)
noncomputable abbrev VK:=V->Hp->Prop
noncomputable abbrev TE:=St->Hp->VK->Prop
noncomputable abbrev TT:=St->Hp->(Bool->Hp->Prop)->Prop
noncomputable abbrev TA:=St->Hp->(`V->Hp->Prop)->Prop
structure Ends where
 nx:St->Hp->Prop
 rt:VK
 bk:St->Hp->Prop:=λ_ _=>False
 ct:St->Hp->Prop:=λ_ _=>False
noncomputable abbrev TS:=Ends->St->Hp->Prop
def EP (X:Cx)(pins:`O)(Z:St)(Q:VK)(u:Value)(s':Shared):Prop:=∃v H',Inv X pins Z H' s'/\RelV v u/\Q v H'
def TP (X:Cx)(pins:`O)(Z:St)(Q:Bool->Hp->Prop)(b:Bool)(s':Shared):Prop:=∃H',Inv X pins Z H' s'/\Q b H'
def AP (X:Cx)(pins:`O)(Z:St)(Q:`V->Hp->Prop)(us:List Value)(s':Shared):Prop:=∃vs H',Inv X pins Z H' s'/\Vals vs us/\Q vs H'
def SP (X:Cx)(pins:`O)(D:Ends)(f:Flow)(s':Shared):Prop:=
 match f with
 |.next=>∃Z' H',Inv X pins Z' H' s'/\D.nx Z' H'
 |.brk=>∃Z' H',Inv X pins Z' H' s'/\D.bk Z' H'
 |.cont=>∃Z' H',Inv X pins Z' H' s'/\D.ct Z' H'
 |.ret u=>∃v Z' H',Inv X pins Z' H' s'/\RelV v u/\D.rt v H'
def PE (X:Cx)(e:Expr)(t:TE):Prop:=
 ∀(pins:`O) (s:Shared) (Z:St) (H:Hp) (Q:VK),Inv X pins Z H s->t Z H Q->wpAny `m X.A (eval e X.env) (EP X pins Z Q) X.xe s
def PT (X:Cx)(e:Expr)(t:TT):Prop:=
 ∀(pins:`O) (s:Shared) (Z:St) (H:Hp) (Q:Bool->Hp->Prop),Inv X pins Z H s->t Z H Q->wpAny `m X.A (isTrue e X.env (eval e X.env)) (TP X pins Z Q) X.xe s
def PW (X:Cx)(e:Expr)(t:TT):Prop:=
 ∀(whole:Sem Value) (pins:`O) (s:Shared) (Z:St) (H:Hp) (Q:Bool->Hp->Prop),Inv X pins Z H s->t Z H Q->wpAny `m X.A (isTrue e X.env whole) (TP X pins Z Q) X.xe s
theorem PW.pt {X:Cx}{e:Expr}{t:TT}(h:PW X e t):PT X e t:=h _
def PA (X:Cx)(es:List Expr)(t:TA):Prop:=
 ∀(pos:Pos) (pins:`O) (s:Shared) (Z:St) (H:Hp) (Q:`V->Hp->Prop),Inv X pins Z H s->t Z H Q->wpAny `m X.A (spliced (backTo pos (starEach es X.env))) (AP X pins Z Q) X.xe s
def PS (X:Cx)(st:Stmt)(t:TS):Prop:=
 ∀(pins:`O) (s:Shared) (Z:St) (H:Hp) (D:Ends),Inv X pins Z H s->t D Z H->wpAny `m X.A (exec st X.env) (SP X pins D) X.xe s
def PSs (X:Cx)(st:List Stmt)(t:TS):Prop:=
 ∀(pins:`O) (s:Shared) (Z:St) (H:Hp) (D:Ends),Inv X pins Z H s->t D Z H->wpAny `m X.A (execs st X.env) (SP X pins D) X.xe s
theorem thn {α:Type}{t:Sem α}{Q Q':α->Shared->Prop}{M:Model}{A:Around}{E:`T}{s:Shared}(h:wpAny M A t Q E s)(hQ:∀a s,Q a s->Q' a s):wpAny M A t Q' E s:=wpAny_mono h hQ λ_ _ x=>x
section
variable {X:Cx}
theorem bin {a b:Expr}{ta tb:TE}(ha:PE X a ta)(hb:PE X b tb){pins:`O}{s:Shared}{Z:St}{H:Hp}{R:V->V->Hp->Prop}(I:Inv X pins Z H s)(h:ta Z H λx H1=>tb Z H1 λy H2=>R x y H2)
  {α:Type}{Q:α->Shared->Prop}{f:Value->Value->Sem α}
  (hf:∀v u s2 x y H2,Inv X pins Z H2 s2->RelV x v->RelV y u->R x y H2->wpAny `m X.A (f v u) Q X.xe s2) :
  wpAny `m X.A (eval a X.env) (λv s₁=>wpAny `m X.A (eval b X.env) (λu s₂=>wpAny `m X.A (f v u) Q X.xe s₂) X.xe s₁) X.xe s:=by
 refine thn (ha pins s Z H _ I h) λv s1 W'=>?_;obtain⟨x,H1,I1,r1,q1⟩:=W';refine thn (hb pins s1 Z H1 _ I1 q1) λu s2 W'=>?_;obtain⟨y,H2,I2,r2,q2⟩:=W';exact hf v u s2 x y H2 I2 r1 r2 q2
def rdV (R:V->Prop)(o:Option (Option V)):Prop:=o.join.elim False R
theorem wX {R:V->Prop}{o:Option (Option V)}(h:rdV R o):∃v,o=some (some v)/\R v:=match o,h with|some (some v),h=>⟨v,rfl,h⟩
def look (i:Nat)(Z:St)(R:V->Prop):Prop:=rdV R Z[i]?
theorem wY {v:V}{Z:St}{R:V->Prop}:look 0 (some v::Z) R=R v:=rfl
theorem wZ {i:Nat}{o:Option V}{Z:St}{R:V->Prop}:look (i+1) (o::Z) R=look i Z R:=rfl
def tVar (i:Nat):TE:=λZ H Q=>look i Z λv=>Q v H
def tC (v:V):TE:=λ_ H Q=>Q v H
theorem lu {i:Nat}{x:Str}{pos:Pos}(hN:X.N[i]?=some x)(hv:Vis X.env.scope x)(hd:(x == ("__debug__" : Str))=false:=by decide)(hcd:(x == ("__classdict__" : Str))=false:=by decide):PE X (.Name x pos) (tVar i):=by
 intro dl s Z H Q I h;obtain⟨v,e,h⟩:=wX h;obtain⟨m,hn,hl⟩:=I.loc;obtain⟨u,r,l⟩:=hl i x v hN e hv;have mt:EP X dl Z Q u s:=⟨v,H,I,r,h⟩;rcases l with⟨hk,hm⟩|⟨hk,c,hc,ad⟩
 .exact wpAny_Name (wpAny_loadName_local I.ok.kind hk hn hm mt) hd
 .rcases hk with hk|hk
  .exact wpAny_Name (wpAny_loadName_cell I.ok.kind hk hc ad mt) hd
  .exact wpAny_Name (wpAny_loadName_free I.ok.kind hk hc ad mt hcd) hd
theorem aY {i j pos}:PE X (.Constant (.int i) j pos) (tC (.int i)):=λ_ _ _ H _ I h=>wpAny_Constant_int ⟨.int i,H,I.tok _,`o,h⟩
theorem dF {b j pos}:PE X (.Constant (.bool b) j pos) (tC (.bl b)):=λ_ _ _ H _ I h=>Constant_bool ⟨.bl b,H,I,rfl,h⟩
theorem bH {j pos}:PE X (.Constant .none j pos) (tC .non):=λ_ _ _ H _ I h=>Constant_none ⟨.non,H,I,rfl,h⟩
theorem aG {x j pos}:PE X (.Constant (.str x) j pos) (tC (.str x)):=λ_ _ _ H _ I h=>Calls.Constant_str ⟨.str x,H,I.tok _,`o,h⟩
def Gl (X:Cx)(x:Str):Prop:=X.env.kindOf x=some .globalImplicit
theorem dG {E:`T}{pins:`O}{s:Shared}{Z:St}{H:Hp}{x:Str}{u:Value}{pos:Pos}{Q:`T}(I:Inv X pins Z H s)(hg:Gl X x)(hm:X.mg x=some u)(h:Q u s)
  (hd:(x == ("__debug__" : Str))=false:=by decide):wpAny `m X.A (eval (.Name x pos) X.env) Q E s:=
 Calls.Name_function_global I.ok.kind hg (Calls.loadGlobal_global (by rw[I.ok.glob];exact I.mod.glob.keeps I.bk) hm h) hd
theorem cD {E:`T}{pins:`O}{s:Shared}{Z:St}{H:Hp}{x:Str}{u:Value}{pos:Pos}{Q:`T}(I:Inv X pins Z H s)(hg:Gl X x)(hm:X.mg x=none)(hv:bootBuiltins x=some u)(h:Q u s)
  (hn:x ≠ "__name__" := by decide) (hd:(x == ("__debug__" : Str))=false:=by decide):wpAny `m X.A (eval (.Name x pos) X.env) Q E s:=by
 obtain⟨mb,h1,h2⟩:=I.mod.blt;exact Calls.Name_function_global I.ok.kind hg (Calls.loadGlobal_builtin (by rw[I.ok.glob];exact I.mod.glob.keeps I.bk) hm (by rw[I.ok.blt];exact h1.keeps I.bk) ((h2 x hn).trans hv) h) hd
theorem bC {x:Str}{v:V}{u:Value}{pos:Pos}(hg:Gl X x)(hm:X.mg x=some u)(r:RelV v u)(hd:(x == ("__debug__" : Str))=false:=by decide):PE X (.Name x pos) (tC v):=
 λ_ _ _ H _ I h=>dG I hg hm ⟨v,H,I,r,h⟩ hd
theorem gL {x:Str}{v:V}{u:Value}{pos:Pos}(hg:Gl X x)(hm:X.mg x=none)(hv:bootBuiltins x=some u)(r:RelV v u)(hn:x ≠ "__name__" := by decide)(hd:(x == ("__debug__" : Str))=false:=by decide):PE X (.Name x pos) (tC v):=
 λ_ _ _ H _ I h=>cD I hg hm hv ⟨v,H,I,r,h⟩ hn hd
variable {a b:Expr}{ta tb:TE}{pos:Pos}
def PC (X:Cx)(op:CmpOp)(a b:Expr)(t:TE):Prop:=
 ∀(pins:`O) (s:Shared) (Z:St) (H:Hp) (Q:VK),Inv X pins Z H s->t Z H Q ->
  wpAny `m X.A (eval a X.env) (λv s₁=>wpAny `m X.A (eval b X.env) (λu s₂=>wpAny `m X.A (compareOp op v u) (EP X pins Z Q) X.xe s₂) X.xe s₁) X.xe s
def tB (t:TE):TT:=λZ H Q=>t Z H λx H1=>∃c,x=.bl c/\Q c H1
theorem Hy {op:CmpOp}{t:TE}(h:PC X op a b t)(h1:behindInMarks op b=false:=by first|exact nobehind _ `d `d|rfl):PT X (.Compare a [op] [b] pos) (tB t):=by intro pins s Z H Q I hw;refine wpAny_isTrue_Compare1 (thn (h pins s Z H _ I hw) λv s1 h1=>thn h1 λu s2 h2=>thn h2 λc s3 W'=>?_) h1;obtain⟨x,H1,I1,r1,q1⟩:=W';obtain⟨d,rfl,q⟩:=q1;cases r1;exact wpAny_truthy_bool ⟨H1,I1,q⟩
theorem aS {e:Expr}{t:TE}(h:PE X e t)(he:∀whole,isTrue e X.env whole=(do let v <- whole;standAt e.pos;holding [v] (truthy v)):=by intro _;rfl):PT X e (tB t):=by intro pins s Z H Q I hw;refine isTrue_plain (thn (h pins s Z H _ I hw) λv s1 W'=>?_) (he _);obtain⟨x,H1,I1,r1,q1⟩:=W';obtain⟨d,rfl,q⟩:=q1;cases r1;exact wpAny_truthy_bool ⟨H1,I1,q⟩
variable {tA tB':TT}{rest:List Expr}
def tAnd (t u:TT):TT:=λZ H Q=>t Z H λc H1=>if c=true then u Z H1 Q else Q false H1
def tOr (t u:TT):TT:=λZ H Q=>t Z H λc H1=>if c=true then Q true H1 else u Z H1 Q
def tNot (t:TT):TT:=λZ H Q=>t Z H λc H1=>Q (!c) H1
theorem dH (ha:PT X a tA):PW X (.BoolOp .And [a] pos) tA:=by
 intro wh pins s Z H Q I h;refine isTrue_and (thn (ha pins s Z H Q I h) λc s1 e=>?_);cases c with
 |true=>exact isTrue_and_nil e
 |false=>exact e
theorem bJ (ha:PT X a tA):PW X (.BoolOp .Or [a] pos) tA:=by
 intro wh pins s Z H Q I h;refine isTrue_or (thn (ha pins s Z H Q I h) λc s1 e=>?_);cases c with
 |false=>exact isTrue_or_nil e
 |true=>exact e
theorem cU (ha:PT X a tA)(hb:PW X (.BoolOp .And (b::rest) pos) tB'):PW X (.BoolOp .And (a::b::rest) pos) (tAnd tA tB'):=by
 intro wh pins s Z H Q I h;refine isTrue_and (thn (ha pins s Z H _ I h) λc s1 W'=>?_);obtain⟨H1,I1,q1⟩:=W';cases c with
 |true=>exact hb wh pins s1 Z H1 Q I1 q1
 |false=>exact⟨H1,I1,q1⟩
theorem bD (ha:PT X a tA)(hb:PW X (.BoolOp .Or (b::rest) pos) tB'):PW X (.BoolOp .Or (a::b::rest) pos) (tOr tA tB'):=by
 intro wh pins s Z H Q I h;refine isTrue_or (thn (ha pins s Z H _ I h) λc s1 W'=>?_);obtain⟨H1,I1,q1⟩:=W';cases c with
 |true=>exact⟨H1,I1,q1⟩
 |false=>exact hb wh pins s1 Z H1 Q I1 q1
theorem aq (ha:PT X a tA):PT X (.UnaryOp .Not a pos) (tNot tA):=by intro pins s Z H Q I h;exact isTrue_not (ha pins s Z H (λc H1=>Q (!c) H1) I h)
def tAndV (ta tb:TE):TE:=λZ H Q=>ta Z H λx H1=>∃c,x=.bl c/\if c=true then tb Z H1 Q else Q (.bl false) H1
def tOrV (ta tb:TE):TE:=λZ H Q=>ta Z H λx H1=>∃c,x=.bl c/\if c=true then Q (.bl true) H1 else tb Z H1 Q
def tNotV (ta:TE):TE:=λZ H Q=>ta Z H λx H1=>∃c,x=.bl c/\Q (.bl (!c)) H1
theorem cV {op}{t:TE}(h:PE X a t):PE X (.BoolOp op [a] pos) t:=λpins s Z H Q I hw=>BoolOp_one (h pins s Z H Q I hw)
theorem dI (ha:PE X a ta)(hb:PE X (.BoolOp .And (b::rest) pos) tb):PE X (.BoolOp .And (a::b::rest) pos) (tAndV ta tb):=by
 intro pins s Z H Q I h;refine BoolOp_and (thn (ha pins s Z H _ I h) λv s1 W'=>?_);obtain⟨x,H1,I1,r1,q1⟩:=W';obtain⟨c,rfl,q1⟩:=q1;cases r1;refine wpAny_truthy_bool ?_;cases c with
 |true=>exact hb pins s1 Z H1 Q I1 q1
 |false=>exact⟨.bl false,H1,I1,rfl,q1⟩
theorem gM (ha:PE X a ta)(hb:PE X (.BoolOp .Or (b::rest) pos) tb):PE X (.BoolOp .Or (a::b::rest) pos) (tOrV ta tb):=by
 intro pins s Z H Q I h;refine BoolOp_or (thn (ha pins s Z H _ I h) λv s1 W'=>?_);obtain⟨x,H1,I1,r1,q1⟩:=W';obtain⟨c,rfl,q1⟩:=q1;cases r1;refine wpAny_truthy_bool ?_;cases c with
 |false=>exact hb pins s1 Z H1 Q I1 q1
 |true=>exact⟨.bl true,H1,I1,rfl,q1⟩
theorem lv (ha:PE X a ta):PE X (.UnaryOp .Not a pos) (tNotV ta):=by intro pins s Z H Q I h;refine UnaryOp_ (thn (ha pins s Z H _ I h) λv s1 W'=>?_);obtain⟨x,H1,I1,r1,q1⟩:=W';obtain⟨c,rfl,q1⟩:=q1;cases r1;exact not_of (wpAny_truthy_bool ⟨.bl (!c),H1,I1,rfl,q1⟩)
def tIf (t:TT)(ta tb:TE):TE:=λZ H Q=>t Z H λc H1=>if c=true then ta Z H1 Q else tb Z H1 Q
theorem bQ {c:Expr}(hc:PT X c tA)(ha:PE X a ta)(hb:PE X b tb):PE X (.IfExp c a b pos) (tIf tA ta tb):=by
 intro pins s Z H Q I h;refine wpAny_IfExp (thn (hc pins s Z H _ I h) λd s1 W'=>?_);obtain⟨H1,I1,q1⟩:=W';cases d with
 |true=>exact ha pins s1 Z H1 Q I1 q1
 |false=>exact hb pins s1 Z H1 Q I1 q1
end
def SqL (K:`F)(H:Hp)(a:Addr)(xs:`V):Prop:=
 Rd H a (.lst xs)\/
  ∃(o:Obj) (its:Array Value) (n:Nat),K.lookup a=some o/\o.cls=.type "list"/\o.dict=none/\o.data=.seq its n/\its.size<=sizeLine/\Vals xs its.toList
def SqT (K:`F)(H:Hp)(a:Addr)(xs:`V):Prop:=
 Rd H a (.tup xs)\/
  ∃(o:Obj) (its:Array Value) (n:Nat),K.lookup a=some o/\o.cls=.type "tuple"/\o.data=.seq its n/\its.size<=sizeLine/\Vals xs its.toList
noncomputable def absV:Value->Option V
 |.none=>some .non
 |.bool b=>some (.bl b)
 |.int i _=>some (.int i)
 |.str x _=>some (.str x)
 |.bytes b _=>some (.byt b)
 |.float b _=>some (.flt b)
 |.ref a=>some (.ref a)
 |.type n=>some (.ty n)
 |_=>none
theorem RelV.abs {x:V}{u:Value}(r:RelV x u):absV u=some x:=by
 cases x with
 |non=>cases r;rfl
 |bl _=>cases r;rfl
 |int _=>obtain⟨t,rfl⟩:=r;rfl
 |str _=>obtain⟨t,rfl⟩:=r;rfl
 |byt _=>obtain⟨t,rfl⟩:=r;rfl
 |flt _=>obtain⟨t,rfl⟩:=r;rfl
 |ref _=>cases r;rfl
 |ty _=>cases r;rfl
theorem RelV.inj {x y:V}{u:Value}(r:RelV x u)(q:RelV y u):x=y:=Option.some.inj (r.abs.symm.trans q.abs)
theorem Vals.inj {xs ys:`V}{us:List Value}(h:Vals xs us)(h':Vals ys us):xs=ys:=by
 induction h generalizing ys with
 |nil=>cases h';rfl
 |cons r t ih=>cases h' with
  |cons r' t'=>rw[r.inj r',ih t']
section
variable {X:Cx}{pins:`O}{Z:St}{H:Hp}{s:Shared}{a:Addr}{xs ys:`V}
theorem SqL.of {K:`F}(h:H a=some (.lst xs)):SqL K H a xs:=.inl (.inl h)
theorem SqT.of {K:`F}(h:H a=some (.tup xs)):SqT K H a xs:=.inl (.inl h)
theorem Inv.list (I:Inv X pins Z H s)(h:SqL X.K H a xs):∃its:List Value,Vals xs its/\PlainL s.heap a its.toArray/\`x<=sizeLine:=by
 rcases h with h|⟨o,its,n,hk,hc,hd,hs,hz,r⟩
 .obtain⟨z,its,n,r,e⟩:=h.ok I.hok;exact⟨its,r,⟨_,n,e,rfl,rfl,rfl⟩,z⟩
 .refine⟨its.toList,r,⟨o,n,I.kIn a o hk,hc,hd,by simpa using hs⟩,?_⟩;have e:=r.length;simp only[Array.length_toList] at e;lia
theorem Inv.tuple (I:Inv X pins Z H s)(h:SqT X.K H a xs):∃its:List Value,Vals xs its/\IsTup s.heap a its.toArray/\`x<=sizeLine:=by
 rcases h with h|⟨o,its,n,hk,hc,hs,hz,r⟩
 .obtain⟨z,its,r,p⟩:=h.ok I.hok;exact⟨its,r,p,z⟩
 .refine⟨its.toList,r,⟨o,I.kIn a o hk,hc,n,by simpa using hs⟩,?_⟩;have e:=r.length;simp only[Array.length_toList] at e;lia
theorem Inv.list_inj (I:Inv X pins Z H s)(h:SqL X.K H a xs)(h':SqL X.K H a ys):xs=ys:=by
 obtain⟨its,r,⟨o,n,e,_,_,d⟩,_⟩:=I.list h;obtain⟨its',r',⟨o',n',e',_,_,d'⟩,_⟩:=I.list h';rw[e] at e';cases e';rw[d] at d';injection d' with d1 _;have:its=its':=by simpa using congrArg Array.toList d1
 subst this;exact r.inj r'
theorem Inv.tuple_inj (I:Inv X pins Z H s)(h:SqT X.K H a xs)(h':SqT X.K H a ys):xs=ys:=by
 obtain⟨its,r,⟨o,e,_,n,d⟩,_⟩:=I.tuple h;obtain⟨its',r',⟨o',e',_,n',d'⟩,_⟩:=I.tuple h';rw[e] at e';cases e';rw[d] at d';injection d' with d1 _;have:its=its':=by simpa using congrArg Array.toList d1
 subst this;exact r.inj r'
end
noncomputable abbrev Cx.wish (X:Cx)(E:`T):Cx:={ X with xe:=E}
noncomputable abbrev Cx.nox (X:Cx):Cx:=X.wish λ_ _=>False
theorem Cx.Ok.wish {X:Cx}(ok:X.Ok)(E:`T):(X.wish E).Ok:=
 ⟨ok.mod,ok.kind,ok.glob,ok.blt,ok.above,ok.inj,ok.has,ok.cab,ok.hd,ok.frames,ok.stk,ok.exf,ok.bs,ok.bsz,ok.noex,ok.exfs,ok.funs,ok.frf⟩
theorem Cx.Ok.unwish {X:Cx}{E:`T}(ok:(X.wish E).Ok):X.Ok:=
 ⟨ok.mod,ok.kind,ok.glob,ok.blt,ok.above,ok.inj,ok.has,ok.cab,ok.hd,ok.frames,ok.stk,ok.exf,ok.bs,ok.bsz,ok.noex,ok.exfs,ok.funs,ok.frf⟩
section
variable {X:Cx}{pins:`O}{Z:St}{H:Hp}{s:Shared}{E:`T}
theorem Inv.wish (I:Inv X pins Z H s)(E:`T):Inv (X.wish E) pins Z H s:=⟨I.ok.wish E,I.os,I.bare,I.base,I.loc,I.cell,I.free,I.freeC,I.pin,I.hok,I.len⟩
theorem Inv.unwish (I:Inv (X.wish E) pins Z H s):Inv X pins Z H s:=⟨I.ok.unwish,I.os,I.bare,I.base,I.loc,I.cell,I.free,I.freeC,I.pin,I.hok,I.len⟩
theorem SP.unwish {D:Ends}{f:Flow}{s':Shared}(h:SP (X.wish E) pins D f s'):SP X pins D f s':=by
 cases f with
 |next=>obtain⟨Z',H',I,q⟩:=h;exact⟨Z',H',I.unwish,q⟩
 |brk=>obtain⟨Z',H',I,q⟩:=h;exact⟨Z',H',I.unwish,q⟩
 |cont=>obtain⟨Z',H',I,q⟩:=h;exact⟨Z',H',I.unwish,q⟩
 |ret u=>obtain⟨v,Z',H',I,r,q⟩:=h;exact⟨v,Z',H',I.unwish,r,q⟩
theorem PSs.nox {st:List Stmt}{t:TS}(h:PSs X.nox st t):PSs X st t:=λpins s Z H D I hw=>
 wpAny_mono (h pins s Z H D (I.wish _) hw) (λ_ _ q=>q.unwish) λ_ _ z=>False.elim z
end
section
variable {X:Cx}{st:Stmt}{rest:List Stmt}{t u:TS}{e:Expr}{te:TE}{pos:Pos}
def tNext:TS:=λD Z H=>D.nx Z H
def tSeq (t u:TS):TS:=λD Z H=>t {D with nx:=u D} Z H
theorem aL:PSs X [] tNext:=λ_ _ Z H _ I h=>wpAny_execs_nil ⟨Z,H,I,h⟩
theorem aA (h1:PS X st t)(h2:PSs X rest u):PSs X (st::rest) (tSeq t u):=by
 intro pins s Z H D I h;refine wpAny_execs_cons (thn (h1 pins s Z H {D with nx:=u D} I h) λf s1 q=>?_);cases f with
 |next=>obtain⟨Z',H',I',q⟩:=q;exact h2 pins s1 Z' H' D I' q
 |ret v=>exact q
 |brk=>exact q
 |cont=>exact q
theorem aC (h1:PS X st t):PSs X [st] t:=by
 intro pins s Z H D I h;refine wpAny_execs_cons (thn (h1 pins s Z H D I h) λf s1 q=>?_);cases f with
 |next=>exact wpAny_execs_nil q
 |ret v=>exact q
 |brk=>exact q
 |cont=>exact q
theorem Inv.quiet {pins:`O}{Z:St}{H:Hp}{s:Shared}(I:Inv X pins Z H s):interactive X.env=false:=by simp[interactive,I.ok.kind]
def tDrop (te:TE):TS:=λD Z H=>te Z H λ_ H1=>D.nx Z H1
theorem cE (he:PE X e te)(hs:swapsWith e none pos.line X.env=pure false:=by rfl):PS X (.Expr e pos) (tDrop te):=by intro pins s Z H D I h;exact wpAny_Expr_any (thn (he pins s Z H _ I h) λv s1 ⟨x,H1,I1,r1,q1⟩=>⟨Z,H1,I1,q1⟩) I.quiet hs
def tRet (te:TE):TS:=λD Z H=>te Z H D.rt
theorem aH (he:PE X e te):PS X (.Return (some e) pos) (tRet te):=by intro pins s Z H D I h;exact wpAny_Return_some (thn (he pins s Z H _ I h) λv s1 ⟨x,H1,I1,r1,q1⟩=>⟨x,Z,H1,I1,r1,q1⟩)
def tIfS (c:TT)(t u:TS):TS:=λD Z H=>c Z H λb H1=>if b=true then t D Z H1 else u D Z H1
theorem aK {c:Expr}{a b:List Stmt}{tc:TT}(hc:PT X c tc)(ha:PSs X a t)(hb:PSs X b u):PS X (.If c a b pos) (tIfS tc t u):=by
 intro pins s Z H D I h;refine wpAny_If (thn (hc pins s Z H _ I h) λd s1 W'=>?_);obtain⟨H1,I1,q1⟩:=W';cases d with
 |true=>exact ha pins s1 Z H1 D I1 q1
 |false=>exact hb pins s1 Z H1 D I1 q1
def tNever:TS:=λ_ _ _=>False
theorem lz:PS X st tNever:=λ_ _ _ _ _ _ h=>h.elim
end
noncomputable abbrev TG:=V->St->Hp->(St->Hp->Prop)->Prop
noncomputable abbrev TGs:=`V->St->Hp->(St->Hp->Prop)->Prop
def PG (X:Cx)(target:Expr)(t:TG):Prop:=
 ∀(pins:`O) (s:Shared) (Z:St) (H:Hp) (v:V) (u:Value) (Q:St->Hp->Prop),Inv X pins Z H s->RelV v u->t v Z H Q ->
  wpAny `m X.A (assign target X.env u) (λ_ s'=>∃Z' H',Inv X pins Z' H' s'/\Q Z' H') X.xe s
def PGs (X:Cx)(ts:List Expr)(t:TGs):Prop:=
 ∀(pins:`O) (s:Shared) (Z:St) (H:Hp) (vs:`V) (us:List Value) (Q:St->Hp->Prop),Inv X pins Z H s->Vals vs us->t vs Z H Q ->
  wpAny `m X.A (assignInOrder ((assignEach ts X.env).map (·.2)) us) (λ_ s'=>∃Z' H',Inv X pins Z' H' s'/\Q Z' H') X.xe s
section
variable {X:Cx}{pos:Pos}
def gName (i:Nat):TG:=λv Z H Q=>Q (Z.set i (some v)) H
theorem ee {i:Nat}{x:Str}(hN:X.N.Nodup)(hi:X.N[i]?=some x)(hx:Loc X.env.scope x)(hf:X.fn x=true\/X.env.scope.names.lookup x=some .local:=by first|exact .inl rfl|exact .inr rfl|assumption):PG X (.Name x pos) (gName i):=by intro pins s Z H v u Q I r h;exact wpAny_assign_Name (jJ I hN hi hx r (λs' I'=>⟨_,H,I',h⟩) hf)
def gNil:TGs:=λvs Z H Q=>vs=[]/\Q Z H
def gCons (t:TG)(u:TGs):TGs:=λvs Z H Q=>∃v r,vs=v::r/\t v Z H λZ' H'=>u r Z' H' Q
theorem gN:PGs X [] gNil:=by intro pins s Z H vs us Q I r h;obtain⟨e,h⟩:=h;subst e;cases r;exact assignInOrder_nil ⟨Z,H,I,h⟩
theorem cW {e:Expr}{es:List Expr}{t:TG}{u:TGs}(h1:PG X e t)(h2:PGs X es u)
  (hs:(assignEach (e::es) X.env).map (·.2)=assign e X.env::(assignEach es X.env).map (·.2):=by rfl):PGs X (e::es) (gCons t u):=by
 intro pins s Z H vs us Q I r h;obtain⟨v,vr,e1,h⟩:=h;subst e1;cases r with
 |cons r rr=>rw[hs];refine assignInOrder_cons (thn (h1 pins s Z H _ _ _ I r h) λ_ s1 W'=>?_);obtain⟨Z1,H1,I1,q1⟩:=W';exact h2 pins s1 Z1 H1 _ _ Q I1 rr q1
def gTup (K:`F)(n:Nat)(t:TGs):TG:=λv Z H Q=>∃a xs,v=.ref a/\SqT K H a xs/\`x=n/\t xs Z H Q
theorem m5 {es:List Expr}{k:Nat}{t:TGs}{n:Nat}(hc:X.calm=true)(h:PGs X es t)
  (hn:(assignEach es X.env).length=n:=by rfl) (hst:(assignEach es X.env).findIdx? (·.1)=none:=by rfl):PG X (.Tuple es k pos) (gTup X.K n t):=by
 intro ad s Z H v u Q I r hw;obtain⟨a,xs,e1,hq,hl,hw⟩:=hw;subst e1;cases r;obtain⟨dl,rv,ht,hz⟩:=I.tuple hq;refine assign_Tuple_tuple (I.ok.hd hc) ht (by simp[hn,<- hl,rv.length]) hst λh' hx=>?_;have I1:Inv X ad Z H {s with heap:=h' }:=I.kept (t':=s.toks) λb o e=>hx b o (Nat.ne_of_lt (Heap.lt_size e)) e;exact h ad _ Z H xs _ Q I1 (by simpa using rv) hw
def tAsg (te:TE)(g:TG):TS:=λD Z H=>te Z H λx H1=>g x Z H1 D.nx
theorem wa {tg e:Expr}{te:TE}{g:TG}(he:PE X e te)(hg:PG X tg g)(hs:swapsWithSole [tg] e pos.line X.env=pure false:=by rfl)(hw:swappedStores [tg] e X.env=pure none:=by rfl)
  (h1:(assignEach [tg] X.env).map (·.2)=[assign tg X.env]:=by rfl):PS X (.Assign [tg] e pos) (tAsg te g):=by
 intro pins s Z H D I h;refine wpAny_Assign_stores (thn (he pins s Z H _ I h) λv s1 W'=>?_) hs hw;obtain⟨x,H1,I1,r1,q1⟩:=W';rw[h1];exact thn (hg pins s1 Z H1 x v _ I1 r1 q1) λ_ s2 q=>q
theorem m6 {i:Nat}{x:Str}{e:Expr}{te:TE}{pos':Pos}(hN:X.N.Nodup)(hi:X.N[i]?=some x)(hx:Loc X.env.scope x)(he:PE X e te)(hs:swapsWith e (some (.Name x pos')) pos.line X.env=pure false:=by rfl)(hf:X.fn x=true\/X.env.scope.names.lookup x=some .local:=by first|exact .inl rfl|exact .inr rfl|assumption) :
  PS X (.Assign [.Name x pos'] e pos) (tAsg te (gName i)):=by
 intro pins s Z H D I h;refine wpAny_Assign_Name (thn (he pins s Z H _ I h) λv s1 W'=>?_) hs;obtain⟨y,H1,I1,r1,q1⟩:=W';exact jJ I1 hN hi hx r1 (λs2 I2=>⟨_,H1,I2,q1⟩) hf
end
section
variable {X:Cx}{pos:Pos}
def tWhile (c:TT)(tb:TS):TS:=λD Z H=>∃W:Nat->St->Hp->Prop,(∃m,W m Z H)/\∀m Z H,W m Z H ->
 c Z H λb H1=>if b=true then ∃N:St->Hp->Prop,(∀Z' H',N Z' H'->∃m',m' < m/\W m' Z' H')/\tb {D with nx:=N,ct:=N,bk:=D.nx} Z H1 else D.nx Z H1
theorem eh {c:Expr}{body:List Stmt}{tc:TT}{tb:TS}(hp:PassesOwn `m X.A X.env X.xe)(hc:PT X c tc)(hb:PSs X body tb):PS X (.While c body [] pos) (tWhile tc tb):=by
 intro ad s Z H D I h;obtain⟨W,⟨m0,w0⟩,dl⟩:=h;refine wpAny_While (codeAny_whileLoop (λn s'=>∃Z' H',Inv X ad Z' H' s'/\W n Z' H') ?_ m0 ⟨Z,H,I,w0⟩);rintro n s1 ⟨Z1,H1,I1,w1⟩;refine wpAny_passesOwn hp (thn (hc ad s1 Z1 H1 _ I1 (dl n Z1 H1 w1)) λb s2 W'=>?_);obtain⟨H2,I2,q2⟩:=W';cases b with
 |true=>
  obtain⟨N,hN,q2⟩:=q2;rw[if_pos rfl];refine wpAny_passesOwn hp (thn (hb ad s2 Z1 H2 _ I2 q2) λf s3 q3=>?_);cases f with
  |next=>obtain⟨Z3,H3,I3,n3⟩:=q3;obtain⟨m',hm,w3⟩:=hN Z3 H3 n3;exact⟨m',hm,Z3,H3,I3,w3⟩
  |cont=>obtain⟨Z3,H3,I3,n3⟩:=q3;obtain⟨m',hm,w3⟩:=hN Z3 H3 n3;exact⟨m',hm,Z3,H3,I3,w3⟩
  |brk=>exact q3
  |ret v=>exact q3
 |false=>rw[if_neg Bool.false_ne_true];exact wpAny_execs_nil ⟨Z1,H2,I2,q2⟩
end
structure It where
 go:Nat->Hp->Prop
 yld:Nat->Hp->V->Hp->Prop
 stop:Nat->Hp->Prop
def FpOk (X:Cx)(pins:`O)(H:Hp)(b:Addr):Prop:=
 H b=none/\b≠X.env.locals/\b∉X.fs/\(b∈X.ex\/X.s₀.heap.objs.size<=b)/\(∀x c,X.env.cells.lookup x=some c->c≠b)/\∀p∈X.pn++pins,p.1≠b
theorem Inv.fpOk {X:Cx}{pins:`O}{Z:St}{H H':Hp}{s:Shared}{b:Addr}(I:Inv X pins Z H s)(hb:`z<=b)(hn:H' b=none):FpOk X pins H' b:=by
 refine⟨hn,Nat.ne_of_gt (Nat.lt_of_lt_of_le I.lt hb),I.nofs hb,.inr (Nat.le_trans I.sz hb),λx c e z=>?_,λp hp z=>?_⟩
 .obtain⟨v,q⟩:=I.cell x c e;exact absurd (Nat.lt_of_lt_of_le q.lt (by rw[z];exact hb)) (Nat.lt_irrefl _)
 .exact absurd (Nat.lt_of_lt_of_le (Heap.lt_size (I.pin p hp).1) (by rw[z];exact hb)) (Nat.lt_irrefl _)
structure Turn (P:Program)(w:World)(K:`F)(tg:Expr)(J:It)(fp:List Addr)(it:Addr)(tn:Nat->Heap->Prop):Prop where
 mem:it∈fp
 obj:∀i h,tn i h->∀b∈fp,∃o,h.get? b=some o/\∀v,o.data≠.cell v
 keep:∀i h h',tn i h->(∀b∈fp,∀o,h.get? b=some o->h'.get? b=some o)->tn i h'
 item:∀(X:Cx),X.prog=P->X.w=w->X.K=K->X.calm=true->∀(i:Nat) (pins:`O) (s:Shared) (Z:St) (H:Hp) (E:`T),Inv X pins Z H s->(∀b∈fp,FpOk X pins H b)->tn i s.heap->J.go i H ->
  wpAny (model P w) X.A (pyNext (.ref it)) (λr s1=>∃u,r=some u/\
   wpAny (model P w) X.A (letOwnedTupleGo tg (.ref it) u) (λ_ s2=>∃x H',Inv X pins Z H' s2/\RelV x u/\J.yld i H x H'/\tn (i+1) s2.heap/\∀b∈fp,H' b=none) E s1) E s
 done:∀(X:Cx),X.prog=P->X.w=w->X.K=K->X.calm=true->∀(i:Nat) (pins:`O) (s:Shared) (Z:St) (H:Hp) (E:`T),Inv X pins Z H s->(∀b∈fp,FpOk X pins H b)->tn i s.heap->J.stop i H ->
  wpAny (model P w) X.A (pyNext (.ref it)) (λr s1=>r=none/\Inv X pins Z H s1) E s
 self:∀(A:Around) (i:Nat) (s:Shared) (Q:`T) (E:`T),tn i s.heap->Q (.ref it) s->wpAny (model P w) A (pyIter (.ref it)) Q E s
noncomputable abbrev TI:=St->Hp->(It->Hp->Prop)->Prop
def PIE (X:Cx)(pins:`O)(Z:St)(tg:Expr)(R:It->Hp->Prop)(itv:Value)(s2:Shared):Prop:=
 ∃(it:Addr) (fp:List Addr) (tn:Nat->Heap->Prop) (J:It) (H':Hp),itv=.ref it/\Inv X pins Z H' s2/\Turn X.prog X.w X.K tg J fp it tn/\tn 0 s2.heap/\(∀b∈fp,FpOk X pins H' b)/\R J H'
def PI (X:Cx)(tg iter:Expr)(wi:TI):Prop:=
 ∀(pins:`O) (s:Shared) (Z:St) (H:Hp) (R:It->Hp->Prop),Inv X pins Z H s->wi Z H R ->
  wpAny `m X.A (eval iter X.env) (λv s1=>wpAny `m X.A (pyIter v) (PIE X pins Z tg R) X.xe s1) X.xe s
theorem ei {M:Model}{A:Around}{E:`T}{s:Shared}{tg:Expr}{it:Addr}{u:Value}{o:Obj}{n:String}{vs:Array Value}{Q:Unit->Shared->Prop}(ho:s.heap.get? it=some o)(hc:o.cls=.type n)(hd:o.data=.fields vs)
  (hn:["enumerate","zip","dict_itemiterator","dict_reverseitemiterator","odict_iterator","itertools.zip_longest","itertools.pairwise"].contains n=false) (hQ:Q () s):wpAny M A (letOwnedTupleGo tg (.ref it) u) Q E s:=by
 unfold letOwnedTupleGo;cases tg <;> first
  |exact wpAny_pure hQ
  | (cases u <;> first
    |exact wpAny_pure hQ
    | (refine wpAny_bind (wpAny_load ho ?_)
       rw[hc,hd];show wpAny M A (if (["enumerate","zip","dict_itemiterator","dict_reverseitemiterator","odict_iterator","itertools.zip_longest","itertools.pairwise"].contains n && vs[0]? == some (rawInt _))=true then _ else _) Q E s;rw[if_neg (by intro h;rw[hn,Bool.false_and] at h;cases h)];exact wpAny_pure hQ))
noncomputable def Itl (K:`F)(a:Addr):It:=
 ⟨λi H=>∃xs x,SqL K H a xs/\xs[i]?=some x,λi H x H'=>H'=H/\∀xs,SqL K H a xs->xs[i]?=some x,λi H=>∃xs,SqL K H a xs/\`x<=i⟩
noncomputable def Itt (K:`F)(a:Addr):It:=
 ⟨λi H=>∃xs x,SqT K H a xs/\xs[i]?=some x,λi H x H'=>H'=H/\∀xs,SqT K H a xs->xs[i]?=some x,λi H=>∃xs,SqT K H a xs/\`x<=i⟩
noncomputable def Itr (lo:Int)(n:Nat):It:=⟨λi _=>i < n,λi H x H'=>H'=H/\x=.int (lo+i),λi _=>n<=i⟩
theorem wc {P:Program}{w:World}{K:`F}{tg:Expr}(a it:Addr):Turn P w K tg (Itl K a) [it] it (λi h=>h.IsListIter it a i) where
 mem:=by simp
 obj:=λi h st b hb=>by
  have e:b=it:=by simpa using hb
  subst e;obtain⟨o,e,c,d⟩:=st;exact⟨o,e,λv z=>by rw[d] at z;cases z⟩
 keep:=λi h h' st k=>st.at λo e=>k it `s o e
 item:=by intro X hP hw hK hc i ad s Z H E I hf st hg;subst hP hw hK;obtain⟨xs,x,hq,hx⟩:=hg;obtain⟨mt,rv,p,hz⟩:=I.list hq;obtain⟨u,hu,ru⟩:=rv.get hx;obtain⟨f0,f1,f2,f3,f4,f5⟩:=hf it `s;refine wpAny_pyNext_list_item st p.isList (x:=u) (by simpa using hu) λh' dl sb=>?_;have I1:Inv X ad Z H {s with heap:=h' }:=I.turned (t':=s.toks) (λb o hb e=>(sb.2 b hb).trans e) f0 f1 f3 f4 f5;obtain⟨o,e,c,d⟩:=id dl;exact⟨u,rfl,ei (s:={ s with heap:=h' }) e c d `d ⟨x,H,I1,ru,⟨rfl,λys hy=>by rw[I.list_inj hy hq];exact hx⟩,dl,λb hb=>(hf b hb).1⟩⟩
 done:=by intro X hP hw hK hc i ad s Z H E I hf st hg;subst hP hw hK;obtain⟨xs,hq,hx⟩:=hg;obtain⟨mt,rv,p,hz⟩:=I.list hq;obtain⟨f0,f1,f2,f3,f4,f5⟩:=hf it `s;have hl:=rv.length;exact wpAny_pyNext_list_end (I.ok.hd hc) st p.isList (by simp;lia) λh' eb=>⟨rfl,I.turned (t':=s.toks) (λb o hb e=>eb b o hb e) f0 f1 f3 f4 f5⟩
 self:=λ_ _ _ _ _ st h=>wpAny_pyIter_listiter st h
theorem wd {P:Program}{w:World}{K:`F}{tg:Expr}(a it:Addr):Turn P w K tg (Itt K a) [it] it (λi h=>h.IsTupleIter it a i) where
 mem:=by simp
 obj:=λi h st b hb=>by
  have e:b=it:=by simpa using hb
  subst e;obtain⟨o,e,c,d⟩:=st;exact⟨o,e,λv z=>by rw[d] at z;cases z⟩
 keep:=λi h h' st k=>st.at λo e=>k it `s o e
 item:=by intro X hP hw hK hc i ad s Z H E I hf st hg;subst hP hw hK;obtain⟨xs,x,hq,hx⟩:=hg;obtain⟨dl,rv,p,hz⟩:=I.tuple hq;obtain⟨u,hu,ru⟩:=rv.get hx;obtain⟨f0,f1,f2,f3,f4,f5⟩:=hf it `s;refine wpAny_pyNext_tuple_item st (show s.heap.IsTuple a dl.toArray from p) (x:=u) (by simpa using hu) λh' mt sb=>?_;have I1:Inv X ad Z H {s with heap:=h' }:=I.turned (t':=s.toks) (λb o hb e=>(sb.2 b hb).trans e) f0 f1 f3 f4 f5;obtain⟨o,e,c,d⟩:=id mt;exact⟨u,rfl,ei (s:={ s with heap:=h' }) e c d `d ⟨x,H,I1,ru,⟨rfl,λys hy=>by rw[I.tuple_inj hy hq];exact hx⟩,mt,λb hb=>(hf b hb).1⟩⟩
 done:=by intro X hP hw hK hc i ad s Z H E I hf st hg;subst hP hw hK;obtain⟨xs,hq,hx⟩:=hg;obtain⟨dl,rv,p,hz⟩:=I.tuple hq;obtain⟨f0,f1,f2,f3,f4,f5⟩:=hf it `s;have hl:=rv.length;exact wpAny_pyNext_tuple_end (I.ok.hd hc) st (show s.heap.IsTuple a dl.toArray from p) (by simp;lia) λh' eb=>⟨rfl,I.turned (t':=s.toks) (λb o hb e=>eb b o hb e) f0 f1 f3 f4 f5⟩
 self:=λ_ _ _ _ _ st h=>wpAny_pyIter_tupleiter st h
theorem we {P:Program}{w:World}{K:`F}{tg:Expr}(it:Addr)(lo:Int)(n:Nat):Turn P w K tg (Itr lo n) [it] it (λi h=>IsRangeIter h it (lo+(i:Nat) * 1) ((n:Int) - (i:Nat)) 1) where
 mem:=by simp
 obj:=λi h st b hb=>by
  have e:b=it:=by simpa using hb
  subst e;exact⟨_,st,λv z=>by have z':Data.fields _=Data.cell v:=z;cases z'⟩
 keep:=λi h h' st k=>k it `s _ st
 item:=by intro X hP hw hK hc i ad s Z H E I hf st hg;subst hP hw hK;obtain⟨f0,f1,f2,f3,f4,f5⟩:=hf it `s;have W:=Walks.range (prog:=X.prog) (w:=X.w) (I.ok.hd hc) it lo 1 n;refine W.item i s _ _ hg st λv h' tk hv dl kk=>?_;obtain⟨t,rfl⟩:=hv;have I1:Inv X ad Z H {s with heap:=h',toks:=tk}:=I.turned (λb o hb e=>kk b o (by simpa using hb) e) f0 f1 f3 f4 f5;refine⟨_,rfl,ei (s:={ s with heap:=h',toks:=tk}) (n := "range_iterator") dl rfl rfl `d ⟨.int (lo+i),H,I1,⟨t,?_⟩,`R,dl,λb hb=>(hf b hb).1⟩⟩;rw[Int.mul_one]
 done:=by intro X hP hw hK hc i ad s Z H E I hf st hg;subst hP hw hK;obtain⟨f0,f1,f2,f3,f4,f5⟩:=hf it `s;exact wpAny_pyNext_range_end (I.ok.hd hc) st (by have:n<=i:=hg;lia) λh' eb=>⟨rfl,I.turned (t':=s.toks) (λb o hb e=>eb b o hb e) f0 f1 f3 f4 f5⟩
 self:=λ_ _ _ _ _ st h=>wpAny_pyIter_rangeiter st h
section
variable {X:Cx}{tg:Expr}
def iList (K:`F)(tl:TE):TI:=λZ H R=>tl Z H λx H1=>∃a,x=.ref a/\(∃xs,SqL K H1 a xs)/\R (Itl K a) H1
def iTup (K:`F)(tl:TE):TI:=λZ H R=>tl Z H λx H1=>∃a,x=.ref a/\(∃xs,SqT K H1 a xs)/\R (Itt K a) H1
theorem wg {l:Expr}{tl:TE}(hl:PE X l tl):PI X tg l (iList X.K tl):=by
 intro ad s Z H R I h;refine thn (hl ad s Z H _ I h) λv s1 W'=>?_;obtain⟨x,H1,I1,r1,q1⟩:=W';obtain⟨a,e,⟨xs,hq⟩,q⟩:=q1;subst e;cases r1;obtain⟨dl,rv,p,hz⟩:=I1.list hq;refine wpAny_pyIter_list p.isList ?_;refine⟨`y,[`y],_,_,H1,rfl,I1.kept (t':=s1.toks) λb o e=>Heap.get?_push_of_some _ e,wc a _,⟨_,Heap.get?_push_size _ rfl,rfl,rfl⟩,λb hb=>?_,q⟩;have e:b=`y:=by simpa using hb
 subst e;exact I1.fpOk `n (I1.hok.fresh `n)
theorem wj {l:Expr}{tl:TE}(hl:PE X l tl):PI X tg l (iTup X.K tl):=by
 intro ad s Z H R I h;refine thn (hl ad s Z H _ I h) λv s1 W'=>?_;obtain⟨x,H1,I1,r1,q1⟩:=W';obtain⟨a,e,⟨xs,hq⟩,q⟩:=q1;subst e;cases r1;obtain⟨dl,rv,p,hz⟩:=I1.tuple hq;refine wpAny_pyIter_tuple (show s1.heap.IsTuple a dl.toArray from p) ?_;refine⟨`y,[`y],_,_,H1,rfl,I1.kept (t':=s1.toks) λb o e=>Heap.get?_push_of_some _ e,wd a _,⟨_,Heap.get?_push_size _ rfl,rfl,rfl⟩,λb hb=>?_,q⟩;have e:b=`y:=by simpa using hb
 subst e;exact I1.fpOk `n (I1.hok.fresh `n)
theorem wk {pins:`O}{Z:St}{H:Hp}{s:Shared}{R:It->Hp->Prop}{E:`T}{lo hi:Int}{t u v:Tok}{tk:Nat}(I:Inv X pins Z H s)(h1:-(2 ^ 62)<=lo)(h2:lo < 2 ^ 62)(h3:-(2 ^ 62)<=hi)(h4:hi < 2 ^ 62)
  (q:R (Itr lo (hi - lo).toNat) H):wpAny `m X.A (pyIter (.ref `z)) (PIE X pins Z tg R) E {s with heap:=s.heap.push {cls:=.type "range",data:=.fields #[.int lo t,.int hi u,.int 1 v]},toks:=tk}:=by
 refine wpAny_pyIter_range (IsRange.new ..) (small_one h1 h2 h3 h4) ?_;have I1:Inv X pins Z H {s with heap:=s.heap.push {cls:=.type "range",data:=.fields #[.int lo t,.int hi u,.int 1 v]},toks:=tk}:=I.kept λb o e=>Heap.get?_push_of_some _ e;refine⟨(s.heap.push {cls:=.type "range",data:=.fields #[.int lo t,.int hi u,.int 1 v]}).objs.size,[(s.heap.push {cls:=.type "range",data:=.fields #[.int lo t,.int hi u,.int 1 v]}).objs.size],_,_,H,rfl,
  I1.kept (t':=tk) λb o e=>Heap.get?_push_of_some _ e,we _ lo (hi - lo).toNat,?_,λb hb=>?_,q⟩
 .have e1:lo+((0:Nat):Int) * 1=lo:=by simp
  have e2:(((hi - lo).toNat:Nat):Int) - ((0:Nat):Int)=Builtin.Range.rangeSize lo hi 1:=by rw[rangeSize_one];split <;> lia
  show IsRangeIter _ _ (lo+((0:Nat):Int) * 1) ((((hi - lo).toNat:Nat):Int) - ((0:Nat):Int)) 1;rw[e1,e2];exact Heap.get?_push_size _ rfl
 .have e:b=(s.heap.push {cls:=.type "range",data:=.fields #[.int lo t,.int hi u,.int 1 v]}).objs.size:=by simpa using hb
  subst e;exact I1.fpOk `n (I1.hok.fresh `n)
def iRng1 (ta:TA):TI:=λZ H R=>ta Z H λvs H1=>∃j:Int,vs=[.int j]/\-(2 ^ 62)<=j/\j < 2 ^ 62/\R (Itr 0 j.toNat) H1
theorem dJ {a:Expr}{ta:TA}{p pos:Pos}(hg:Gl X "range")(hm:X.mg "range"=none)(ha:PA X [a] ta)(hs:starEach [a] X.env=[(false,eval a X.env)]:=by rfl):PI X tg (.Call (.Name "range" p) [a] [] pos) (iRng1 ta):=by
 intro ad s Z H R I h;refine Call_ (cD I hg hm boot_range (PyProof.Rows.callWith_type1 (thn (ha pos ad s Z H _ I h) λus s1 W'=>?_) hs rfl));obtain⟨vs,H1,I1,r1,q1⟩:=W';obtain⟨j,e,q1,q2,q⟩:=q1;subst e;cases r1 with
 |cons r rr=>cases rr;obtain⟨t,rfl⟩:=r;exact call_range_1 (wk I1 `l `l q1 q2 (by simpa using q))
def tFor (wi:TI)(g:TG)(tb:TS):TS:=λD Z H=>wi Z H λJ H1=>∃W:Nat->Nat->St->Hp->Prop,(∃m,W 0 m Z H1)/\∀i m Z H,W i m Z H ->
 (J.stop i H/\D.nx Z H)\/(J.go i H/\∃N:St->Hp->Prop,(∀Z' H',N Z' H'->∃m',m' < m/\W (i+1) m' Z' H')/\∀x H',J.yld i H x H'->g x Z H' λZ2 H2=>tb {D with nx:=N,ct:=N,bk:=D.nx} Z2 H2)
noncomputable def pinsAt (fp:List Addr)(h:Heap):`O:=fp.filterMap λb=>(h.get? b).map λo=>(b,o)
theorem gO {fp:List Addr}{h:Heap}{b:Addr}{o:Obj}(hb:b∈fp)(e:h.get? b=some o):(b,o)∈pinsAt fp h:=mem_filterMap.mpr ⟨b,hb,by rw[e];rfl⟩
theorem wm {fp:List Addr}{h:Heap}{p:Addr×Obj}(hp:p∈pinsAt fp h):p.1∈fp/\h.get? p.1=some p.2:=by
 obtain⟨b,hb,e⟩:=mem_filterMap.mp hp;cases q:h.get? b with
 |none=>rw[q] at e;cases e
 |some o=>rw[q] at e;have e':(b,o)=p:=Option.some.inj e;subst e';exact⟨hb,q⟩
theorem Inv.pinned {pins:`O}{Z:St}{H:Hp}{s:Shared}{fp:List Addr}(I:Inv X pins Z H s)(hf:∀b∈fp,FpOk X pins H b)(ho:∀b∈fp,∃o,s.heap.get? b=some o/\∀v,o.data≠.cell v):Inv X (pins++pinsAt fp s.heap) Z H s:=
 I.pins_of λp hp=>(mem_append.mp hp).elim (λz=>I.pin p (mem_append_right _ z)) λz=>by obtain⟨hb,e⟩:=wm z;obtain⟨f0,f1,f2,_⟩:=hf p.1 hb;obtain⟨o,e',d⟩:=ho p.1 hb;rw[e] at e';cases e';exact⟨e,f0,f1,f2,d⟩
theorem Inv.unpinned {pins pl:`O}{Z:St}{H:Hp}{s:Shared}(I:Inv X (pins++pl) Z H s):Inv X pins Z H s:=I.pins_of λp hp=>I.pin p (mem_append_right _ (mem_append_left _ hp))
theorem cG {iter:Expr}{body:List Stmt}{wi:TI}{g:TG}{tb:TS}{pos:Pos}(hp:PassesOwn `m X.A X.env X.xe)(hc:X.calm=true)(hi:PI X tg iter wi)(hg:PG X tg g)(hb:PSs X body tb)
  (hs:∀x,foldedSetIterable iter X.env x=pure x:=by intro _;rfl):PS X (.For tg iter body [] pos) (tFor wi g tb):=by
 intro ad s Z H D I h;refine wpAny_For (thn (hi ad s Z H _ I h) λv s1 h1=>thn h1 λHA s2 h2=>?_) hs;obtain⟨it,fp,tn,J,H2,e,I2,T,GE,f2,W,⟨m0,w0⟩,BT⟩:=h2;subst e;have mt:∀{H':Hp},(∀b∈fp,H' b=none)->∀b∈fp,FpOk X ad H' b:=λhn b hb=>⟨hn b hb,(f2 b hb).2⟩;refine codeAny_forLoop_any (λn s'=>∃i Z' H',Inv X ad Z' H' s'/\tn i s'.heap/\(∀b∈fp,H' b=none)/\W i n Z' H') ?_ m0 ⟨0,Z,H2,I2,GE,λb hb=>(f2 b hb).1,w0⟩;rintro n s3 ⟨i,Z3,H3,I3,Fn,Fr,w3⟩;rcases BT i n Z3 H3 w3 with⟨stop,qn⟩|⟨go,N,hN,step⟩
 .refine wpAny_passesOwn hp (thn (T.done X rfl rfl rfl hc i ad s3 Z3 H3 X.xe I3 (mt Fr) Fn stop) λr s4 W'=>?_);obtain⟨hr,I4⟩:=W';subst hr;exact wpAny_execs_nil ⟨Z3,H3,I4,qn⟩
 .refine wpAny_passesOwn hp (thn (T.item X rfl rfl rfl hc i ad s3 Z3 H3 X.xe I3 (mt Fr) Fn go) λr s4 W'=>?_);obtain⟨u,hr,h4⟩:=W';subst hr;refine wpAny_passesOwn hp (thn h4 λ_ s5 W'=>?_);obtain⟨x,H5,I5,r5,y5,Cl,GT⟩:=W';have I5':=I5.pinned (mt GT) (T.obj _ _ Cl);refine wpAny_passesOwn hp (thn (hg _ s5 Z3 H5 x u _ I5' r5 (step x H5 y5)) λ_ s6 W'=>?_);obtain⟨Z6,H6,I6,q6⟩:=W';refine wpAny_passesOwn hp (thn (hb _ s6 Z6 H6 _ I6 q6) λf s7 q7=>?_);have dl:∀{Z7:St}{H7:Hp},Inv X (ad++pinsAt fp s5.heap) Z7 H7 s7->N Z7 H7->∃m,m < n/\∃i Z' H',Inv X ad Z' H' s7/\tn i s7.heap/\(∀b∈fp,H' b=none)/\W i m Z' H':=λ{Z7 H7} I7 n7=>by
   obtain⟨m',hm,w7⟩:=hN Z7 H7 n7;refine⟨m',hm,i+1,Z7,H7,I7.unpinned,T.keep _ _ _ Cl λb hb o e=>(I7.pin (b,o) (mem_append_right _ (mem_append_right _ (gO hb e)))).1,λb hb=>?_,w7⟩;obtain⟨o,e,d⟩:=T.obj _ _ Cl b hb;exact (I7.pin (b,o) (mem_append_right _ (mem_append_right _ (gO hb e)))).2.1
  cases f with
  |next=>obtain⟨Z7,H7,I7,n7⟩:=q7;exact dl I7 n7
  |cont=>obtain⟨Z7,H7,I7,n7⟩:=q7;exact dl I7 n7
  |brk=>obtain⟨Z7,H7,I7,q7⟩:=q7;exact⟨Z7,H7,I7.unpinned,q7⟩
  |ret v=>obtain⟨x7,Z7,H7,I7,r7,q7⟩:=q7;exact⟨x7,Z7,H7,I7.unpinned,r7,q7⟩
end
theorem wn {K:`F}{a:Addr}{xs:`V}{g:TG}{tb:TS}{D:Ends}{Z:St}{H:Hp}(Pv:Nat->St->Hp->Prop)(h0:Pv 0 Z H)(hl:∀i Z H,i<=`x->Pv i Z H->SqL K H a xs)
  (hs:∀i x Z H,xs[i]?=some x->Pv i Z H->g x Z H λZ2 H2=>tb {D with nx:=Pv (i+1),ct:=Pv (i+1),bk:=D.nx} Z2 H2) (hd:∀Z H,Pv `x Z H->D.nx Z H) :
  ∃W:Nat->Nat->St->Hp->Prop,(∃m,W 0 m Z H)/\∀i m Z H,W i m Z H ->
   ((Itl K a).stop i H/\D.nx Z H)\/((Itl K a).go i H/\∃N:St->Hp->Prop,(∀Z' H',N Z' H'->∃m',m' < m/\W (i+1) m' Z' H')/\∀x H',(Itl K a).yld i H x H'->g x Z H' λZ2 H2=>tb {D with nx:=N,ct:=N,bk:=D.nx} Z2 H2):=by
 refine⟨λi m Z H=>m=`x - i/\i<=`x/\Pv i Z H,⟨`x,`s,Nat.zero_le _,h0⟩,?_⟩;rintro i m Z H ⟨rfl,hi,p⟩;have q:=hl i Z H hi p;by_cases ad:i < `x
 .refine .inr ⟨⟨xs,xs[i],q,by simp[ad]⟩,Pv (i+1),λZ' H' p'=>⟨`x - (i+1),`l,rfl,ad,p'⟩,λx H' y=>?_⟩;obtain⟨e,y⟩:=y;subst e;exact hs i x Z _ (y xs q) p
 .have e:i=`x:=by lia
  subst e;exact .inl ⟨⟨xs,q,Nat.le_refl _⟩,hd Z H p⟩
theorem wo {K:`F}{a:Addr}{xs:`V}{g:TG}{tb:TS}{D:Ends}{Z:St}{H:Hp}(Pv:Nat->St->Hp->Prop)(h0:Pv 0 Z H)(hl:∀i Z H,i<=`x->Pv i Z H->SqT K H a xs)
  (hs:∀i x Z H,xs[i]?=some x->Pv i Z H->g x Z H λZ2 H2=>tb {D with nx:=Pv (i+1),ct:=Pv (i+1),bk:=D.nx} Z2 H2) (hd:∀Z H,Pv `x Z H->D.nx Z H) :
  ∃W:Nat->Nat->St->Hp->Prop,(∃m,W 0 m Z H)/\∀i m Z H,W i m Z H ->
   ((Itt K a).stop i H/\D.nx Z H)\/((Itt K a).go i H/\∃N:St->Hp->Prop,(∀Z' H',N Z' H'->∃m',m' < m/\W (i+1) m' Z' H')/\∀x H',(Itt K a).yld i H x H'->g x Z H' λZ2 H2=>tb {D with nx:=N,ct:=N,bk:=D.nx} Z2 H2):=by
 refine⟨λi m Z H=>m=`x - i/\i<=`x/\Pv i Z H,⟨`x,`s,Nat.zero_le _,h0⟩,?_⟩;rintro i m Z H ⟨rfl,hi,p⟩;have q:=hl i Z H hi p;by_cases ad:i < `x
 .refine .inr ⟨⟨xs,xs[i],q,by simp[ad]⟩,Pv (i+1),λZ' H' p'=>⟨`x - (i+1),`l,rfl,ad,p'⟩,λx H' y=>?_⟩;obtain⟨e,y⟩:=y;subst e;exact hs i x Z _ (y xs q) p
 .have e:i=`x:=by lia
  subst e;exact .inl ⟨⟨xs,q,Nat.le_refl _⟩,hd Z H p⟩
theorem wq {lo:Int}{n:Nat}{g:TG}{tb:TS}{D:Ends}{Z:St}{H:Hp}(Pv:Nat->St->Hp->Prop)(h0:Pv 0 Z H)
  (hs:∀i Z H,i < n->Pv i Z H->g (.int (lo+i)) Z H λZ2 H2=>tb {D with nx:=Pv (i+1),ct:=Pv (i+1),bk:=D.nx} Z2 H2) (hd:∀Z H,Pv n Z H->D.nx Z H) :
  ∃W:Nat->Nat->St->Hp->Prop,(∃m,W 0 m Z H)/\∀i m Z H,W i m Z H ->
   ((Itr lo n).stop i H/\D.nx Z H)\/((Itr lo n).go i H/\∃N:St->Hp->Prop,(∀Z' H',N Z' H'->∃m',m' < m/\W (i+1) m' Z' H')/\∀x H',(Itr lo n).yld i H x H'->g x Z H' λZ2 H2=>tb {D with nx:=N,ct:=N,bk:=D.nx} Z2 H2):=by
 refine⟨λi m Z H=>m=n - i/\i<=n/\Pv i Z H,⟨n,`s,Nat.zero_le _,h0⟩,?_⟩;rintro i m Z H ⟨rfl,hi,p⟩;by_cases ad:i < n
 .refine .inr ⟨ad,Pv (i+1),λZ' H' p'=>⟨n - (i+1),`l,rfl,ad,p'⟩,λx H' y=>?_⟩;obtain⟨e,y⟩:=y;subst e y;exact hs i Z _ ad p
 .have e:i=n:=by lia
  subst e;exact .inl ⟨Nat.le_refl _,hd Z H p⟩
noncomputable abbrev R2:=V->V->Hp->VK->Prop
def OpR (X:Cx)(f:Value->Value->Sem Value)(r:R2):Prop:=
 ∀(pins:`O) (s:Shared) (Z:St) (H:Hp) (x y:V) (v u:Value) (Q:VK),Inv X pins Z H s->RelV x v->RelV y u->r x y H Q ->
  wpAny `m X.A (f v u) (EP X pins Z Q) X.xe s
def UnR (X:Cx)(f:Value->Sem Value)(r:V->Hp->VK->Prop):Prop:=
 ∀(pins:`O) (s:Shared) (Z:St) (H:Hp) (x:V) (v:Value) (Q:VK),Inv X pins Z H s->RelV x v->r x H Q ->
  wpAny `m X.A (f v) (EP X pins Z Q) X.xe s
def CallR (X:Cx)(f:Value)(r:`V->Hp->VK->Prop):Prop:=
 ∀(pins:`O) (s:Shared) (Z:St) (H:Hp) (xs:`V) (us:List Value) (Q:VK),Inv X pins Z H s->Vals xs us->r xs H Q ->
  wpAny `m X.A (call f us) (EP X pins Z Q) X.xe s
def tOp (r:R2)(ta tb:TE):TE:=λZ H Q=>ta Z H λx H1=>tb Z H1 λy H2=>r x y H2 Q
def tUn (r:V->Hp->VK->Prop)(ta:TE):TE:=λZ H Q=>ta Z H λx H1=>r x H1 Q
def V.ofI (x:V)(k:Int->Prop):Prop:=match x with|.int i=>k i|_=>False
theorem cX {x:V}{k:Int->Prop}(h:x.ofI k):∃i,x=.int i/\k i:=by cases x with|int i=>exact⟨i,rfl,h⟩|_=>exact False.elim h
def rI (C:Int->Int->Prop)(g:Int->Int->V):R2:=λx y H Q=>x.ofI λi=>y.ofI λj=>C i j/\Q (g i j) H
def rI0 (g:Int->Int->V):R2:=λx y H Q=>x.ofI λi=>y.ofI λj=>Q (g i j) H
def rU (g:Int->V):V->Hp->VK->Prop:=λx H Q=>∃i,x=.int i/\Q (g i) H
section
variable {X:Cx}{a b:Expr}{ta tb:TE}{pos:Pos}
theorem binT (ha:PE X a ta)(hb:PE X b tb){pins:`O}{s:Shared}{Z:St}{H:Hp}{R:V->V->Hp->Prop}(I:Inv X pins Z H s)
  (h:ta Z H λx H1=>tb Z H1 λy H2=>R x y H2) {Q:`T}{f:Value->Value->Sem Value}
  (hf:∀v u s2 x y H2,Inv X pins Z H2 s2->RelV x v->RelV y u->R x y H2->wpAny `m X.A (f v u) Q X.xe s2) :
  wpAny `m X.A (eval a X.env) (λv s₁=>wpAny `m X.A (eval b X.env) (λu s₂=>wpAny `m X.A (f v u) Q X.xe s₂) X.xe s₁) X.xe s:=by
 refine thn (ha pins s Z H _ I h) λv s1 W'=>?_;obtain⟨x,H1,I1,r1,q1⟩:=W';refine thn (hb pins s1 Z H1 _ I1 q1) λu s2 W'=>?_;obtain⟨y,H2,I2,r2,q2⟩:=W';exact hf v u s2 x y H2 I2 r1 r2 q2
theorem ai {op:Operator}{r:R2}(ho:OpR X (binaryOp op) r)(ha:PE X a ta)(hb:PE X b tb):PE X (.BinOp a op b pos) (tOp r ta tb):=by intro pins s Z H Q I h;exact wpAny_BinOp (binT ha hb I h λv u s2 x y H2 I2 rx ry q=>ho pins s2 Z H2 x y v u Q I2 rx ry q)
theorem jK {op:UnaryOp}{r:V->Hp->VK->Prop}(ho:UnR X (unaryOp op) r)(ha:PE X a ta):PE X (.UnaryOp op a pos) (tUn r ta):=by intro pins s Z H Q I h;exact UnaryOp_ (thn (ha pins s Z H _ I h) λv s1 ⟨x,H1,I1,r1,q1⟩=>ho pins s1 Z H1 x v Q I1 r1 q1)
theorem opI {f:Value->Value->Sem Value}{C:Int->Int->Prop}{g:Int->Int->Int}
  (rule:∀(i j:Int) (t u:Tok) (s:Shared) (Q:`T) (E:`T),C i j->Q (.int (g i j) s.toks) {s with toks:=s.toks+1}->wpAny `m X.A (f (.int i t) (.int j u)) Q E s) :
  OpR X f (rI C λi j=>.int (g i j)):=by
 intro pins s Z H x y v u Q I rx ry h;obtain⟨i,rfl,h1⟩:=cX h;obtain⟨j,rfl,hc,q⟩:=cX h1;obtain⟨t,rfl⟩:=rx;obtain⟨t',rfl⟩:=ry;exact rule i j t t' s _ _ hc ⟨.int (g i j),H,I.tok _,`o,q⟩
theorem opI0 {f:Value->Value->Sem Value}{g:Int->Int->Int}
  (rule:∀(i j:Int) (t u:Tok) (s:Shared) (Q:`T) (E:`T),Q (.int (g i j) s.toks) {s with toks:=s.toks+1}->wpAny `m X.A (f (.int i t) (.int j u)) Q E s) :
  OpR X f (rI0 λi j=>.int (g i j)):=by
 intro pins s Z H x y v u Q I rx ry h;obtain⟨i,rfl,h1⟩:=cX h;obtain⟨j,rfl,q⟩:=cX h1;obtain⟨t,rfl⟩:=rx;obtain⟨t',rfl⟩:=ry;exact rule i j t t' s _ _ ⟨.int (g i j),H,I.tok _,`o,q⟩
theorem opB0 {f:Value->Value->Sem Value}{g:Int->Int->Bool}
  (rule:∀(i j:Int) (t u:Tok) (s:Shared) (Q:`T) (E:`T),Q (.bool (g i j)) s->wpAny `m X.A (f (.int i t) (.int j u)) Q E s) :
  OpR X f (rI0 λi j=>.bl (g i j)):=by
 intro pins s Z H x y v u Q I rx ry h;obtain⟨i,rfl,h1⟩:=cX h;obtain⟨j,rfl,q⟩:=cX h1;obtain⟨t,rfl⟩:=rx;obtain⟨t',rfl⟩:=ry;exact rule i j t t' s _ _ ⟨.bl (g i j),H,I,rfl,q⟩
def CDiv (i j:Int):Prop:=0 < j/\j < 1073741824
def CMul (i j:Int):Prop:=(-(2 ^ 64) < i/\i < 2 ^ 64)\/(-(2 ^ 64) < j/\j < 2 ^ 64)
theorem CMul.ok {i j:Int}(h:CMul i j):IntMulOk i j:=by
 rcases h with⟨h1,h2⟩|⟨h1,h2⟩
 .exact .of_left (intBits_le_64 h1 h2)
 .exact .of_right (intBits_le_64 h1 h2)
theorem wt:OpR X (binaryOp .Add) (rI0 λi j=>.int (i+j)):=opI0 λ_ _ _ _ _ _ _ q=>add_int q
theorem wu:OpR X (binaryOp .Sub) (rI0 λi j=>.int (i - j)):=opI0 λ_ _ _ _ _ _ _ q=>sub_int q
theorem wv:OpR X (binaryOp .Mult) (rI CMul λi j=>.int (i * j)):=opI λ_ _ _ _ _ _ _ hc q=>mul_int q hc.ok
theorem ww:OpR X (binaryOp .FloorDiv) (rI CDiv λi j=>.int (i / j)):=opI λi j _ _ _ _ _ hc q=>by have h1:(0:Int) < j:=hc.1;have h2:j < 1073741824:=hc.2;exact floordiv_int `l (by rw[Int.fdiv_eq_ediv_of_nonneg i `l];exact q) (.inl (PyProof.noPylong_small `l))
theorem wz:OpR X (binaryOp .Mod) (rI (λ_ j=>0 < j) λi j=>.int (i % j)):=opI λi j _ _ _ _ _ hc q=>by have h1:(0:Int) < j:=hc;exact mod_int' `l (by rw[Int.fmod_eq_emod_of_nonneg i `l];exact q)
theorem unI {f:Value->Sem Value}{g:Int->Int}
  (rule:∀(i:Int) (t:Tok) (s:Shared) (Q:`T) (E:`T),Q (.int (g i) s.toks) {s with toks:=s.toks+1}->wpAny `m X.A (f (.int i t)) Q E s) :
  UnR X f (rU λi=>.int (g i)):=by
 intro pins s Z H x v Q I rx h;obtain⟨i,rfl,q⟩:=h;obtain⟨t,rfl⟩:=rx;exact rule i t s _ _ ⟨.int (g i),H,I.tok _,`o,q⟩
theorem jL:UnR X (unaryOp .USub) (rU λi=>.int (-i)):=unI λ_ _ _ _ _ q=>neg_int q
end
noncomputable def scal:V->V->Bool
 |.non,.non=>true|.non,.int _=>true|.int _,.non=>true|.non,.bl _=>true|.bl _,.non=>true|.non,.str _=>true|.str _,.non=>true
 |.int _,.int _=>true|.bl _,.bl _=>true|.str _,.str _=>true|.byt _,.byt _=>true
 |.int _,.str _=>true|.str _,.int _=>true|.bl _,.str _=>true|.str _,.bl _=>true
 |_,_=>false
def rEq:R2:=λx y H Q=>scal x y=true/\Q (.bl (decide (x=y))) H
def rNe:R2:=λx y H Q=>scal x y=true/\Q (.bl (!decide (x=y))) H
theorem m7 {i j:Int}:decide (V.int i=V.int j)=(i == j):=by rw[Bool.eq_iff_iff];simp
theorem m8 {i j:Bool}:decide (V.bl i=V.bl j)=(i == j):=by rw[Bool.eq_iff_iff];simp
theorem m9 {i j:Str}:decide (V.str i=V.str j)=(i == j):=by rw[Bool.eq_iff_iff];simp
theorem mB {i j:Array UInt8}:decide (V.byt i=V.byt j)=(i.toList == j.toList):=by rw[Bool.eq_iff_iff];cases i;cases j;simp
section
variable {X:Cx}{a b c:Expr}{ta tb tc:TE}{pos:Pos}
theorem aV {pins:`O}{Z:St}{H:Hp}{s:Shared}{Q:VK}{k k':Bool}(I:Inv X pins Z H s)(q:Q (.bl k) H)(e:k=k'):EP X pins Z Q (.bool k') s:=by subst e;exact⟨.bl k,H,I,rfl,q⟩
theorem bK:OpR X (compareOp .Eq) rEq:=by
 intro ad s Z H x y v u Q I rx ry h;obtain⟨hs,q⟩:=h;cases x with
 |non=>
  cases rx;cases y with
  |non=>cases ry;exact PySem.EqNone.eq_none_none (aV I q `s)
  |bl j=>cases ry;exact PySem.EqNone.eq_none_bool (aV I q `s)
  |int j=>obtain⟨t',rfl⟩:=ry;exact PySem.EqNone.eq_none_int (aV I q `s)
  |str j=>obtain⟨t',rfl⟩:=ry;exact PySem.EqNone.eq_none_str (aV I q `s)
  |_=>exact absurd (show false=true from hs) Bool.false_ne_true
 |bl i=>
  cases rx;cases y with
  |non=>cases ry;exact PySem.EqNone.eq_bool_none (aV I q `s)
  |bl j=>cases ry;exact eq_bool (aV I q m8)
  |str j=>obtain⟨t',rfl⟩:=ry;exact PySem.EqMixed.eq_bool_str (aV I q `s)
  |_=>exact absurd (show false=true from hs) Bool.false_ne_true
 |int i=>
  obtain⟨t,rfl⟩:=rx;cases y with
  |non=>cases ry;exact PySem.EqNone.eq_int_none (aV I q `s)
  |int j=>obtain⟨t',rfl⟩:=ry;exact eq_int (aV I q m7)
  |str j=>obtain⟨t',rfl⟩:=ry;exact PySem.EqMixed.eq_int_str (aV I q `s)
  |_=>exact absurd (show false=true from hs) Bool.false_ne_true
 |str i=>
  obtain⟨t,rfl⟩:=rx;cases y with
  |non=>cases ry;exact PySem.EqNone.eq_str_none (aV I q `s)
  |bl j=>cases ry;exact PySem.EqMixed.eq_str_bool (aV I q `s)
  |int j=>obtain⟨t',rfl⟩:=ry;exact PySem.EqMixed.eq_str_int (aV I q `s)
  |str j=>obtain⟨t',rfl⟩:=ry;exact eq_str (aV I q m9)
  |_=>exact absurd (show false=true from hs) Bool.false_ne_true
 |byt i=>
  obtain⟨t,rfl⟩:=rx;cases y with
  |byt j=>obtain⟨t',rfl⟩:=ry;exact PySem.W.eq_bytes (aV I q mB)
  |_=>exact absurd (show false=true from hs) Bool.false_ne_true
 |_=>cases y <;> exact absurd (show false=true from hs) Bool.false_ne_true
theorem bE:OpR X (compareOp .NotEq) rNe:=by
 intro ad s Z H x y v u Q I rx ry h;obtain⟨hs,q⟩:=h;cases x with
 |non=>
  cases rx;cases y with
  |non=>cases ry;exact PySem.EqNone.ne_none_none (aV I q `s)
  |bl j=>cases ry;exact PySem.EqNone.ne_none_bool (aV I q `s)
  |int j=>obtain⟨t',rfl⟩:=ry;exact PySem.EqNone.ne_none_int (aV I q `s)
  |str j=>obtain⟨t',rfl⟩:=ry;exact PySem.EqNone.ne_none_str (aV I q `s)
  |_=>exact absurd (show false=true from hs) Bool.false_ne_true
 |bl i=>
  cases rx;cases y with
  |non=>cases ry;exact PySem.EqNone.ne_bool_none (aV I q `s)
  |bl j=>cases ry;exact ne_bool (aV I q (congrArg not m8))
  |str j=>obtain⟨t',rfl⟩:=ry;exact PySem.EqMixed.ne_bool_str (aV I q `s)
  |_=>exact absurd (show false=true from hs) Bool.false_ne_true
 |int i=>
  obtain⟨t,rfl⟩:=rx;cases y with
  |non=>cases ry;exact PySem.EqNone.ne_int_none (aV I q `s)
  |int j=>obtain⟨t',rfl⟩:=ry;exact ne_int (aV I q (congrArg not m7))
  |str j=>obtain⟨t',rfl⟩:=ry;exact PySem.EqMixed.ne_int_str (aV I q `s)
  |_=>exact absurd (show false=true from hs) Bool.false_ne_true
 |str i=>
  obtain⟨t,rfl⟩:=rx;cases y with
  |non=>cases ry;exact PySem.EqNone.ne_str_none (aV I q `s)
  |bl j=>cases ry;exact PySem.EqMixed.ne_str_bool (aV I q `s)
  |int j=>obtain⟨t',rfl⟩:=ry;exact PySem.EqMixed.ne_str_int (aV I q `s)
  |str j=>obtain⟨t',rfl⟩:=ry;exact ne_str (aV I q (congrArg not m9))
  |_=>exact absurd (show false=true from hs) Bool.false_ne_true
 |byt i=>
  obtain⟨t,rfl⟩:=rx;cases y with
  |byt j=>obtain⟨t',rfl⟩:=ry;exact PySem.W.ne_bytes (aV I q (congrArg not mB))
  |_=>exact absurd (show false=true from hs) Bool.false_ne_true
 |_=>cases y <;> exact absurd (show false=true from hs) Bool.false_ne_true
theorem mC:OpR X (compareOp .Lt) (rI0 λi j=>.bl (decide (i < j))):=opB0 λ_ _ _ _ _ _ _ q=>lt_int q
theorem mD:OpR X (compareOp .LtE) (rI0 λi j=>.bl (decide (i<=j))):=opB0 λ_ _ _ _ _ _ _ q=>le_int q
theorem mE:OpR X (compareOp .Gt) (rI0 λi j=>.bl (decide (j < i))):=opB0 λ_ _ _ _ _ _ _ q=>gt_int q
theorem x8:OpR X (compareOp .GtE) (rI0 λi j=>.bl (decide (j<=i))):=opB0 λ_ _ _ _ _ _ _ q=>ge_int q
theorem x9:OpR X (compareOp .In) (λx y H Q=>∃i j,x=.str i/\y=.str j/\Q (.bl (!(Builtin.Str.occurrences j i 0 j.length 1).isEmpty)) H):=by intro pins s Z H x y v u Q I rx ry h;obtain⟨i,j,rfl,rfl,q⟩:=h;obtain⟨t,rfl⟩:=rx;obtain⟨t',rfl⟩:=ry;exact in_str (aV I q rfl)
theorem xA:OpR X (compareOp .Is) (λx y H Q=>y=.non/\Q (.bl (decide (x=.non))) H):=by
 intro pins s Z H x y v u Q I rx ry h;obtain⟨rfl,q⟩:=h;cases ry;refine is_none_gen (aV I q ?_);cases x <;> first
  | (cases rx;rfl)
  | (obtain⟨t,rfl⟩:=rx;rfl)
theorem xB:OpR X (compareOp .IsNot) (λx y H Q=>y=.non/\Q (.bl (!decide (x=.non))) H):=by
 intro pins s Z H x y v u Q I rx ry h;obtain⟨rfl,q⟩:=h;cases ry;refine isnot_none_gen (aV I q ?_);cases x <;> first
  | (cases rx;rfl)
  | (obtain⟨t,rfl⟩:=rx;rfl)
theorem nomark (b:Expr){op:CmpOp}(h:op≠.In:=by decide)(h2:op≠.NotIn:=by decide):behindInMarks op b=false:=by
 have e1:(op == CmpOp.In)=false:=by cases op <;> first|rfl|exact absurd rfl h
 have e2:(op == CmpOp.NotIn)=false:=by cases op <;> first|rfl|exact absurd rfl h2
 cases b <;> simp[behindInMarks,e1,e2]
theorem el {op:CmpOp}{r:R2}(ho:OpR X (compareOp op) r)(ha:PE X a ta)(hb:PE X b tb)(hm:behindInMarks op b=false):PE X (.Compare a [op] [b] pos) (tOp r ta tb):=by intro pins s Z H Q I h;exact wpAny_Compare1 (binT ha hb I h λv u s2 x y H2 I2 rx ry q=>ho pins s2 Z H2 x y v u Q I2 rx ry q) hm
def tTest (t:TE):TT:=λZ H Q=>t Z H λx H'=>∃k,x=.bl k/\Q k H'
theorem cH {op:CmpOp}{r:R2}(ho:OpR X (compareOp op) r)(ha:PE X a ta)(hb:PE X b tb)(hm:behindInMarks op b=false):PT X (.Compare a [op] [b] pos) (tTest (tOp r ta tb)):=by
 intro ad s Z H Q I h;refine wpAny_isTrue_Compare1 (thn (ha ad s Z H _ I h) λv s1 ⟨x,H1,I1,r1,q1⟩=>thn (hb ad s1 Z H1 _ I1 q1) λu s2 ⟨y,H2,I2,r2,q2⟩=>
  thn (ho ad s2 Z H2 x y v u _ I2 r1 r2 q2) λc s3 ⟨z,H3,I3,r3,k,e,q3⟩=>?_) hm
 subst e;cases r3;exact wpAny_truthy_bool ⟨H3,I3,q3⟩
def tChain (r r':R2)(ta tb tc:TE):TE:=λZ H Q=>ta Z H λx H1=>tb Z H1 λy H2=>r x y H2 λz H3=>∃k,z=.bl k/\
 (if k=true then tc Z H3 λw' H4=>r' y w' H4 Q else Q (.bl false) H3)
theorem xC {op op':CmpOp}{r r':R2}(ho:OpR X (compareOp op) r)(ho':OpR X (compareOp op') r')(ha:PE X a ta)(hb:PE X b tb)(hc:PE X c tc)
  (hm:lastMarks [op,op'] [b,c]=false:=by with_unfolding_all rfl):PE X (.Compare a [op,op'] [b,c] pos) (tChain r r' ta tb tc):=by
 intro ad s Z H Q I h;refine Compare_chain (thn (ha ad s Z H _ I h) λv s1 ⟨x,H1,I1,r1,q1⟩=>chain_link (thn (hb ad s1 Z H1 _ I1 q1) λu s2 ⟨y,H2,I2,r2,q2⟩=>
  thn (ho ad s2 Z H2 x y v u _ I2 r1 r2 q2) λd s3 ⟨z,H3,I3,r3,k,e,q3⟩=>?_)) hm
 subst e;cases r3;refine wpAny_truthy_bool ?_;cases k with
 |false=>exact ite_ff ⟨.bl false,H3,I3,rfl,q3⟩
 |true=>exact ite_tt (chain_last (thn (hc ad s3 Z H3 _ I3 q3) λw' s4 ⟨z',H4,I4,r4,q4⟩=>ho' ad s4 Z H4 y z' u w' Q I4 r2 r4 q4))
theorem line63:(sizeLine:Nat) < 2 ^ 63:=by rw[sizeLine_eq];decide
theorem xD:OpR X (binaryOp .Add) (λx y H Q=>∃i j,x=.str i/\y=.str j/\i.length+j.length<=sizeLine/\Q (.str (i++j)) H):=by intro pins s Z H x y v u Q I rx ry h;obtain⟨i,j,rfl,rfl,hz,q⟩:=h;obtain⟨t,rfl⟩:=rx;obtain⟨t',rfl⟩:=ry;exact add_str (λt' tk=>⟨.str (i++j),H,I.tok _,`o,q⟩) hz
theorem vals1 {x:V}{us:List Value}(r:Vals [x] us):∃u,us=[u]/\RelV x u:=by
 cases r with
 |cons r1 r2=>cases r2;exact⟨_,rfl,r1⟩
theorem vals2 {x y:V}{us:List Value}(r:Vals [x,y] us):∃u w',us=[u,w']/\RelV x u/\RelV y w':=by
 cases r with
 |cons r1 r2=>
  cases r2 with
  |cons r3 r4=>cases r4;exact⟨_,_,rfl,r1,r3⟩
theorem xE (hc:X.calm=true):CallR X (.builtin "max") (λxs H Q=>∃i j,xs=[.int i,.int j]/\Q (.int (if j > i then j else i)) H):=by
 intro pins s Z H xs us Q I r h;obtain⟨i,j,rfl,q⟩:=h;obtain⟨u,w',rfl,⟨t,rfl⟩,⟨t',rfl⟩⟩:=vals2 r;refine max_two_ints (I.ok.hd hc) λh' tk k=>⟨_,H,I.kept k,?_,q⟩;by_cases hj:j > i
 .rw[if_pos hj,if_pos hj];exact⟨_,rfl⟩
 .rw[if_neg hj,if_neg hj];exact⟨_,rfl⟩
theorem mF:CallR X (.type "int") (λxs H Q=>(∃i,xs=[.int i]/\Q (.int i) H)\/∃k,xs=[.bl k]/\Q (.int (if k then 1 else 0)) H):=by
 intro pins s Z H xs us Q I r h;rcases h with⟨i,rfl,q⟩|⟨k,rfl,q⟩
 .obtain⟨u,rfl,t,rfl⟩:=vals1 r;exact call_int_int ⟨.int i,H,I,`o,q⟩
 .obtain⟨u,rfl,r1⟩:=vals1 r;cases r1;exact call_int_bool ⟨.int (if k then 1 else 0),H,I.tok _,`o,q⟩
theorem xF:CallR X (.type "str") (λxs H Q=>∃i,xs=[.int i]/\i.natAbs.log2 < 1920/\Q (.str (toString i)) H):=by intro pins s Z H xs us Q I r h;obtain⟨i,rfl,hz,q⟩:=h;obtain⟨u,rfl,t,rfl⟩:=vals1 r;exact PySem.P.str_of_int hz ⟨.str _,H,I.tok _,`o,q⟩
theorem xG:CallR X (.builtin "ord") (λxs H Q=>∃x,xs=[.str x]/\x.length=1/\Q (.int (x.cps.getD 0 0:Nat)) H):=by intro pins s Z H xs us Q I r h;obtain⟨x,rfl,hz,q⟩:=h;obtain⟨u,rfl,t,rfl⟩:=vals1 r;exact ord_of_one hz ⟨.int _,H,I.tok _,`o,q⟩
end
structure ObjM (h:Heap)(x dx C:Addr)(mA:Str->Option Value):Prop where
 obj:h.get? x=some (PySem.W.instObj C dx)
 ns:h.Ns1 dx mA
 ne:dx≠x
theorem xH {h:Heap}{dx:Addr}{mA:Str->Option Value}(n:h.Ns1 dx mA):∃od,h.get? dx=some od/\∀name,PySem.W.lookIn name od=some (mA name):=by
 obtain⟨o,es,ep,ho,hd,hk,_,hm⟩:=n;refine⟨o,ho,λname=>?_⟩;have e:=hm name;unfold nsFind findBy at e;rw[<- Array.find?_toList] at e;unfold PySem.W.lookIn;rw[hd];dsimp only;split
 .rename_i y q;rw[q] at e;exact congrArg some e
 .rename_i q;rw[q] at e;have a:es.toList.any (·.refKey)=false:=by
   rw[List.any_eq_false];intro y hy;obtain⟨z,t,ad⟩:=hk y (Array.mem_toList_iff.mp hy);simp[DictEntry.refKey,ad]
  have a':¬ es.toList.any (·.refKey)=true:=by rw[a];exact Bool.false_ne_true
  rw[if_neg a'];exact congrArg some e
theorem ObjM.look {h:Heap}{x dx C:Addr}{mA:Str->Option Value}(I:ObjM h x dx C mA):∃od,PySem.W.InstAt h x (PySem.W.instObj C dx) C (some od)/\∀name,PySem.W.lookIn name od=some (mA name):=
 let ⟨od,ho,hl⟩:=xH I.ns
 ⟨od,⟨I.obj,rfl,rfl,ho⟩,hl⟩
section
variable {prog:Program}{w:World}{A:Around}{E:`T}{s:Shared}{K:`F}{x dx C f:Addr}{mA:Str->Option Value}{name:Str}{v:Value}
theorem xI {expr:Bool}{Q:`T}(X:K.In s.heap)(I:ObjM s.heap x dx C mA)(hg:PySem.W.plainGet K C name=true)(hh:PySem.W.hasDictIn K C=true)
  (ha:PySem.W.findIn K (.ref C) name=some none) (hv:mA name=some v) (hv':PySem.W.handedIn v=true) (h:Q v {s with toks:=s.toks+1}) :
  wpAny `M A (getAttr (.ref x) name expr) Q E s:=by
 obtain⟨od,J,hl⟩:=I.look;exact PySem.W.get_value X J (PySem.W.plainGet_of hg).1 (PySem.W.findObj_own hh ha rfl (by rw[hl,hv])) hv' h
theorem xJ {pl:Sem Bool}{Q:Value×List Value->Shared->Prop}(X:K.In s.heap)(I:ObjM s.heap x dx C mA)(hg:PySem.W.plainGet K C name=true)
  (hf:PySem.W.findIn K (.ref C) name=some (some (.ref f))) (ht:PySem.W.isFn K (.ref f)=true) (hv:mA name=none) (h:Q (.ref f,[.ref x]) s) :
  wpAny `M A (getMethod (.ref x) name pl) Q E s:=by
 obtain⟨od,J,hl⟩:=I.look;exact PySem.W.method_fn X J (PySem.W.plainGet_of hg).1 (PySem.W.plainGet_of hg).2 hf (beq_iff_eq.mp ht) (by show (PySem.W.lookIn name od).map (·.isSome)=some false;rw[hl,hv];rfl) h
theorem xK {ns:List Str}{Q:Unit->Shared->Prop}(X:K.In s.heap)(I:ObjM s.heap x dx C mA)
  (hs:PySem.W.findIn K (.ref C) "__setattr__"=some (some (.builtin "object.__setattr__"))) (hp:PySem.W.plainOver K C=true) (ht:PySem.W.takerIn K C name=some none) (hh:PySem.W.hasDictIn K C=true)
  (hw:PySem.Within mA ns) (hsz:ns.length<=sizeLine)
  (h:∀h',ObjM h' x dx C (λy=>if y=name then some v else mA y)->Heap.SameBut dx s.heap h'->Q () {s with heap:=h',toks:=s.toks+2}) :
  wpAny `M A (setAttr (.ref x) name v) Q E s:=by
 obtain⟨od,J,hl⟩:=I.look;refine PySem.W.set_plain X J hs (PySem.W.osa_open (s:={ s with toks:=s.toks+1}) (r:=none) X J hp ht λb=>?_);obtain⟨cd,hc,Cl⟩:=PySem.W.any_some hh;have hx:s.heap.get? x=some ⟨.ref C,some dx,.plain,#[]⟩:=I.obj;refine wpAny_bind (wpAny_pure (wpAny_bind (wpAny_bind (wpAny_loadPart hx (wpAny_bind (PySem.W.Looks.here (s:={ s with toks:=s.toks+1}) (PySem.W.looks_clsIn X hc) ?_))))));rw[Cl];refine wpAny_pure (a:=some dx) (wpAny_bind (wpAny_pure (wpAny_bind ?_)));refine wpAny_nsSet1 (s:={ s with toks:=s.toks+1}) I.ns λh' dl ad=>?_;obtain⟨oD,Fr,GE,mt,BT,Fn⟩:=dl.count (PySem.Within.cons name v hw);refine wpAny_bind (wpAny_lookBehind mt (by rw[BT];exact pastItsLine_dict (Nat.le_trans Fn (by rw[length_cons];lia))) ?_);exact wpAny_pure (h _ ⟨(ad.2 _ (Ne.symm I.ne)).trans I.obj,dl,I.ne⟩ ad)
theorem xL {R:Result->Shared->Prop}{vs:List Value}{kw:List (Str×Value)}(X:K.In s.heap)(hm:PySem.W.makesIn K C=true)
  (hi:PySem.W.findIn K (.ref C) "__init__"=some (some (.ref f))) (hf:PySem.W.typeIn K (.ref f)=some (.type "function"))
  (h:codeAny `M (A.under (.builtin "type.__call__" ⟨.ref C::vs,kw⟩)) (.call (.ref f) ⟨.ref (`z+1)::vs,kw⟩) (PySem.W.InitBack (`z+1) R)
   { s with heap:=(s.heap.push PySem.W.emptyDict).push (PySem.W.instObj C `z)}) :
  codeAny `M A (.call (.ref C) ⟨vs,kw⟩) R s:=by
 obtain⟨hh,g,d,t,os⟩:=s;exact PySem.W.make_core (PySem.W.makes_of X hm) (PySem.W.looks_findIn X hi) (λself=>PySem.W.bind_fn X self hf) (.inl rfl) h
end
noncomputable def putF (f:Str)(v:V):List (Str×V)->List (Str×V)
 |[]=>[(f,v)]
 | (g,x)::r=>if g=f then (g,v)::r else (g,x)::putF f v r
theorem mG (f g:Str)(v:V):∀fs:List (Str×V),(putF f v fs).lookup g=if g=f then some v else fs.lookup g
 |[]=>by
  show List.lookup g [(f,v)]=_;by_cases h:g=f
  .have hb:(g == f)=true:=beq_iff_eq.mpr h;simp only[List.lookup,hb,if_pos h]
  .have hb:(g == f)=false:=beq_eq_false_iff_ne.mpr h;simp only[List.lookup,hb,if_neg h]
 | (k,x)::r=>by
  have ih:=mG f g v r;rw[show putF f v ((k,x)::r)=(if k=f then (k,v)::r else (k,x)::putF f v r) from rfl];by_cases hk:k=f
  .rw[if_pos hk];by_cases h:g=k
   .have hb:(g == k)=true:=beq_iff_eq.mpr h;simp only[List.lookup,hb,if_pos (h.trans hk)]
   .have hb:(g == k)=false:=beq_eq_false_iff_ne.mpr h;simp only[List.lookup,hb,if_neg (λe:g=f=>h (e.trans hk.symm))]
  .rw[if_neg hk];by_cases h:g=k
   .have hb:(g == k)=true:=beq_iff_eq.mpr h;simp only[List.lookup,hb,if_neg (λe:g=f=>hk (h.symm.trans e))]
   .have hb:(g == k)=false:=beq_eq_false_iff_ne.mpr h;simp only[List.lookup,hb];exact ih
theorem jM (f:Str)(v:V):∀fs:List (Str×V),f∈(putF f v fs).map (·.1)/\∀g,g∈fs.map (·.1)->g∈(putF f v fs).map (·.1)
 |[]=>⟨by simp[putF],λg h=>by simp at h⟩
 | (k,x)::r=>by
  obtain⟨i1,i2⟩:=jM f v r;rw[show putF f v ((k,x)::r)=(if k=f then (k,v)::r else (k,x)::putF f v r) from rfl];by_cases hk:k=f
  .rw[if_pos hk];subst hk;exact⟨`s,λg h=>by simpa using h⟩
  .rw[if_neg hk];refine⟨?_,λg h=>?_⟩
   .rw[map_cons];exact mem_cons_of_mem _ i1
   .rw[map_cons] at h ⊢;rcases mem_cons.mp h with e|e
    .exact mem_cons.mpr (.inl e)
    .exact mem_cons_of_mem _ (i2 g e)
theorem mH (f:Str)(v:V):∀fs:List (Str×V),(putF f v fs).length<=fs.length+1
 |[]=>by simp[putF]
 | (k,x)::r=>by
  have ih:=mH f v r;rw[show putF f v ((k,x)::r)=(if k=f then (k,v)::r else (k,x)::putF f v r) from rfl];by_cases hk:k=f
  .rw[if_pos hk,length_cons,length_cons];lia
  .rw[if_neg hk,length_cons,length_cons];lia
theorem RelO.some_of {v:V}{o:Option Value}(r:RelO (some v) o):∃u,o=some u/\RelV v u:=by
 cases o with
 |none=>exact (show False from r).elim
 |some u=>exact⟨u,rfl,r⟩
theorem RelO.none_of {o:Option Value}(r:RelO none o):o=none:=by
 cases o with
 |none=>rfl
 |some u=>exact (show False from r).elim
theorem xM {v:V}{u:Value}(r:RelV v u):PySem.W.handedIn u=true:=by
 cases v with
 |non=>cases (show u=Value.none from r);rfl
 |bl b=>cases (show u=Value.bool b from r);rfl
 |int i=>obtain⟨t,e⟩:=(show ∃t,u=Value.int i t from r);cases e;rfl
 |str x=>obtain⟨t,e⟩:=(show ∃t,u=Value.str x t from r);cases e;rfl
 |byt b=>obtain⟨t,e⟩:=(show ∃t,u=Value.bytes b t from r);cases e;rfl
 |flt b=>obtain⟨t,e⟩:=(show ∃t,u=Value.float b t from r);cases e;rfl
 |ref a=>cases (show u=Value.ref a from r);rfl
 |ty n=>cases (show u=Value.type n from r);rfl
section
variable {P:Program}{w:World}{H:Hp}{h:Heap}{a C dx:Addr}{fs:List (Str×V)}
theorem gP (hok:HOk P w H h)(e:H a=some (.ins C dx fs)):∃mA,ObjM h a dx C mA/\(∀f,RelO (fs.lookup f) (mA f))/\PySem.Within mA (fs.map (·.1))/\fs.length<=1000/\H dx=some (.own a):=by obtain⟨d,z,ne,ob,mA,n,r,q⟩:=(show ObjOk P w H h a (.ins C dx fs) from hok a _ e);exact⟨mA,⟨ob,n,ne⟩,r,q,z,d⟩
end
structure Cls (K:`F)(C:Addr):Prop where
 pg:PySem.W.plainGet K C Str.empty=true
 hd:PySem.W.hasDictIn K C=true
 po:PySem.W.plainOver K C=true
 sa:PySem.W.findIn K (.ref C) "__setattr__"=some (some (.builtin "object.__setattr__"))
theorem Cls.get {K:`F}{C:Addr}(c:Cls K C)(f:Str):PySem.W.plainGet K C f=true:=c.pg
def NoAttr (K:`F)(C:Addr)(f:Str):Prop:=PySem.W.findIn K (.ref C) f=some none
theorem NoAttr.taker {K:`F}{C:Addr}{f:Str}(n:NoAttr K C f):PySem.W.takerIn K C f=some none:=by unfold PySem.W.takerIn;rw[show PySem.W.findIn K (.ref C) f=some none from n];rfl
structure Meth (K:`F)(C:Addr)(m:Str)(f:Addr):Prop where
 at_:PySem.W.findIn K (.ref C) m=some (some (.ref f))
 fn:PySem.W.isFn K (.ref f)=true
 kp:PySem.W.keepIn K (.ref f)=true
section
variable {X:Cx}{pins:`O}{Z:St}{H:Hp}{s:Shared}{a C dx:Addr}{fs:List (Str×V)}{f:Str}{v:V}{A:Around}{E:`T}
theorem xN {b:Bool}{Q:`T}(I:Inv X pins Z H s)(e:H a=some (.ins C dx fs))(c:Cls X.K C)(n:NoAttr X.K C f)(l:fs.lookup f=some v)
  (h:∀u s',Inv X pins Z H s'->RelV v u->Q u s'):wpAny `m A (getAttr (.ref a) f b) Q E s:=by
 obtain⟨mA,O,r,_,_,_⟩:=gP I.hok e;obtain⟨u,hu,ru⟩:=RelO.some_of (v:=v) (o:=mA f) (by rw[<- l];exact r f);exact xI I.kIn O (c.get f) c.hd n hu (xM ru) (h u _ (I.tok _) ru)
theorem gQ {m:Str}{g:Addr}{pl:Sem Bool}{Q:Value×List Value->Shared->Prop}(I:Inv X pins Z H s)(e:H a=some (.ins C dx fs))(c:Cls X.K C)(k:Meth X.K C m g)(l:fs.lookup m=none)
  (h:Q (.ref g,[.ref a]) s):wpAny `m A (getMethod (.ref a) m pl) Q E s:=by
 obtain⟨mA,O,r,_,_,_⟩:=gP I.hok e;have hn:mA m=none:=RelO.none_of (by rw[<- l];exact r m);exact xJ I.kIn O (c.get m) k.at_ k.fn hn h
theorem xO {y:V}{u:Value}{Q:Unit->Shared->Prop}(I:Inv X pins Z H s)(e:H a=some (.ins C dx fs))(c:Cls X.K C)(n:NoAttr X.K C f)(hl:fs.length < 1000)(ry:RelV y u)
  (h:∀s',Inv X pins Z (upd H a (.ins C dx (putF f y fs))) s'->Q () s'):wpAny `m A (setAttr (.ref a) f u) Q E s:=by
 obtain⟨mA,O,r,wi,_,ho⟩:=gP I.hok e;have hz:(fs.map (·.1)).length<=sizeLine:=by rw[length_map,sizeLine_eq];lia
 refine xK I.kIn O c.sa c.po n.taker c.hd wi hz λh' O' sb=>h _ ?_;have hd:∃o,h'.get? dx=some o:=let ⟨o,_,_,e',_⟩:=O'.ns;⟨o,e'⟩
 refine I.write (x:=a) (e:=dx) (by rw[e];exact True.intro) (.inr ho) (λb q hb z=>(sb.2 b hb).trans z) hd ?_;refine⟨by rw[aD O.ne];exact ho,?_,O.ne,O'.obj,_,O'.ns,λg=>?_,λg hg=>?_⟩
 .have:=mH f y fs;lia
 .show RelO ((putF f y fs).lookup g) (if g=f then some u else mA g);rw[mG];by_cases q:g=f
  .rw[if_pos q,if_pos q];exact ry
  .rw[if_neg q,if_neg q];exact r g
 .by_cases q:g=f
  .rw[q];exact (jM f y fs).1
  .refine (jM f y fs).2 g (wi g λz=>hg ?_);show (if g=f then some u else mA g)=none;rw[if_neg q];exact z
theorem Inv.made (I:Inv X pins Z H s):Inv X pins Z (upd (upd H `z (.own (`z+1))) (`z+1) (.ins C `z []))
  { s with heap:=(s.heap.push PySem.W.emptyDict).push (PySem.W.instObj C `z)}:=by
 have e1:(s.heap.push PySem.W.emptyDict).get? `z=some PySem.W.emptyDict:=Heap.get?_push_size s.heap rfl;have e2:((s.heap.push PySem.W.emptyDict).push (PySem.W.instObj C `z)).get? (`z+1)=some (PySem.W.instObj C `z):=by
  have:=Heap.get?_push_size (s.heap.push PySem.W.emptyDict) (o:=PySem.W.instObj C `z) rfl
  rwa [Heap.size_push] at this
 have e3:(s.heap.push PySem.W.emptyDict).Ns `z (λ_=>none):=⟨PySem.W.emptyDict,#[],_,e1,rfl,(λe he=>absurd he `s),λ_=>rfl⟩;have I1:=I.laid (a:=`z) (o:=.own (`z+1)) (h':=s.heap.push PySem.W.emptyDict) (t':=s.toks) (λb u q=>Heap.get?_push_of_some _ q) `n ⟨_,e1⟩;refine I1.laid (a:=`z+1) (o:=.ins C `z []) (t':=s.toks) (λb u q=>Heap.get?_push_of_some _ q) (Nat.le_of_eq (Heap.size_push _ _)) ?_;have ne:`z≠`z+1:=Nat.ne_of_lt (Nat.lt_succ_self _);refine⟨by rw[aD ne,aE],Nat.zero_le _,ne,e2,λ_=>none,(Heap.Ns1.of_empty e3).at λo q=>Heap.get?_push_of_some _ q,λ_=>True.intro,λy hy=>absurd rfl hy⟩
theorem xP {prog:Program}{w:World}{env:Env}{e:Expr}{f:Str}{pos:Pos}{s:Shared}{Q:`T}(hb:attributeBase e f env (eval e env)=eval e env)
  (h:wpAny `M A (eval e env) (λo s₁=>wpAny `M A (getAttr o f true) Q E s₁) E s):wpAny `M A (eval (.Attribute e f pos) env) Q E s:=
 Attribute_any_ h (by rw[arm_eval_Attribute,hb])
end
inductive FldE (K:`F)(f:Str)(x:V)(H:Hp)(R:V->Prop):Prop
 |mk (a C dx:Addr) (fs:List (Str×V)) (v:V) (h:x=.ref a) (o:H a=some (.ins C dx fs)) (c:Cls K C) (n:NoAttr K C f) (l:fs.lookup f=some v) (q:R v):FldE K f x H R
inductive SfE (K:`F)(f:Str)(x y:V)(H:Hp)(R:Hp->Prop):Prop
 |mk (a C dx:Addr) (fs:List (Str×V)) (h:x=.ref a) (o:H a=some (.ins C dx fs)) (c:Cls K C) (n:NoAttr K C f) (l:fs.length < 1000) (q:R (upd H a (.ins C dx (putF f y fs)))):SfE K f x y H R
def tFld (K:`F)(ta:TE)(f:Str):TE:=λZ H Q=>ta Z H λx H1=>FldE K f x H1 λv=>Q v H1
def sFld (K:`F)(ta tv:TE)(f:Str):TS:=λD Z H=>tv Z H λy H1=>ta Z H1 λx H2=>SfE K f x y H2 λH'=>D.nx Z H'
section
variable {X:Cx}{o e value:Expr}{f:Str}{pos pos':Pos}{ta tv:TE}
theorem au (he:PE X e ta)(hb:attributeBase e f X.env (eval e X.env)=eval e X.env):PE X (.Attribute e f pos) (tFld X.K ta f):=by intro pins s Z H Q I h;refine xP hb (thn (he pins s Z H _ I h) λu s1 W'=>?_);obtain⟨x,H1,I1,rx,a,C,dx,fs,v,ex,ea,c,n,l,q⟩:=W';subst ex;obtain rfl:u=Value.ref a:=rx;exact xN I1 ea c n l λu' s2 I2 ru=>⟨v,H1,I2,ru,q⟩
theorem eu (ha:PE X o ta)(hv:PE X value tv)(hs:swapsWith value (some (.Attribute o f pos')) pos.line X.env=pure false):PS X (.Assign [.Attribute o f pos'] value pos) (sFld X.K ta tv f):=by intro ad s Z H D I h;refine plainObj_wpAny_Assign_Attribute (thn (hv ad s Z H _ I h) λu s1 ⟨y,H1,I1,ry,q⟩=>thn (ha ad s1 Z H1 _ I1 q) λov s2 W'=>?_) hs;obtain⟨x,H2,I2,rx,a,C,dx,fs,ex,ea,c,n,l,q2⟩:=W';subst ex;obtain rfl:ov=Value.ref a:=rx;exact xO I2 ea c n l ry λs3 I3=>⟨Z,_,I3,q2⟩
theorem Hz {pl:Sem Bool}{m:Str}{apos:Pos}{args:List Expr}{pins:`O}{s:Shared}{Z:St}{H:Hp}{Q:`T}{te:TE}(he:PE X e te)(I:Inv X pins Z H s)
  (h:te Z H λx H1=>∃a C dx fs g,x=.ref a/\H1 a=some (.ins C dx fs)/\Cls X.K C/\Meth X.K C m g/\fs.lookup m=none/\
   ∀s1,Inv X pins Z H1 s1->wpAny `m X.A (callWith pos (.ref g) [.ref a] (backTo pos (starEach args X.env)) (backToKw pos (keywordEach [] X.env))) Q X.xe s1)
  (ht:eval (.Call (.Attribute e m apos) args [] pos) X.env=(do
   let ov <- eval e X.env
   standAt apos.atName
   let (f,first) <- holding [ov] (getMethod ov m pl)
   callWith pos f first (backTo pos (starEach args X.env)) (backToKw pos (keywordEach [] X.env)))) :
  wpAny `m X.A (eval (.Call (.Attribute e m apos) args [] pos) X.env) Q X.xe s:=by
 refine PySem.W.methodCall_KW (pl:=pl) (thn (he pins s Z H _ I h) λu s1 W'=>?_) ht;obtain⟨x,H1,I1,rx,a,C,dx,fs,g,ex,ea,c,k,l,q⟩:=W';subst ex;obtain rfl:u=Value.ref a:=rx;exact gQ I1 ea c k l (q s1 I1)
end
section
variable {X:Cx}{pins:`O}{Z:St}{H:Hp}{s:Shared}{A:Around}{E:`T}{Q:`T}{c:Value}{b:Bool}
inductive TyOf (K:`F)(H:Hp):V->Value->Prop where
 |non:TyOf K H .non (.type "NoneType")
 |bl (x:Bool):TyOf K H (.bl x) (.type "bool")
 |int (i:Int):TyOf K H (.int i) (.type "int")
 |str (x:Str):TyOf K H (.str x) (.type "str")
 |flt (x:UInt64):TyOf K H (.flt x) (.type "float")
 |lst {a:Addr}{xs:`V} (e:H a=some (.lst xs)):TyOf K H (.ref a) (.type "list")
 |frz {a:Addr}{o:Obj}{xs:`V} (e:H a=some (.frz o (.lst xs))):TyOf K H (.ref a) (.type "list")
 |tup {a:Addr}{xs:`V} (e:H a=some (.tup xs)):TyOf K H (.ref a) (.type "tuple")
 |dK {a:Addr}{kvs:List (Key×V)} (e:H a=some (.dK kvs)):TyOf K H (.ref a) (.type "dict")
 |dT {a:Addr}{kvs:List (List Key×V)} (e:H a=some (.dT kvs)):TyOf K H (.ref a) (.type "dict")
 |ins {a C dx:Addr}{fs:List (Str×V)} (e:H a=some (.ins C dx fs)) (cl:Cls K C) (ha:PySem.W.findIn K (.ref C) "__class__"=some (some (.builtin "object.__class__")))
   (hn:PySem.W.specialIn K (.builtin "object.__class__") "__get__"=some (some (.builtin "getset_descriptor.__get__"))) (htk:PySem.W.takesIn K (.builtin "object.__class__")=some true)
   (hm:PySem.W.mroIn K C (.type "object")=some true):TyOf K H (.ref a) (.ref C)
theorem xQ {x:V}{u t:Value}(I:Inv X pins Z H s)(rx:RelV x u)(ty:TyOf X.K H x t)(e:PySem.W.kitOne X.K t c=some b)(h:∀tk,Q (.bool b) {s with toks:=tk}) :
  wpAny `m A (call (.builtin "isinstance") [u,c]) Q E s:=by
 cases ty with
 |non=>cases (show u=Value.none from rx);exact PySem.W.kia_one PySem.W.kitx_none I.kIn True.intro e (λz=>nomatch z) h
 |bl y=>cases (show u=Value.bool y from rx);exact PySem.W.kia_one PySem.W.kitx_bool I.kIn True.intro e (λz=>nomatch z) h
 |int i=>obtain⟨t,q⟩:=(show ∃t,u=Value.int i t from rx);cases q;exact PySem.W.kia_one PySem.W.kitx_int I.kIn True.intro e (λz=>nomatch z) h
 |str y=>obtain⟨t,q⟩:=(show ∃t,u=Value.str y t from rx);cases q;exact PySem.W.kia_one PySem.W.kitx_str I.kIn True.intro e (λz=>nomatch z) h
 |flt y=>obtain⟨t,q⟩:=(show ∃t,u=Value.float y t from rx);cases q;exact PySem.W.kia_one PySem.W.kitx_float I.kIn True.intro e (λz=>nomatch z) h
 |@lst a xs ea=>cases (show u=Value.ref a from rx);obtain⟨_,_,n,_,h1⟩:=(show ObjOk X.prog X.w H s.heap a (.lst xs) from I.hok a _ ea);exact PySem.W.kia_one PySem.W.kitx_list I.kIn ⟨_,h1,rfl⟩ e (λz=>nomatch z) h
 |@frz a ob xs ea=>cases (show u=Value.ref a from rx);obtain⟨_,_,_,n,_,h1⟩:=(show ObjOk X.prog X.w H s.heap a (.frz ob (.lst xs)) from I.hok a _ ea);exact PySem.W.kia_one PySem.W.kitx_list I.kIn ⟨_,h1,rfl⟩ e (λz=>nomatch z) h
 |@tup a xs ea=>cases (show u=Value.ref a from rx);obtain⟨_,_,_,p⟩:=(show ObjOk X.prog X.w H s.heap a (.tup xs) from I.hok a _ ea);obtain⟨o,h1,h2,_⟩:=p;exact PySem.W.kia_one PySem.W.kitx_tuple I.kIn ⟨o,h1,h2⟩ e (λz=>nomatch z) h
 |@dK a kvs ea=>cases (show u=Value.ref a from rx);obtain⟨_,_,vs,_,p⟩:=(show ObjOk X.prog X.w H s.heap a (.dK kvs) from I.hok a _ ea);obtain⟨o,es,ep,h1,h2,_⟩:=p;exact PySem.W.kia_one PySem.W.kitx_dict I.kIn ⟨o,h1,h2.1⟩ e (λz=>nomatch z) h
 |@dT a kvs ea=>cases (show u=Value.ref a from rx);obtain⟨_,_,xs,_,o,es,ep,h1,h2,_⟩:=(show ObjOk X.prog X.w H s.heap a (.dT kvs) from I.hok a _ ea);exact PySem.W.kia_one PySem.W.kitx_dict I.kIn ⟨o,h1,h2.1⟩ e (λz=>nomatch z) h
 |@ins a C dx fs ea cl ha hn htk hm=>cases (show u=Value.ref a from rx);obtain⟨mA,O,_⟩:=gP I.hok ea;obtain⟨od,J,_⟩:=O.look;exact PySem.W.kia_one (PySem.W.kitx_own (cl.get _) cl.hd ha hn htk hm) I.kIn J e (λz=>nomatch z) h
end
structure Room (k:Nat)(A:Around):Prop where
 hd:A.handled=none
 dp:A.depth+3 * k+5 < recursionLimit
 un:A.units+16 * k+200 < cLine
theorem Room.mono {j k:Nat}{A:Around}(r:Room k A)(h:j<=k):Room j A:=⟨r.hd,by have:=r.dp;lia,by have:=r.un;lia⟩
theorem Room.deeper {k:Nat}{A:Around}(r:Room (k+1) A)(env:Env):Room k (A.deeper env):=
 ⟨r.hd,by have:=r.dp;show A.depth+1+3 * k+5 < _;lia,by have:=r.un;show A.units+3+16 * k+200 < _;lia⟩
theorem xR {A:Around}{C:Addr}{us:List Value}{kw:List (Str×Value)}:(A.under (.builtin "type.__call__" ⟨.ref C::us,kw⟩)).depth=A.depth+1:=by first|rfl|simp[Around.under,Code.weight,Code.isCreation,Code.isGuard,Code.isCaller,Code.frames,Code.isFrame,guardIds]
theorem xS {A:Around}{C:Addr}{us:List Value}{kw:List (Str×Value)}:(A.under (.builtin "type.__call__" ⟨.ref C::us,kw⟩)).units=A.units+1:=by first|rfl|simp[Around.under,Code.cUnits,Code.frames,Code.isFrame]
theorem Room.make {k:Nat}{A:Around}(r:Room (k+1) A)(C:Addr)(us:List Value)(kw:List (Str×Value)):Room k (A.under (.builtin "type.__call__" ⟨.ref C::us,kw⟩)):=
 ⟨r.hd,by have:=r.dp;rw[xR];lia,by have:=r.un;rw[xS];lia⟩
theorem Room.depth {k:Nat}{A:Around}(r:Room k A):A.depth < recursionLimit:=by have:=r.dp;lia
theorem Room.units {k:Nat}{A:Around}(r:Room k A):A.units+64 < cLine:=by have:=r.un;lia
def tNil:TA:=λ_ H Q=>Q [] H
def tCons (ta:TE)(tr:TA):TA:=λZ H Q=>ta Z H λx H1=>tr Z H1 λxs H2=>Q (x::xs) H2
section
variable {X:Cx}{e:Expr}{es:List Expr}{te:TE}{t:TA}{pos:Pos}
theorem a9:PA X [] tNil:=λ_ _ _ _ H Q I h=>Calls.spliced_nil ⟨[],H,I,.nil,h⟩
theorem a8 (ha:PE X e te)(hr:PA X es t)(hs:starEach (e::es) X.env=(false,eval e X.env)::starEach es X.env:=by rfl):PA X (e::es) (tCons te t):=by intro dl ad s Z H Q I h;rw[hs];show wpAny _ _ (spliced ((false,eval e X.env)::backTo dl (starEach es X.env))) _ _ s;refine Calls.spliced_cons (thn (ha ad s Z H _ I h) λu s1 W'=>?_);obtain⟨x,H1,I1,r1,q1⟩:=W';exact thn (hr dl ad s1 Z H1 _ I1 q1) λus s2 ⟨xs,H2,I2,r2,q2⟩=>⟨x::xs,H2,I2,.cons r1 r2,q2⟩
def tLst (t:TA):TE:=λZ H Q=>t Z H λxs H1=>`x<=sizeLine/\∀p,H1 p=none->Q (.ref p) (upd H1 p (.lst xs))
theorem mI (h:PA X es t):PE X (.List es pos) (tLst t):=by intro ad s Z H Q I hq;refine wpAny_List_spliced (thn (h pos ad s Z H _ I hq) λus s1 ⟨xs,H1,I1,r,z,q⟩=>⟨by rw[<- r.length];exact z,?_⟩);have hf:H1 `y=none:=I1.hok.fresh `n;refine⟨.ref `y,upd H1 `y (.lst xs),I1.laid (t':=s1.toks) (λb u e=>Heap.get?_push_of_some _ e) `n ?_,rfl,q _ hf⟩;exact⟨z,us,0,r,Heap.get?_push_size _ rfl⟩
end
noncomputable abbrev Sp:=`V->Hp->VK->XK->Prop
noncomputable abbrev CXT:=List Env->Hp->Shared->XK->Value->Shared->Prop
structure Env0 (P:Program)(w:World)(K:`F)(mg:Str->Option Value)(base:Heap)(A:Around)(outer:List Env)(s:Shared)(H:Hp):Prop where
 frames:A.frames=some outer
 mod:Mod K mg base
 bs:∀b o,base.get? b=some o->s.heap.get? b=some o/\H b=none
 bsz:base.objs.size<=`z
 funs:s.heap.FunFrames base outer
 frf:∀b∈frs outer,H b=none
 hok:HOk P w H s.heap
 bare:AllBare s.gens
def CE (outer:List Env)(P:Program)(w:World)(H:Hp)(s:Shared)(Q:VK)(u:Value)(s':Shared):Prop:=
 ∃v H',s'.os=s.os/\AllBare s'.gens/\Un (frs outer) [] H H' s.heap s'.heap/\HOk P w H' s'.heap/\RelV v u/\Q v H'
def CR (CX:CXT)(outer:List Env)(P:Program)(w:World)(H:Hp)(s:Shared)(Q:VK)(E:XK)(r:Result)(s':Shared):Prop:=
 match r with
 |.ok (.ret u)=>CE outer P w H s Q u s'
 |.ok _=>False
 |.error e=>CX outer H s E e s'
structure FnOk (P:Program)(w:World)(K:`F)(mg:Str->Option Value)(base:Heap)(CX:CXT)(k:Nat)(f:Addr)(fd:FuncData)(ps:List Str)(sp:Sp):Prop where
 len:∀vs H Q E,sp vs H Q E->vs.length=ps.length
 run:∀(A:Around) (outer:List Env) (s:Shared) (H:Hp) (args:Args) (us:List Value) (vs:`V) (Q:VK) (E:XK),Room k A->Env0 P w K mg base A outer s H->BindsTo s fd args (ps.zip us)->Vals vs us->sp vs H Q E ->
  codeAny (model P w) A (.call (.ref f) args) (CR CX outer P w H s Q E) s
theorem Env0.make {P:Program}{w:World}{K:`F}{mg:Str->Option Value}{base:Heap}{A:Around}{outer:List Env}{s:Shared}{H:Hp}(e:Env0 P w K mg base A outer s H)(C:Addr)(us:List Value)(kw:List (Str×Value)) :
  Env0 P w K mg base (A.under (.builtin "type.__call__" ⟨.ref C::us,kw⟩)) outer s H:=⟨by first|exact e.frames|(simpa [Around.under,Code.envs,Code.isFrame,pushEnvs] using e.frames),e.mod,e.bs,e.bsz,e.funs,e.frf,e.hok,e.bare⟩
section
variable {X:Cx}{pins:`O}{Z:St}{H:Hp}{s s':Shared}
theorem Inv.env0 (I:Inv X pins Z H s):Env0 X.prog X.w X.K X.mg X.base X.A X.stack s H:=
 ⟨I.ok.frames,I.ok.mod,I.bs,Nat.le_trans I.ok.bsz I.sz,I.stack,I.stkFree,I.hok,I.bare⟩
theorem Inv.after {Q:VK}{u:Value}(I:Inv X pins Z H s)(h:CE X.stack X.prog X.w H s Q u s'):EP X pins Z Q u s':=by obtain⟨v,H',os,bare,un,hok,r,q⟩:=h;obtain⟨hh,g,d,t,os'⟩:=s';obtain rfl:os'=s.os:=os;exact⟨v,H',I.call (h':=hh) (g':=g) (d':=d) (t':=t) (ch:=[]) un hok bare (λb z=>absurd z `s),r,q⟩
end
def tCall (sp:Sp)(dvs:`V)(E:XK)(t:TA):TE:=λZ H Q=>t Z H λvs H1=>sp (vs++dvs) H1 Q E
inductive MeE (C:Addr)(m:Str)(x:V)(H:Hp)(R:Prop):Prop
 |mk (a dx:Addr) (fs:List (Str×V)) (h:x=.ref a) (o:H a=some (.ins C dx fs)) (l:fs.lookup m=none) (q:R):MeE C m x H R
def tMeth (C:Addr)(m:Str)(sp:Sp)(dvs:`V)(E:XK)(ta:TE)(t:TA):TE:=λZ H Q=>ta Z H λx H1=>MeE C m x H1 (t Z H1 λvs H2=>sp (x::(vs++dvs)) H2 Q E)
def tMake (C:Addr)(sp:Sp)(dvs:`V)(E:XK)(t:TA):TE:=λZ H Q=>t Z H λvs H1=>∀x dx,H1 x=none->H1 dx=none->dx≠x ->
 sp (.ref x::(vs++dvs)) (upd (upd H1 dx (.own x)) x (.ins C dx [])) (λv H2=>v=.non/\Q (.ref x) H2) E
def Binds (K:`F)(fd:FuncData)(ps:List Str)(ds:List Value):Prop:=
 ∀(s:Shared) (us:List Value),K.In s.heap->(us++ds).length=ps.length->BindsTo s fd ⟨us,[]⟩ (ps.zip (us++ds))
theorem Binds.all {K:`F}{fd:FuncData}{ps:List Str}(h:∀us:List Value,us.length=ps.length->bindArgs fd ⟨us,[]⟩=pure (ps.zip us)):Binds K fd ps []:=λs us _ hl=>by rw[append_nil] at hl ⊢;exact .of_eq (h us hl)
def Passes (CX:CXT)(X:Cx)(E:XK):Prop:=∀(pins:`O) (Z:St) (H:Hp) (s:Shared) (e:Value) (s':Shared),Inv X pins Z H s->CX X.stack H s E e s'->X.xe e s'
section
variable {X:Cx}{CX:CXT}{k:Nat}{f C:Addr}{fd:FuncData}{ps:List Str}{sp:Sp}{dvs:`V}{ds:List Value}{E:XK}{x m:Str}{p pos apos:Pos}{e o:Expr}{es:List Expr}{ta:TE}{t:TA}
theorem jN {pins:`O}{Z:St}{H:Hp}{s:Shared}{Q:VK}{us:List Value}{vs:`V}(F:FnOk X.prog X.w X.K X.mg X.base CX k f fd ps sp)(hr:Room k X.A)(hb:Binds X.K fd ps ds)(hd:Vals dvs ds)(hx:Passes CX X E)
  (I:Inv X pins Z H s) (r:Vals vs us) (h:sp (vs++dvs) H Q E):wpAny `m X.A (call (.ref f) us) (EP X pins Z Q) X.xe s:=by
 have r2:Vals (vs++dvs) (us++ds):=r.append hd;have hl:(us++ds).length=ps.length:=by rw[<- r2.length];exact F.len _ _ _ _ h
 refine wpAny_call (codeAny_mono (F.run X.A X.stack s H ⟨us,[]⟩ (us++ds) (vs++dvs) Q E hr I.env0 (hb s us I.kIn hl) r2 h) λr s' hq=>?_);cases r with
 |error e=>exact hx pins Z H s e s' I hq
 |ok fl=>
  cases fl with
  |ret u=>exact I.after hq
  |next=>exact False.elim hq
  |brk=>exact False.elim hq
  |cont=>exact False.elim hq
theorem aj (F:FnOk X.prog X.w X.K X.mg X.base CX k f fd ps sp)(hr:Room k X.A)(hg:Gl X x)(hm:X.mg x=some (.ref f))(hk:PySem.W.keepIn X.K (.ref f)=true)(hb:Binds X.K fd ps ds)(hd:Vals dvs ds)(hx:Passes CX X E)
  (ha:PA X (e::es) t) (hdb:(x == ("__debug__" : Str))=false:=by decide) (he:starEach (e::es) X.env=(false,eval e X.env)::starEach es X.env:=by rfl) (hpl:(backTo pos (starEach es X.env)).any (·.1)=false:=by rfl) :
  PE X (.Call (.Name x p) (e::es) [] pos) (tCall sp dvs E t):=by
 intro pins s Z H Q I h;refine wpAny_Call_Name_kw (dG I hg hm ?_ hdb);refine PySem.W.callWith_K (h₀:=X.base) I.ok.mod.kin hk (thn (ha pos pins s Z H _ I h) λus s1 ⟨vs,H1,I1,r,q⟩=>⟨I1.kIn,?_⟩) he hpl;exact jN F hr hb hd hx I1 r q
theorem aW {pl:Sem Bool}(he:PE X o ta)(c:Cls X.K C)(hm:Meth X.K C m f)(F:FnOk X.prog X.w X.K X.mg X.base CX k f fd ps sp)(hr:Room k X.A)(hb:Binds X.K fd ps ds)(hd:Vals dvs ds)(hx:Passes CX X E)(ha:PA X (e::es) t)
  (hst:starEach (e::es) X.env=(false,eval e X.env)::starEach es X.env:=by rfl) (hpl:(backTo pos (starEach es X.env)).any (·.1)=false:=by rfl)
  (ht:eval (.Call (.Attribute o m apos) (e::es) [] pos) X.env=(do
   let ov <- eval o X.env
   standAt apos.atName
   let (f,first) <- holding [ov] (getMethod ov m pl)
   callWith pos f first (backTo pos (starEach (e::es) X.env)) (backToKw pos (keywordEach [] X.env))):=by rfl) :
  PE X (.Call (.Attribute o m apos) (e::es) [] pos) (tMeth C m sp dvs E ta t):=by
 intro ad s Z H Q I h;refine PySem.W.methodCall_KW (pl:=pl) (thn (he ad s Z H _ I h) λu s1 W'=>?_) ht;obtain⟨x,H1,I1,rx,a,dx,fs,ex,ea,l,q⟩:=W';subst ex;obtain rfl:u=Value.ref a:=rx;refine gQ I1 ea c hm l ?_;refine PySem.W.callWith_K (first:=[.ref a]) (h₀:=X.base) I.ok.mod.kin hm.kp (thn (ha pos ad s1 Z H1 _ I1 q) λus s2 ⟨vs,H2,I2,r,q2⟩=>⟨I2.kIn,?_⟩) hst hpl;exact jN (us:=.ref a::us) (vs:=.ref a::vs) F hr hb hd hx I2 (.cons rfl r) q2
theorem cY {pl:Sem Bool}(he:PE X o ta)(c:Cls X.K C)(hm:Meth X.K C m f)(F:FnOk X.prog X.w X.K X.mg X.base CX k f fd ps sp)(hr:Room k X.A)(hb:Binds X.K fd ps ds)(hd:Vals dvs ds)(hx:Passes CX X E)
  (ht:eval (.Call (.Attribute o m apos) [] [] pos) X.env=(do
   let ov <- eval o X.env
   standAt apos.atName
   let (f,first) <- holding [ov] (getMethod ov m pl)
   callWith pos f first (backTo pos (starEach [] X.env)) (backToKw pos (keywordEach [] X.env))):=by rfl) :
  PE X (.Call (.Attribute o m apos) [] [] pos) (tMeth C m sp dvs E ta tNil):=by
 intro ad s Z H Q I h;refine PySem.W.methodCall_KW (pl:=pl) (thn (he ad s Z H _ I h) λu s1 W'=>?_) ht;obtain⟨x,H1,I1,rx,a,dx,fs,ex,ea,l,q⟩:=W';subst ex;obtain rfl:u=Value.ref a:=rx;refine gQ I1 ea c hm l ?_;exact PySem.W.callWith_K0 (first:=[.ref a]) I1.kIn hm.kp (jN (us:=[.ref a]) (vs:=[.ref a]) F hr hb hd hx I1 (.cons rfl .nil) q)
structure Mk (K:`F)(C f:Addr):Prop where
 makes:PySem.W.makesIn K C=true
 init:PySem.W.findIn K (.ref C) "__init__"=some (some (.ref f))
 fn:PySem.W.isFn K (.ref f)=true
 kp:PySem.W.keepIn K (.ref C)=true
theorem xT {pins:`O}{Z:St}{H:Hp}{s:Shared}{Q:VK}{us:List Value}{vs:`V}(M:Mk X.K C f)(F:FnOk X.prog X.w X.K X.mg X.base CX k f fd ps sp)(hr:Room (k+1) X.A)(hb:Binds X.K fd ps ds)(hd:Vals dvs ds)
  (hx:Passes CX X E) (I:Inv X pins Z H s) (r:Vals vs us)
  (h:∀x dx,H x=none->H dx=none->dx≠x->sp (.ref x::(vs++dvs)) (upd (upd H dx (.own x)) x (.ins C dx [])) (λv H2=>v=.non/\Q (.ref x) H2) E) :
  wpAny `m X.A (call (.ref C) us) (EP X pins Z Q) X.xe s:=by
 have hq:=h (`z+1) `z (I.hok.fresh (Nat.le_succ _)) (I.hok.fresh `n) (Nat.ne_of_lt (Nat.lt_succ_self _));have I2:=Inv.made (C:=C) I;have r2:Vals (V.ref (`z+1)::(vs++dvs)) (Value.ref (`z+1)::(us++ds)):=.cons rfl (r.append hd);have hl:(Value.ref (`z+1)::us++ds).length=ps.length:=by have e:=r2.length;rw[F.len _ _ _ _ hq] at e;exact e.symm
 refine wpAny_call (xL (f:=f) I.kIn M.makes M.init (beq_iff_eq.mp M.fn) (codeAny_mono (F.run _ X.stack _ _ ⟨Value.ref (`z+1)::us,[]⟩ (Value.ref (`z+1)::(us++ds)) _ _ E (hr.make C us [])
  (I2.env0.make C us []) (hb _ (Value.ref (`z+1)::us) I2.kIn hl) r2 hq) λr s' ad=>?_))
 cases r with
 |error e=>exact hx pins Z _ _ e s' I2 ad
 |ok fl=>
  cases fl with
  |ret u=>obtain⟨v,H',I3,rv,ev,q3⟩:=I2.after ad;subst ev;exact⟨rv,⟨V.ref (`z+1),H',I3,rfl,q3⟩⟩
  |next=>exact False.elim ad
  |brk=>exact False.elim ad
  |cont=>exact False.elim ad
theorem mJ (M:Mk X.K C f)(F:FnOk X.prog X.w X.K X.mg X.base CX k f fd ps sp)(hr:Room (k+1) X.A)(hg:Gl X x)(hm:X.mg x=some (.ref C))(hb:Binds X.K fd ps ds)(hd:Vals dvs ds)(hx:Passes CX X E)
  (ha:PA X (e::es) t) (hdb:(x == ("__debug__" : Str))=false:=by decide) (he:starEach (e::es) X.env=(false,eval e X.env)::starEach es X.env:=by rfl) (hpl:(backTo pos (starEach es X.env)).any (·.1)=false:=by rfl) :
  PE X (.Call (.Name x p) (e::es) [] pos) (tMake C sp dvs E t):=by
 intro pins s Z H Q I h;refine wpAny_Call_Name_kw (dG I hg hm ?_ hdb);refine PySem.W.callWith_K (h₀:=X.base) I.ok.mod.kin M.kp (thn (ha pos pins s Z H _ I h) λus s1 ⟨vs,H1,I1,r,q⟩=>⟨I1.kIn,?_⟩) he hpl;exact xT M F hr hb hd hx I1 r q
end
structure FnScope (N P:List Str)(sc:Scope):Prop where
 kind:sc.kind=.function
 co:sc.isCoroutine=false
 gen:sc.isGenerator=false
 nd:N.Nodup
 pre:N.take P.length=P
 par:∀x∈P,sc.names.lookup x=some .local\/sc.names.lookup x=some .cell
 nofree:∀y∈sc.names,y.2≠.free
theorem mK {kindOf:Str->Option NameKind}{x:Str}:∀{binds:List (Str×Value)}{m:Str->Option Value},(∀v,(x,v)∉binds)->bindL kindOf binds m x=m x
 |[],_,_=>rfl
 | (n,v)::r,m,h=>by
  unfold bindL;rw[mK λw hw=>h w (mem_cons_of_mem _ hw)];split
  .have:x≠n:=by rintro rfl;exact h v mem_cons_self
   simp[this]
  .rfl
theorem mL {kindOf:Str->Option NameKind}{x:Str}:∀{binds:List (Str×Value)}{m:Str->Option Value},(∀v,(x,v)∉binds)->bindC kindOf binds m x=m x
 |[],_,_=>rfl
 | (n,v)::r,m,h=>by
  unfold bindC;rw[mL λw hw=>h w (mem_cons_of_mem _ hw)];split
  .rfl
  .have:x≠n:=by rintro rfl;exact h v mem_cons_self
   simp[this]
theorem mM {kindOf:Str->Option NameKind}{x:Str}{v:Value}:∀{P:List Str}{vs:List Value}{i:Nat}{m:Str->Option Value},P.Nodup->P[i]?=some x->vs[i]?=some v->kindOf x=some .local ->
  bindL kindOf (P.zip vs) m x=some v
 |[],_,_,_,_,h,_,_=>by simp at h
 |_::_,[],_,_,_,_,h,_=>by simp at h
 |p::P,w::vs,0,m,nd,h1,h2,hk=>by simp at h1 h2;subst h1;subst h2;show bindL kindOf ((p,w)::P.zip vs) m p=_;unfold bindL;rw[mK λv hv=>(nodup_cons.mp nd).1 (of_mem_zip hv).1,if_pos hk];simp
 |p::P,w::vs,i+1,m,nd,h1,h2,hk=>by show bindL kindOf ((p,w)::P.zip vs) m x=_;unfold bindL;exact mM (i:=i) (nodup_cons.mp nd).2 (by simpa using h1) (by simpa using h2) hk
theorem mO {kindOf:Str->Option NameKind}{x:Str}{v:Value}:∀{P:List Str}{vs:List Value}{i:Nat}{m:Str->Option Value},P.Nodup->P[i]?=some x->vs[i]?=some v->kindOf x≠some .local ->
  bindC kindOf (P.zip vs) m x=some v
 |[],_,_,_,_,h,_,_=>by simp at h
 |_::_,[],_,_,_,_,h,_=>by simp at h
 |p::P,w::vs,0,m,nd,h1,h2,hk=>by simp at h1 h2;subst h1;subst h2;show bindC kindOf ((p,w)::P.zip vs) m p=_;unfold bindC;rw[mL λv hv=>(nodup_cons.mp nd).1 (of_mem_zip hv).1,if_neg hk];simp
 |p::P,w::vs,i+1,m,nd,h1,h2,hk=>by show bindC kindOf ((p,w)::P.zip vs) m x=_;unfold bindC;exact mO (i:=i) (nodup_cons.mp nd).2 (by simpa using h1) (by simpa using h2) hk
noncomputable def start (N:List Str)(vs:`V):St:=vs.map some++List.replicate (N.length - vs.length) none
noncomputable def cxOf (CX:CXT)(P:Program)(w:World)(K:`F)(mg:Str->Option Value)(base:Heap)(N:List Str)(qual:Str)(scope:Scope)(f:Addr)(cd:Value)(A:Around)(outer:List Env)(s:Shared)(H:Hp)(E:XK):Cx where
 prog:=P
 w:=w
 K:=K
 mg:=mg
 base:=base
 A:=A.deeper (envOfC qual scope `z f cd)
 N:=N
 s₀:=s
 H₀:=H
 env:=envOfC qual scope `z f cd
 outer:=outer
 stack:=envOfC qual scope `z f cd::outer
 ex:=[]
 calm:=true
 fn:=λ_=>true
 pn:=[]
 xe:=λe s'=>wpAny (model P w) (A.deeper (envOfC qual scope `z f cd)) (leaving (envOfC qual scope `z f cd) e) (λ_ s''=>CX outer H s E e s'') (λe' s''=>CX outer H s E e' s'') s'
theorem mP {sc:Scope}{n:Nat}{x:Str}(h:sc.names.lookup x=some .cell):∃c,(cellsFrom n sc.names []).lookup x=some c:=by have q:=PySem.W.cellsFrom_some sc.names n [] (.inl h);exact Option.isSome_iff_exists.mp q
theorem xU {CX:CXT}{P:Program}{w:World}{K:`F}{mg:Str->Option Value}{base:Heap}{N ps:List Str}{qual:Str}{scope:Scope}{f:Addr}{cd:Value}{A:Around}{outer:List Env}{s s1:Shared}{H:Hp}{E:XK}{us:List Value}{vs:`V}
  (S:FnScope N ps scope) (hd:A.handled=none) (e0:Env0 P w K mg base A outer s H) (hl:vs.length=ps.length) (r:Vals vs us)
  (x:InCallC s `z (bindL (envOfC qual scope `z f cd).kindOf (ps.zip us) λ_=>none) (cellsFrom (`z+1) scope.names []) (bindC (envOfC qual scope `z f cd).kindOf (ps.zip us) λ_=>none) s1) :
  Inv (cxOf CX P w K mg base N qual scope f cd A outer s H E) [] (start N vs) H s1:=by
 have mt:ps.length<=N.length:=by have:=congrArg List.length S.pre;rw[length_take] at this;lia
 obtain⟨h1,tk,rfl,hk⟩:=x.done;have ad:∀b:Addr,b∉(cxOf CX P w K mg base N qual scope f cd A outer s H E).ex:=λb z=>absurd (show b∈([]:List Addr) from z) `s;refine⟨⟨e0.mod,S.kind,rfl,rfl,Nat.le_refl _,λy z c h1 h2=>?_,λy hy=>?_,λy c _ h=>?_,λ_=>hd,Around.frames_deeper e0.frames,.inr `R,λb z=>absurd z (ad b),e0.bs,e0.bsz,λb _ _=>ad b,λb z=>absurd z (ad b),e0.funs,e0.frf⟩,
  rfl,e0.bare,Un.kept hk,⟨_,x.toInCall.ns,λi y v h1 h2 h3=>?_⟩,λy c h=>⟨_,x.cell y c h⟩,e0.hok.fresh `n,λy c h=>?_,λp hp=>absurd (show p∈([]:`O) from hp) `s,e0.hok.kept hk,?_⟩
 .exact name_of_addr x.apart (PySem.mem_of_lookup h1) (PySem.mem_of_lookup h2)
 .have hy:scope.names.lookup y=some .cell\/scope.names.lookup y=some .free:=hy;rcases hy with hy|hy
  .exact mP hy
  .exact absurd rfl (S.nofree _ (PySem.mem_of_lookup hy))
 .exact Nat.le_of_lt (x.above y c (PySem.mem_of_lookup h))
 .have hi:i < vs.length:=by
   unfold start at h2;by_cases hi:i < vs.length
   .exact hi
   .rw[List.getElem?_append_right (by simpa using hi)] at h2;rw[List.getElem?_replicate] at h2;split at h2 <;> cases h2
  have ha:vs[i]?=some v:=by
   unfold start at h2;rw[List.getElem?_append_left (by simpa using hi),List.getElem?_map] at h2;cases e:vs[i]? with
   |none=>rw[e] at h2;cases h2
   |some a=>rw[e] at h2;cases h2;rfl
  obtain⟨u,hu,rv⟩:=r.get ha;have hp:ps[i]?=some y:=by rw[<- S.pre,List.getElem?_take_of_lt `l];exact h1
  have dl:ps.Nodup:=by rw[<- S.pre];exact S.nd.sublist (List.take_sublist _ _)
  refine⟨u,rv,?_⟩;rcases S.par y (mem_of_getElem? hp) with k|k
  .exact .inl ⟨k,mM dl hp hu k⟩
  .obtain⟨c,e⟩:=mP (n:=`z+1) k;refine .inr ⟨.inl k,c,e,?_⟩;have q:=x.cell y c e;rw[mO dl hp hu (by show scope.names.lookup y≠_;rw[k];decide)] at q;exact q
 .exact e0.hok.fresh (Nat.le_of_lt (x.above y c (PySem.mem_of_lookup h)))
 .unfold start;show _=N.length;rw[length_append,length_map,List.length_replicate];lia
theorem gR {CX:CXT}{P:Program}{w:World}{K:`F}{mg:Str->Option Value}{base:Heap}{k:Nat}{f:Addr}{name qual:Str}{params:Arguments}{body:List Stmt}{scope:Scope}{dV kV doc pm cdv ct oc:Value}{an od:Option Addr}
  {osl:Array (Option Value)}{N ps:List Str}{sp:Sp} (lk:K.lookup f=some ⟨oc,od,.func (PySem.W.fnOf name qual params body scope dV kV doc pm an cdv ct),osl⟩) (hcd:PySem.W.codeIn K cdv qual=true) (S:FnScope N ps scope)
  (len:∀vs H Q E,sp vs H Q E->vs.length=ps.length)
  (hbody:∀(A:Around) (outer:List Env) (s:Shared) (H:Hp) (vs:`V) (Q:VK) (E:XK),Room k (A.deeper (envOfC qual scope `z f cdv))->sp vs H Q E ->
   ∃t,PSs (cxOf CX P w K mg base N qual scope f cdv A outer s H E) body t/\t {nx:=λ_ H'=>Q .non H',rt:=Q} (start N vs) H) :
  FnOk P w K mg base CX (k+1) f (PySem.W.fnOf name qual params body scope dV kV doc pm an cdv ct) ps sp:=by
 refine⟨len,λA outer s H Cl us vs Q E hr e0 hb r dl=>?_⟩;have hl:=len _ _ _ _ dl;have KX:K.In s.heap:=e0.mod.kin.keeps λb o e=>(e0.bs b o e).1;have BT:s.heap.NoLimit:=e0.mod.nolimit.keeps λb o e=>(e0.bs b o e).1;have ad:∀y∈ps.zip us,scope.names.lookup y.1=some .local\/(scope.names.lookup y.1=some .cell/\((cellsFrom (`z+1) scope.names []).lookup y.1).isSome=true):=λ⟨n,v⟩ hy=>by
  rcases S.par n (of_mem_zip hy).1 with q|q
  .exact .inl q
  .exact .inr ⟨q,PySem.W.cellsFrom_some _ _ _ (.inl q)⟩
 refine codeAny_call_function hr.depth (KX _ _ lk) rfl S.co S.gen rfl (PySem.W.codeRec_of KX hcd) (hb _ _ _ _ ?_);refine wpAny_newFunctionEnv_cells S.kind ad λenv he s1 x=>?_;subst he;refine⟨BT.keeps x.toInCall.keep,codeAny_func ?_⟩;obtain⟨t,ht,hq⟩:=hbody A outer s H vs Q E (hr.deeper _) dl;have I:Inv (cxOf CX P w K mg base N qual scope f cdv A outer s H E) [] (start N vs) H s1:=xU S hr.hd e0 hl r x;refine wpAny_mono (ht [] s1 (start N vs) H _ I hq) (λfl s' hs=>?_) λe s' hs=>hs;have mt:∀{Z':St}{H':Hp}{v:V}{u:Value},Inv (cxOf CX P w K mg base N qual scope f cdv A outer s H E) [] Z' H' s'->RelV v u->Q v H'->CE outer P w H s Q u s':=
  λ{Z' H' v u} J rv q=>⟨v,H',J.os,J.bare,J.base,J.hok,rv,q⟩
 cases fl with
 |ret u=>obtain⟨v,Z',H',J,rv,q⟩:=hs;exact mt J rv q
 |next=>obtain⟨Z',H',J,q⟩:=hs;exact mt (v:=V.non) (u:=Value.none) J rfl q
 |brk=>obtain⟨_,_,_,q⟩:=hs;exact False.elim q
 |cont=>obtain⟨_,_,_,q⟩:=hs;exact False.elim q
section
variable {X:Cx}{x:Str}{p pos:Pos}{e:Expr}{es:List Expr}{t:TA}{id T:String}{r:`V->Hp->VK->Prop}
def tCB (r:`V->Hp->VK->Prop)(t:TA):TE:=λZ H Q=>t Z H λvs H1=>r vs H1 Q
theorem ax (hc:CallR X (.builtin id) r)(hg:Gl X x)(hm:X.mg x=none)(hv:bootBuiltins x=some (.builtin id))(ha:PA X (e::es) t)(hn:x ≠ "__name__" := by decide)(hdb:(x == ("__debug__" : Str))=false:=by decide)
  (he:starEach (e::es) X.env=(false,eval e X.env)::starEach es X.env:=by rfl) (hpl:(backTo pos (starEach es X.env)).any (·.1)=false:=by rfl):PE X (.Call (.Name x p) (e::es) [] pos) (tCB r t):=by
 intro pins s Z H Q I h;refine wpAny_Call_Name_kw (cD I hg hm hv ?_ hn hdb);exact PyProof.Rows.callWith_builtin1 (thn (ha pos pins s Z H _ I h) λus s1 ⟨vs,H1,I1,r1,q1⟩=>hc pins s1 Z H1 vs us Q I1 r1 q1) he hpl
theorem br (hc:CallR X (.type T) r)(hg:Gl X x)(hm:X.mg x=none)(hv:bootBuiltins x=some (.type T))(ha:PA X (e::es) t)(hn:x ≠ "__name__" := by decide)(hdb:(x == ("__debug__" : Str))=false:=by decide)
  (he:starEach (e::es) X.env=(false,eval e X.env)::starEach es X.env:=by rfl) (hpl:(backTo pos (starEach es X.env)).any (·.1)=false:=by rfl):PE X (.Call (.Name x p) (e::es) [] pos) (tCB r t):=by
 intro pins s Z H Q I h;refine wpAny_Call_Name_kw (cD I hg hm hv ?_ hn hdb);exact PyProof.Rows.callWith_type1 (thn (ha pos pins s Z H _ I h) λus s1 ⟨vs,H1,I1,r1,q1⟩=>hc pins s1 Z H1 vs us Q I1 r1 q1) he hpl
end
end L2
namespace HT
open PySem PyProof.Rows
section
variable {prog:Program}{w:World}{A:Around}{E:`T}{s:Shared}
theorem cat_tup {t b:Addr}{vs ws:List Value}{Q:`T}(ht:IsTup s.heap t vs.toArray)(hb:IsTup s.heap b ws.toArray)(hv:vs≠[])
  (h1:ws=[]->Q (.ref t) s) (h2:ws≠[]->Q (.ref `z) {s with heap:=s.heap.push {cls:=.type "tuple",data:=.seq (vs++ws).toArray} })
  (hsz:vs.length+ws.length<=sizeLine):wpAny `M A (binaryOp .Add (.ref t) (.ref b)) Q E s:=by
 obtain⟨⟨cls,dd,data,sl⟩,ho,hc,n,hd⟩:=id ht;obtain⟨⟨Fr,Cl,Fn,dl⟩,ad,BT,n2,mt⟩:=id hb;simp only at hc hd BT mt;subst hc hd BT mt;have e:vs.toArray++ws.toArray=(vs++ws).toArray:=by simp
 by_cases hw:ws=[]
 .exact concat_meets ⟨_,ho,rfl⟩ ⟨_,ad,rfl⟩ noFill_tuple_add seq_tuple_add PySem.F.slot_tuple_add PySem.F.entry_tuple_add (PySem.F.args_tuple_add_2 _ _)
   (tuple_addW1 t b vs.toArray ws.toArray n n2 dd Cl sl dl (by simpa using hv) (by simp[hw])) ⟨ho,ad,h1 hw⟩
 .refine concat_meets ⟨_,ho,rfl⟩ ⟨_,ad,rfl⟩ noFill_tuple_add seq_tuple_add PySem.F.slot_tuple_add PySem.F.entry_tuple_add (PySem.F.args_tuple_add_2 _ _)
   (tuple_addW2 t b vs.toArray ws.toArray n n2 dd Cl sl dl (by simpa using hv) (by simpa using hw) (by rw[size_toArray,size_toArray];exact hsz)) ⟨ho,ad,?_⟩
  rw[e];exact h2 hw
noncomputable def sIx (n d:Nat):Option Int->Nat
 |none=>d
 |some v=>if v < 0 then (v+(n:Int)).toNat else min v.toNat n
theorem sIx_none (n d:Nat):sIx n d none=d:=rfl
theorem sIx_nat (n d k:Nat):sIx n d (some (k:Int))=min k n:=by show (if (k:Int) < 0 then ((k:Int)+(n:Int)).toNat else min (k:Int).toNat n)=min k n;rw[if_neg `l,Int.toNat_natCast]
theorem xV (n d:Nat)(hd:d<=n)(o:Option Int):sIx n d o<=n:=by
 cases o with
 |none=>exact hd
 |some v=>
  show (if v < 0 then (v+(n:Int)).toNat else min v.toNat n)<=n;by_cases hv:v < 0
  .rw[if_pos hv];lia
  .rw[if_neg hv];exact Nat.min_le_right _ _
theorem mQ (v:Int)(n d:Nat):(if v < 0 then max (v+(n:Int)) 0 else min v (n:Int))=((sIx n d (some v):Nat):Int):=by
 show (if v < 0 then max (v+(n:Int)) 0 else min v (n:Int))=(((if v < 0 then (v+(n:Int)).toNat else min v.toNat n):Nat):Int);by_cases hv:v < 0
 .simp only[if_pos hv];lia
 .simp only[if_neg hv];lia
theorem xW (lo hi:Option Int)(n:Nat):Builtin.Slice.sliceAdjust lo hi 1 (n:Int)=(((sIx n 0 lo:Nat):Int),((sIx n n hi:Nat):Int)):=by
 have h1:¬ ((1:Int) < 0):=by lia
 unfold Builtin.Slice.sliceAdjust;simp only[h1,if_false];refine Prod.ext ?_ ?_
 .cases lo with
  |none=>rfl
  |some v=>exact mQ v n 0
 .cases hi with
  |none=>rfl
  |some v=>exact mQ v n n
theorem xX (i j:Nat):Builtin.Slice.slicePlaces (i:Int) (j:Int) 1=j - i:=by
 unfold Builtin.Slice.slicePlaces;have h1:(1:Int) > 0:=by lia
 simp only[h1,if_true,Int.ediv_one];split <;> lia
theorem mR {v:Value}{o:Option Int}{Q:Option Int->Shared->Prop}(p:IsPart v o)(h:Q o s):wpAny `M A (Builtin.Slice.slicePartIndex v) Q E s:=by
 cases p with
 |none=>exact slicePart_none h
 |int i t=>exact slicePart_int h
theorem mS {sl:Addr}{vl vu:Value}{lo hi:Option Int}{n:Nat}{Q:Int×Int×Nat->Shared->Prop}(hs:s.heap.IsSliceOf sl vl vu .none)(pl:IsPart vl lo)(pu:IsPart vu hi)
  (h:Q (((sIx n 0 lo:Nat):Int),1,sIx n n hi - sIx n 0 lo) s):wpAny `M A (Builtin.Slice.sliceApplied (.ref sl) (pure (n:Int))) Q E s:=by
 obtain⟨os,ad,mt,dl⟩:=id hs;unfold Builtin.Slice.sliceApplied Builtin.Slice.sliceFields;refine wpAny_bind (wpAny_bind (wpAny_field ad dl (x:=vl) rfl (wpAny_bind (wpAny_field ad dl (x:=vu) rfl (wpAny_bind (wpAny_field ad dl (x:=.none) rfl (wpAny_pure ?_)))))));refine wpAny_bind (slicePart_none ?_);show wpAny _ _ (if ((1:Int) == 0)=true then _ else _) _ _ s;rw[if_neg `d];refine wpAny_bind (mR pl (wpAny_bind (mR pu (wpAny_bind (wpAny_pure ?_)))));show wpAny _ _ (match Builtin.Slice.sliceAdjust lo hi 1 (n:Int) with|(lo,hi)=>pure (lo,(1:Int),Builtin.Slice.slicePlaces lo hi 1)) _ _ s;rw[xW lo hi n];show wpAny _ _ (pure (((sIx n 0 lo:Nat):Int),(1:Int),Builtin.Slice.slicePlaces ((sIx n 0 lo:Nat):Int) ((sIx n n hi:Nat):Int) 1)) _ _ s;rw[xX];exact wpAny_pure h
theorem xY (xs:Array Value)(i k:Nat):((List.range k).filterMap λ(m:Nat)=>xs[((i:Int)+(m:Int) * 1).toNat]?).toArray=((xs.toList.drop i).take k).toArray:=by
 have e:(λ(m:Nat)=>xs[((i:Int)+(m:Int) * 1).toNat]?)=λm=>xs[i+m]?:=by
  funext m
  have:((i:Int)+(m:Int) * 1).toNat=i+m:=by lia
  rw[this]
 rw[e];have:=pick_run xs i k;rw[List.filterMap_map] at this;have e2:((λx=>xs[x]?) ∘ λx=>i+x)=λm=>xs[i+m]?:=rfl;rw[e2] at this;rw[this]
theorem getItem_tuple_cut {t sl:Addr}{items:Array Value}{vl vu:Value}{lo hi:Option Int}{Q:`T}(ht:IsTup s.heap t items)(hs:s.heap.IsSliceOf sl vl vu .none)(pl:IsPart vl lo)(pu:IsPart vu hi)
  (hw:¬ (sIx items.size 0 lo=0/\sIx items.size items.size hi=items.size))
  (h:Q (.ref `z) {s with heap:=s.heap.push {cls:=.type "tuple",data:=.seq ((items.toList.drop (sIx items.size 0 lo)).take (sIx items.size items.size hi - sIx items.size 0 lo)).toArray} })
  (hsz:items.size<=sizeLine):wpAny `M A (getItem (.ref t) (.ref sl)) Q E s:=by
 have ad:sizeOk (.seq ((items.toList.drop (sIx items.size 0 lo)).take (sIx items.size items.size hi - sIx items.size 0 lo)).toArray):=by show ((items.toList.drop (sIx items.size 0 lo)).take (sIx items.size items.size hi - sIx items.size 0 lo)).toArray.size<=sizeLine;rw[size_toArray,length_take,length_drop,Array.length_toList];lia
 have hj:sIx items.size items.size hi<=items.size:=xV _ _ `n hi;obtain⟨os,dl,BT,Fn⟩:=id hs;have Cl:s.TypeIs (.ref sl) "slice" := ⟨os,dl,BT⟩;unfold getItem;try with_reducible refine wpAny_holding ?_
 first|refine wpAny_bind (wpAny_pure ?_)|skip
 refine wpAny_bind (wpAny_sequenceKey ht.typeIs `d ?_);refine wpAny_bind (wpAny_callSpecial?_slot (name:=ofString "__getitem__") ht.typeIs PyProof.Rows.slot_tuple_getitem
  (wpAny_call_entry PyProof.Rows.slot_tuple_getitem ht.typeIs entry_tuple_getitem ?_ (args_tuple_getitem _ _)))
 show wpAny _ _ (Builtin.Tuple.tupleItemsOf (.ref t) >>= _) _ _ s;refine wpAny_bind (tupleItemsOf_ ht ?_);refine wpAny_bind (wpAny_typeOf Cl ?_);rw[if_pos `d];refine wpAny_bind (mS hs pl pu ?_);have mt:¬ ((((sIx items.size 0 lo:Nat):Int) == 0 && (1:Int) == 1 && (sIx items.size items.size hi - sIx items.size 0 lo) == items.size)=true):=by intro q;rw[Bool.and_eq_true,Bool.and_eq_true] at q;have q1:((sIx items.size 0 lo:Nat):Int)=0:=eq_of_beq q.1.1;have q2:sIx items.size items.size hi - sIx items.size 0 lo=items.size:=eq_of_beq q.2;exact hw ⟨`l,`l⟩
 show wpAny _ _ (if (((sIx items.size 0 lo:Nat):Int) == 0 && (1:Int) == 1 && (sIx items.size items.size hi - sIx items.size 0 lo) == items.size)=true then _ else _) _ _ s;rw[if_neg mt,xY];first
  |exact wpAny_bind (m:=Builtin.Tuple.tupleExact _) (wpAny_newObj_type (wpAny_pure ⟨_,rfl,wpAny_pure h⟩) ad)
  |exact wpAny_bind (m:=Builtin.Tuple.tupleExact _) (wpAny_newObj_type (wpAny_bind (wpAny_pure (wpAny_pure ⟨_,rfl,wpAny_pure h⟩))) ad)
  |exact wpAny_bind (wpAny_bind (m:=Builtin.Tuple.tupleExact _) (wpAny_newObj_type (wpAny_pure (wpAny_pure ⟨_,rfl,wpAny_pure h⟩)) ad))
  |exact wpAny_bind (wpAny_bind (m:=Builtin.Tuple.tupleExact _) (wpAny_newObj_type (wpAny_pure ⟨_,rfl,wpAny_pure h⟩) ad))
end
end HT
namespace L2
open PySem PySem.Spec PyProof.Rows
noncomputable abbrev TO:=St->Hp->(Option Int->Hp->Prop)->Prop
def PO (X:Cx)(e:Option Expr)(t:TO):Prop:=
 ∀(pins:`O) (s:Shared) (Z:St) (H:Hp) (Q:Option Int->Hp->Prop),Inv X pins Z H s->t Z H Q ->
  wpAny `m X.A (evalPart e X.env) (λu s'=>∃o H',Inv X pins Z H' s'/\IsPart u o/\Q o H') X.xe s
def tNoPart:TO:=λ_ H Q=>Q none H
def tPart (t:TE):TO:=λZ H Q=>t Z H λx H1=>∃i,x=.int i/\Q (some i) H1
section
variable {X:Cx}{e:Expr}{te:TE}{lo hi:Option Expr}{tl th:TO}{pos p2:Pos}
theorem bt:PO X none tNoPart:=by intro pins s Z H Q I h;rw[evalPart_none];exact wpAny_pure ⟨none,H,I,.none,h⟩
theorem bW (h:PE X e te):PO X (some e) (tPart te):=by intro pins s Z H Q I hw;rw[evalPart_some];refine thn (h pins s Z H _ I hw) λu s1 W'=>?_;obtain⟨x,H1,I1,r1,q1⟩:=W';obtain⟨i,rfl,q⟩:=q1;obtain⟨t,rfl⟩:=r1;exact⟨some i,H1,I1,.int i t,q⟩
def SlR (X:Cx)(r:V->Option Int->Option Int->Hp->VK->Prop):Prop:=
 ∀(pins:`O) (s:Shared) (Z:St) (H:Hp) (x:V) (v vl vu:Value) (lo hi:Option Int) (sl:Addr) (Q:VK),Inv X pins Z H s->RelV x v->s.heap.IsSliceOf sl vl vu .none->IsPart vl lo->IsPart vu hi->r x lo hi H Q ->
  ∃T id,typeLookup (.type T) "__getitem__"=pure (some (.builtin id))/\s.TypeIs v T/\wpAny `m X.A (getItem v (.ref sl)) (EP X pins Z Q) X.xe s
theorem SlR.or {r r':V->Option Int->Option Int->Hp->VK->Prop}(h:SlR X r)(h':SlR X r'):SlR X (λx lo hi H Q=>r x lo hi H Q\/r' x lo hi H Q):=by
 intro pins s Z H x v vl vu lo hi sl Q I rx hs pl pu q;rcases q with q|q
 .exact h pins s Z H x v vl vu lo hi sl Q I rx hs pl pu q
 .exact h' pins s Z H x v vl vu lo hi sl Q I rx hs pl pu q
def tSl (r:V->Option Int->Option Int->Hp->VK->Prop)(te:TE)(tl th:TO):TE:=λZ H Q=>te Z H λx H1=>tl Z H1 λl H2=>th Z H2 λu H3=>r x l u H3 Q
theorem bf {r:V->Option Int->Option Int->Hp->VK->Prop}(hr:SlR X r)(he:PE X e te)(hl:PO X lo tl)(hu:PO X hi th):PE X (.Subscript e (.Slice lo hi none p2) pos) (tSl r te tl th):=by intro ad s Z H Q I h;refine Subscript_ (thn (he ad s Z H _ I h) λv s1 W'=>?_);obtain⟨x,H1,I1,r1,q1⟩:=W';refine wpAny_Slice (thn (hl ad s1 Z H1 _ I1 q1) λvl s2 ⟨l,H2,I2,pl,q2⟩=>thn (hu ad s2 Z H2 _ I2 q2) λvu s3 W'=>?_);obtain⟨u,H3,I3,pu,q3⟩:=W';rw[evalPart_none];refine wpAny_pure ?_;have I4:Inv X ad Z H3 {s3 with heap:=s3.heap.push {cls:=.type "slice",data:=.fields #[vl,vu,.none]} }:=I3.kept (t':=s3.toks) λb ob q=>Heap.get?_push_of_some _ q;obtain⟨T,id,hT,ht,hg⟩:=hr ad {s3 with heap:=s3.heap.push {cls:=.type "slice",data:=.fields #[vl,vu,.none]} } Z H3 x v vl vu l u s3.heap.objs.size Q I4 r1 (Heap.IsSliceOf.new ..) pl pu q3;show wpAny `m X.A (subscriptTail e (.Slice lo hi none p2) v (.ref s3.heap.objs.size)) (EP X ad Z Q) X.xe {s3 with heap:=s3.heap.push {cls:=.type "slice",data:=.fields #[vl,vu,.none]} };exact tail_any (ops:=[.ref s3.heap.objs.size,v]) ht hT hg (by with_unfolding_all rfl)
noncomputable def cutV (xs:`V)(lo hi:Option Int):`V:=(xs.drop (HT.sIx `x 0 lo)).take (HT.sIx `x `x hi - HT.sIx `x 0 lo)
theorem mU (xs:`V)(lo hi:Option Int):(cutV xs lo hi).length<=`x:=by unfold cutV;rw[length_take,length_drop];lia
def rSlT (K:`F):V->Option Int->Option Int->Hp->VK->Prop:=λx lo hi H Q=>∃a xs,x=.ref a/\SqT K H a xs/\
 ¬ (HT.sIx `x 0 lo=0/\HT.sIx `x `x hi=`x)/\∀p,H p=none->Q (.ref p) (upd H p (.tup (cutV xs lo hi)))
theorem mV:SlR X (rSlT X.K):=by
 intro dl s Z H x v vl vu lo hi sl Q I rx hs pl pu h;obtain⟨a,xs,rfl,hx,hw,q⟩:=h;cases rx;obtain⟨mt,r,ht,hz⟩:=I.tuple hx;have ad:mt.toArray.size=`x:=by rw[size_toArray];exact r.length.symm
 refine⟨"tuple",_,PyProof.Rows.slot_tuple_getitem.lookup,ht.typeIs,?_⟩;refine HT.getItem_tuple_cut ht hs pl pu (by rw[ad];exact hw) ?_ (by rw[ad];exact hz);rw[ad];refine⟨.ref `z,_,I.laid (t':=s.toks) (o:=.tup (cutV xs lo hi)) (λb ob q=>Heap.get?_push_of_some _ q) `n ?_,rfl,q _ (I.hok.fresh `n)⟩;exact⟨Nat.le_trans (mU xs lo hi) hz,_,(r.drop (HT.sIx `x 0 lo)).take (HT.sIx `x `x hi - HT.sIx `x 0 lo),IsTup.new _ _⟩
def rCatT (K:`F):R2:=λx y H Q=>∃a b xs ys,x=.ref a/\y=.ref b/\SqT K H a xs/\SqT K H b ys/\xs≠[]/\`x+ys.length<=sizeLine/\
 (ys=[]->Q (.ref a) H)/\(ys≠[]->∀p,H p=none->Q (.ref p) (upd H p (.tup (xs++ys))))
theorem Vals.nil_iff {xs:`V}{us:List Value}(r:Vals xs us):us=[]↔xs=[]:=by
 cases r with
 |nil=>simp
 |cons _ _=>simp
theorem mW:OpR X (binaryOp .Add) (rCatT X.K):=by intro ad s Z H x y v u Q I rx ry h;obtain⟨a,b,xs,ys,rfl,rfl,ha,hb,hx,hz,q1,q2⟩:=h;cases rx;cases ry;obtain⟨mt,r1,p1,_⟩:=I.tuple ha;obtain⟨dl,r2,p2,_⟩:=I.tuple hb;refine HT.cat_tup p1 p2 (λz=>hx (r1.nil_iff.mp z)) (λz=>⟨.ref a,H,I,rfl,q1 (r2.nil_iff.mp z)⟩) (λz=>?_) (by rw[<- r1.length,<- r2.length];exact hz);refine⟨.ref `z,_,I.laid (t':=s.toks) (o:=.tup (xs++ys)) (λb ob q=>Heap.get?_push_of_some _ q) `n ?_,rfl,q2 (λw=>z (r2.nil_iff.mpr w)) _ (I.hok.fresh `n)⟩;exact⟨by rw[length_append];exact hz,_,r1.append r2,IsTup.new _ _⟩
end
noncomputable def ixN (n:Nat)(i:Int):Option Nat:=if 0<=i then (if i < n then some i.toNat else none) else if -(n:Int)<=i then some (i+n).toNat else none
noncomputable def atI {α:Type}(xs:List α)(i:Int):Option α:=(ixN `x i).bind λj=>xs[j]?
theorem xZ {n:Nat}{i:Int}{j:Nat}(h:ixN n i=some j):seqIndex? i n=some j/\j < n/\-(n:Int)<=i/\i < n:=by
 unfold ixN at h;by_cases h0:0<=i
 .rw[if_pos h0] at h;by_cases h1:i < n
  .rw[if_pos h1] at h;have e:i.toNat=j:=Option.some.inj h;exact⟨by rw[seqIndex_of h0 h1,e],`l,`l,h1⟩
  .rw[if_neg h1] at h;cases h
 .rw[if_neg h0] at h;by_cases h1:-(n:Int)<=i
  .rw[if_pos h1] at h;have e:(i+n).toNat=j:=Option.some.inj h;exact⟨by rw[seqIndex_neg `l h1,e],`l,h1,`l⟩
  .rw[if_neg h1] at h;cases h
theorem jO {α:Type}{xs:List α}{i:Int}{v:α}(h:atI xs i=some v):∃j,seqIndex? i `x=some j/\xs[j]?=some v/\j < `x/\-(`x:Int)<=i/\i < `x:=by
 unfold atI at h;cases e:ixN `x i with
 |none=>rw[e] at h;cases h
 |some j=>rw[e] at h;obtain⟨h1,h2,h3,h4⟩:=xZ e;exact⟨j,h1,h,h2,h3,h4⟩
theorem aB {α:Type}{xs:List α}{j:Nat}{v:α}(h:xs[j]?=some v):atI xs (j:Int)=some v:=by
 have hj:j < `x:=(List.getElem?_eq_some_iff.mp h).1;have e:ixN `x (j:Int)=some j:=by unfold ixN;rw[if_pos `l,if_pos `l];simp
 unfold atI;rw[e];exact h
def PlainIx (b:Expr):Prop:=∀o i,subscripted b false o i=operate [o,i] (getItem o i)
def IxR (X:Cx)(r:R2):Prop:=
 ∀(value slice:Expr) (pins:`O) (s:Shared) (Z:St) (H:Hp) (x y:V) (v u:Value) (Q:VK),Inv X pins Z H s->RelV x v->RelV y u->r x y H Q ->
  subscripted slice false v u=operate [v,u] (getItem v u)->wpAny `m X.A (subscriptTail value slice v u) (EP X pins Z Q) X.xe s
def MtR (X:Cx)(id:String)(r:V->`V->Hp->VK->Prop):Prop:=
 ∀(pins:`O) (s:Shared) (Z:St) (H:Hp) (x:V) (xs:`V) (v:Value) (us:List Value) (Q:VK),Inv X pins Z H s->RelV x v->Vals xs us->r x xs H Q ->
  wpAny `m X.A (call (.builtin id) (v::us)) (EP X pins Z Q) X.xe s
section
variable {X:Cx}{a b:Expr}{ta tb:TE}{pos:Pos}
theorem IxR.or {r r':R2}(h:IxR X r)(h':IxR X r'):IxR X (λx y H Q=>r x y H Q\/r' x y H Q):=by
 intro value slice pins s Z H x y v u Q I rx ry q hs;rcases q with q|q
 .exact h value slice pins s Z H x y v u Q I rx ry q hs
 .exact h' value slice pins s Z H x y v u Q I rx ry q hs
theorem mX {r:R2}(hr:IxR X r)(ha:PE X a ta)(hb:PE X b tb)(hs:PlainIx b):PE X (.Subscript a b pos) (tOp r ta tb):=by intro pins s Z H Q I h;exact Subscript_ (binT ha hb I h λv u s2 x y H2 I2 rx ry q=>hr a b pins s2 Z H2 x y v u Q I2 rx ry q (hs _ _))
def rIxL (K:`F):R2:=λx y H Q=>∃p xs i v,x=.ref p/\y=.int i/\SqL K H p xs/\atI xs i=some v/\Q v H
def rIxT (K:`F):R2:=λx y H Q=>∃p xs i v,x=.ref p/\y=.int i/\SqT K H p xs/\atI xs i=some v/\Q v H
def rIxS:R2:=λx y H Q=>∃z i c,x=.str z/\y=.int i/\z.length<=sizeLine/\atI z.cps.toList i=some c/\Q (.str ⟨#[c]⟩) H
theorem xa:IxR X (rIxL X.K):=by
 intro dl mt ad s Z H x y v u Q I rx ry h hs;obtain⟨p,xs,i,z,rfl,rfl,hq,he,q⟩:=h;cases rx;obtain⟨t,rfl⟩:=ry;obtain⟨Fn,r,pl,hz⟩:=I.list hq;obtain⟨j,h1,h2,h3,h4,h5⟩:=jO he;obtain⟨w,ew,Cl⟩:=r.get h2;have hl:=r.length;have hn:=line63;have BT:EP X ad Z Q w s:=⟨z,H,I,Cl,q⟩;by_cases h0:0<=i
 .have hj:i.toNat=j:=by
   rw[seqIndex_of h0 h5] at h1;exact Option.some.inj h1
  exact item_listR pl.isList h0 `l (by rw[hj];simpa using ew) BT hs
 .have hj:(i+(Fn.toArray.size:Int)).toNat=j:=by
   rw[seqIndex_neg `l h4] at h1;rw[size_toArray,<- hl];exact Option.some.inj h1
  exact subscriptTail_builtinR (x:=w) pl.isList.typeIs slot_list_getitem.lookup
   (wpAny_getItem_list_neg (Q:=λr s'=>r=w/\EP X ad Z Q r s') pl.isList `l (by rw[size_toArray] <;> lia) `l (by rw[hj];simpa using ew) ⟨rfl,BT⟩) hs
theorem xb:IxR X (rIxT X.K):=by
 intro dl mt ad s Z H x y v u Q I rx ry h hs;obtain⟨p,xs,i,z,rfl,rfl,hq,he,q⟩:=h;cases rx;obtain⟨t,rfl⟩:=ry;obtain⟨Fn,r,pl,hz⟩:=I.tuple hq;obtain⟨j,h1,h2,h3,h4,h5⟩:=jO he;obtain⟨w,ew,BT⟩:=r.get h2;have hl:=r.length;have hn:=line63;have Cl:EP X ad Z Q w s:=⟨z,H,I,BT,q⟩;exact subscriptTail_builtinR (x:=w) pl.typeIs slot_tuple_getitem.lookup
  (getItem_tuple (j:=j) (Q:=λr s'=>r=w/\EP X ad Z Q r s') pl `l `l (by rw[size_toArray,<- hl];exact h1) (by simpa using ew) ⟨rfl,Cl⟩) hs
theorem xc:IxR X rIxS:=by
 intro ad dl mt s Z H x y v u Q I rx ry h hs;obtain⟨z,i,c,rfl,rfl,hz,he,q⟩:=h;obtain⟨t,rfl⟩:=rx;obtain⟨t',rfl⟩:=ry;obtain⟨j,h1,h2,h3,h4,h5⟩:=jO he;have hl:z.cps.toList.length=z.length:=by simp[Str.length]
 rw[hl] at h1 h4 h5;have hn:=line63;exact tail_any (typeIs_str s z t) slot_str_getitem.lookup (getItem_str (c:=c) (by have e1:decide (i < -(2 ^ 63:Int))=false:=decide_eq_false `l;have e2:decide (i ≥ 2 ^ 63)=false:=decide_eq_false `l;rw[e1,e2,Bool.or_false]) (by rw[h1];simpa using h2) ⟨.str ⟨#[c]⟩,H,I.tok _,`o,q⟩) hs
def rIx (K:`F):R2:=λx y H Q=>rIxL K x y H Q\/rIxT K x y H Q\/rIxS x y H Q
theorem xf:IxR X (rIx X.K):=xa.or (xb.or xc)
theorem xg (lo hi:Option Int)(n:Nat):(sliceBounds lo hi none n).1=((HT.sIx n 0 lo:Nat):Int)/\(sliceBounds lo hi none n).2.1=((HT.sIx n n hi:Nat):Int)/\(sliceBounds lo hi none n).2.2=1:=by
 refine⟨?_,?_,rfl⟩
 .cases lo with
  |none=>simp[sliceBounds,HT.sIx]
  |some i=>
   simp only[sliceBounds,HT.sIx,Option.getD_none,show (1:Int) > 0 by decide,if_true];by_cases h:i < 0
   .simp only[h,if_true] <;> lia
   .simp only[h,if_false] <;> lia
 .cases hi with
  |none=>simp[sliceBounds,HT.sIx]
  |some i=>
   simp only[sliceBounds,HT.sIx,Option.getD_none,show (1:Int) > 0 by decide,if_true];by_cases h:i < 0
   .simp only[h,if_true] <;> lia
   .simp only[h,if_false] <;> lia
theorem xh (its:List Value)(lo hi:Option Int):slicePick its.toArray lo hi none=((its.drop (HT.sIx its.length 0 lo)).take (HT.sIx its.length its.length hi - HT.sIx its.length 0 lo)).toArray:=by obtain⟨h1,h2,h3⟩:=xg lo hi its.toArray.size;unfold slicePick;rw[h1,h2,h3];simp only[sliceRange_one,pick_run,size_toArray] <;> rfl
def rSlL (K:`F):V->Option Int->Option Int->Hp->VK->Prop:=λx lo hi H Q=>∃a xs,x=.ref a/\SqL K H a xs/\∀p,H p=none->Q (.ref p) (upd H p (.lst (cutV xs lo hi)))
theorem mY:SlR X (rSlL X.K):=by
 intro ad s Z H x v vl vu lo hi sl Q I rx hs pl pu h;obtain⟨a,xs,rfl,hx,q⟩:=h;cases rx;obtain⟨mt,r,ht,hz⟩:=I.list hx;have dl:=r.length;refine⟨"list",_,slot_list_getitem.lookup,ht.isList.typeIs,?_⟩;refine wpAny_getItem_list_slice ht.isList hs pl pu .none `s ?_ (by rw[size_toArray] <;> lia)
 rw[xh,<- dl];refine⟨.ref `z,_,I.laid (t':=s.toks) (o:=.lst (cutV xs lo hi)) (λb ob q=>Heap.get?_push_of_some _ q) `n ?_,rfl,q _ (I.hok.fresh `n)⟩;exact⟨Nat.le_trans (mU xs lo hi) hz,_,0,(r.drop (HT.sIx `x 0 lo)).take (HT.sIx `x `x hi - HT.sIx `x 0 lo),Heap.get?_push_size _ rfl⟩
noncomputable def flatV:V->Bool
 |.non=>true
 |.bl _=>true
 |.int _=>true
 |.str _=>true
 |_=>false
noncomputable def eqV:V->V->Bool
 |.non,.non=>true
 |.bl a,.bl b=>a == b
 |.bl a,.int b=>(if a then 1 else 0) == b
 |.int a,.bl b=>a == (if b then 1 else 0)
 |.int a,.int b=>a == b
 |.str a,.str b=>a == b
 |_,_=>false
theorem xi {A:Around}{s:Shared}{y x:V}{u v:Value}(ry:RelV y u)(rx:RelV x v)(fy:flatV y=true)(fx:flatV x=true):SeqAt.EqAt A s u v (eqV y x):=by
 cases y with
 |non=>
  cases ry;cases x with
  |non=>cases rx;exact SeqAt.EqAt.same _
  |bl b=>cases rx;exact SeqAt.EqAt.none_bool b
  |int b=>obtain⟨t,rfl⟩:=rx;exact SeqAt.EqAt.none_int b t
  |str b=>obtain⟨t,rfl⟩:=rx;exact SeqAt.EqAt.none_str b t
  |_=>exact absurd (show false=true from fx) Bool.false_ne_true
 |bl a=>
  cases ry;cases x with
  |non=>cases rx;exact SeqAt.EqAt.bool_none a
  |bl b=>cases rx;exact SeqAt.EqAt.bool_bool a b
  |int b=>obtain⟨t,rfl⟩:=rx;exact SeqAt.EqAt.bool_int a b t
  |str b=>obtain⟨t,rfl⟩:=rx;exact SeqAt.EqAt.bool_str a b t
  |_=>exact absurd (show false=true from fx) Bool.false_ne_true
 |int a=>
  obtain⟨t',rfl⟩:=ry;cases x with
  |non=>cases rx;exact SeqAt.EqAt.int_none a t'
  |bl b=>cases rx;exact SeqAt.EqAt.int_bool a t' b
  |int b=>obtain⟨t,rfl⟩:=rx;exact SeqAt.EqAt.int_int a t' b t
  |str b=>obtain⟨t,rfl⟩:=rx;exact SeqAt.EqAt.int_str a t' b t
  |_=>exact absurd (show false=true from fx) Bool.false_ne_true
 |str a=>
  obtain⟨t',rfl⟩:=ry;cases x with
  |non=>cases rx;exact SeqAt.EqAt.str_none a t'
  |bl b=>cases rx;exact SeqAt.EqAt.str_bool a t' b
  |int b=>obtain⟨t,rfl⟩:=rx;exact SeqAt.EqAt.str_int a t' b t
  |str b=>obtain⟨t,rfl⟩:=rx;exact SeqAt.EqAt.str_str a t' b t
  |_=>exact absurd (show false=true from fx) Bool.false_ne_true
 |_=>exact absurd (show false=true from fy) Bool.false_ne_true
noncomputable def eqU (x:V)(u:Value):Bool:=match u with
 |.none=>eqV .non x
 |.bool b=>eqV (.bl b) x
 |.int i _=>eqV (.int i) x
 |.str z _=>eqV (.str z) x
 |_=>false
theorem mZ {x y:V}{u:Value}(r:RelV y u)(f:flatV y=true):eqU x u=eqV y x:=by
 cases y with
 |non=>cases r;rfl
 |bl b=>cases r;rfl
 |int i=>obtain⟨t,rfl⟩:=r;rfl
 |str z=>obtain⟨t,rfl⟩:=r;rfl
 |_=>exact absurd (show false=true from f) Bool.false_ne_true
theorem jP {x:V}:∀{xs:`V}{us:List Value},Vals xs us->xs.all flatV=true->us.any (eqU x)=xs.any λy=>eqV y x
 |_,_,.nil,_=>rfl
 |y::xs,u::us,.cons r t,f=>by rw[all_cons,Bool.and_eq_true] at f;rw[any_cons,any_cons,mZ r f.1,jP t f.2]
theorem jQ {A:Around}{s:Shared}{x:V}{v:Value}(rx:RelV x v)(fx:flatV x=true):∀{xs:`V}{us:List Value},Vals xs us->xs.all flatV=true->∀u∈us,SeqAt.EqAt A s u v (eqU x u)
 |_,_,.nil,_=>λu hu=>by cases hu
 |y::xs,u::us,.cons r t,f=>λu' hu=>by
  rw[all_cons,Bool.and_eq_true] at f;rcases mem_cons.mp hu with rfl|hu
  .rw[mZ r f.1];exact xi r rx f.1 fx
  .exact jQ rx fx t f.2 u' hu
noncomputable def inV (x:V)(xs:`V):Bool:=xs.any λy=>eqV y x
def rIn (K:`F)(neg:Bool):R2:=λx y H Q=>∃p xs,y=.ref p/\(SqL K H p xs\/SqT K H p xs)/\flatV x=true/\xs.all flatV=true/\Q (.bl (if neg then !inV x xs else inV x xs)) H
theorem xj:OpR X (compareOp .In) (rIn X.K false):=by
 intro dl s Z H x y v u Q I rx ry h;obtain⟨p,xs,rfl,hq,fx,fs,q⟩:=h;cases ry;rcases hq with hq|hq
 .obtain⟨ad,r,pl,hz⟩:=I.list hq;refine SeqAt.in_listAt (eqU x) pl.isList (λw hw=>jQ rx fx r fs w (by simpa using hw)) ⟨.bl _,H,I,rfl,?_⟩;rw[show ad.toArray.any (eqU x)=ad.any (eqU x) by simp,jP r fs];exact q
 .obtain⟨ad,r,pl,hz⟩:=I.tuple hq;refine SeqAt.in_tupleAt (eqU x) pl (λw hw=>jQ rx fx r fs w (by simpa using hw)) ⟨.bl _,H,I,rfl,?_⟩;rw[show ad.toArray.any (eqU x)=ad.any (eqU x) by simp,jP r fs];exact q
theorem xk:CallR X (.builtin "len") (λxs H Q=>∃p ys,xs=[.ref p]/\(SqL X.K H p ys\/SqT X.K H p ys)/\Q (.int ys.length) H):=by
 intro dl s Z H xs us Q I r h;obtain⟨p,ys,rfl,hq,q⟩:=h;obtain⟨u,rfl,rx⟩:=vals1 r;cases rx;have hn:=line63;rcases hq with hq|hq
 .obtain⟨mt,r',pl,hz⟩:=I.list hq;have ad:=r'.length;exact Calls.call_len_list pl.isList (by simp only[size_toArray] <;> lia) ⟨.int ys.length,H,I.tok _,⟨s.toks+1,by rw[size_toArray,ad]⟩,q⟩
 .obtain⟨mt,r',pl,hz⟩:=I.tuple hq;have ad:=r'.length;exact len_tuple pl (by simp only[size_toArray] <;> lia) ⟨.int ys.length,H,I.tok _,⟨s.toks+1,by rw[size_toArray,ad]⟩,q⟩
theorem xl:CallR X (.builtin "len") (λxs H Q=>∃z,xs=[.str z]/\z.length<=sizeLine/\Q (.int z.length) H):=by intro pins s Z H xs us Q I r h;obtain⟨z,rfl,hz,q⟩:=h;obtain⟨u,rfl,t,rfl⟩:=vals1 r;have hn:=line63;exact len_str `l ⟨.int z.length,H,I.tok _,`o,q⟩
theorem xm:CallR X (.type "list") (λxs H Q=>∃p ys,xs=[.ref p]/\(SqL X.K H p ys\/SqT X.K H p ys)/\∀l,H l=none->Q (.ref l) (upd H l (.lst ys))):=by
 intro dl s Z H xs us Q I r h;obtain⟨p,ys,rfl,hq,q⟩:=h;obtain⟨u,rfl,rx⟩:=vals1 r;cases rx;have mt:∀(ad:List Value),Vals ys ad->ys.length<=sizeLine->∀(h':Heap) (c':Nat),(∀b o',s.heap.get? b=some o'->h'.get? b=some o') ->
   h'.get? `z=some {cls:=.type "list",dict:=none,data:=.seq ad.toArray c',slots:=#[]}->EP X dl Z Q (.ref `z) {s with heap:=h' }:=λad r' hz h' c' kp e=>
  ⟨.ref `z,_,I.laid (t':=s.toks) kp `n (show ObjOk X.prog X.w _ h' _ (.lst ys) from ⟨hz,ad,c',r',e⟩),rfl,q _ (I.hok.fresh `n)⟩
 rcases hq with hq|hq
 .obtain⟨ad,r',pl,hz⟩:=I.list hq;have hlen:=r'.length;obtain⟨o,ho,hc,n,hd⟩:=pl.isList;exact call_list_seq p (.inl rfl) ho hc hd (λh' c' kp e=>mt ad r' hz h' c' kp e) (by simp only[size_toArray] <;> lia)
 .obtain⟨ad,r',pl,hz⟩:=I.tuple hq;have hlen:=r'.length;obtain⟨o,ho,hc,n,hd⟩:=pl;exact call_list_seq p (.inr rfl) ho hc hd (λh' c' kp e=>mt ad r' hz h' c' kp e) (by simp only[size_toArray] <;> lia)
theorem ma:CallR X (.type "tuple") (λxs H Q=>∃p ys,xs=[.ref p]/\((SqL X.K H p ys/\∀l,H l=none->Q (.ref l) (upd H l (.tup ys)))\/(SqT X.K H p ys/\Q (.ref p) H))):=by
 intro ad s Z H xs us Q I r h;obtain⟨p,ys,rfl,h⟩:=h;obtain⟨u,rfl,rx⟩:=vals1 r;cases rx;rcases h with⟨hq,q⟩|⟨hq,q⟩
 .obtain⟨dl,r',pl,hz⟩:=I.list hq;have hlen:=r'.length;refine call_tuple_list pl.isList (λh' kp=>?_) (by simp only[size_toArray] <;> lia)
  have I1:Inv X ad Z H {s with heap:=h' }:=I.kept (t':=s.toks) kp;have I2:Inv X ad Z (upd H h'.objs.size (.tup ys)) {s with heap:=h'.push {cls:=.type "tuple",data:=.seq dl.toArray} }:=
   I1.laid (t':=s.toks) (λb o e=>Heap.get?_push_of_some _ e) `n (show ObjOk X.prog X.w _ _ _ (.tup ys) from ⟨hz,dl,r',IsTup.new _ _⟩)
  exact⟨.ref h'.objs.size,_,I2,rfl,q _ (I1.hok.fresh `n)⟩
 .obtain⟨dl,r',pl,hz⟩:=I.tuple hq;exact call_tuple_same pl ⟨.ref p,H,I,rfl,q⟩
def tyV (K:`F)(T:String)(x:V)(H:Hp):Prop:=match x with
 |.str _=>T = "str"
 |.int _=>T = "int"
 |.ref p=>(T = "list"/\∃xs,SqL K H p xs)\/(T = "tuple"/\∃o,K.lookup p=some o/\o.cls=.type "tuple"/\o.dict=none)\/
   (T = "dict"/\((∃kvs,H p=some (.dK kvs))\/∃kvs,H p=some (.dT kvs)))\/(T = "set"/\∃S n,H p=some (.set S n))
 |_=>False
theorem me {pins:`O}{Z:St}{H:Hp}{s:Shared}{T:String}{x:V}{v:Value}(I:Inv X pins Z H s)(r:RelV x v)(ty:tyV X.K T x H) :
  s.TypeIs v T/\∀a,v=.ref a->∃ob,s.heap.get? a=some ob/\ob.dict=none:=by
 cases x with
 |str z=>obtain⟨t,rfl⟩:=r;cases (show T = "str" from ty);exact⟨typeIs_str s z t,λ_ e=>nomatch e⟩
 |int i=>obtain⟨t,rfl⟩:=r;cases (show T = "int" from ty);exact⟨typeIs_int s i t,λ_ e=>nomatch e⟩
 |ref p=>
  cases r;rcases ty with⟨rfl,xs,hq⟩|⟨rfl,o,hk,hc,hd⟩|⟨rfl,hk⟩|⟨rfl,S,n,hk⟩
  .obtain⟨dl,_,pl,_⟩:=I.list hq;refine⟨pl.isList.typeIs,λa e=>?_⟩;cases e;obtain⟨o,n,e,c,hd,_⟩:=pl;exact⟨o,e,hd⟩
  .refine⟨⟨o,I.kIn p o hk,hc⟩,λa e=>?_⟩;cases e;exact⟨o,I.kIn _ o hk,hd⟩
  .have z:∃o,s.heap.get? p=some o/\o.ExactDict:=by
    rcases hk with⟨ad,hk⟩|⟨ad,hk⟩
    .obtain⟨_,_,_,_,o,_,_,e,ex,_⟩:=I.hok p _ hk;exact⟨o,e,ex⟩
    .obtain⟨_,_,_,_,o,_,_,e,ex,_⟩:=I.hok p _ hk;exact⟨o,e,ex⟩
   obtain⟨o,e,ex⟩:=z;refine⟨⟨o,e,ex.1⟩,λa e2=>?_⟩;cases e2;exact⟨o,e,ex.2.1⟩
  .obtain⟨o,_,_,_,e,ex,_⟩:=I.hok p _ hk;refine⟨⟨o,e,ex.1⟩,λa e2=>?_⟩;cases e2;exact⟨o,e,ex.2.1⟩
 |_=>exact False.elim ty
def tBM0 (K:`F)(T:String)(r:V->`V->Hp->VK->Prop)(to:TE):TE:=λZ H Q=>to Z H λx H1=>tyV K T x H1/\r x [] H1 Q
def tBM (K:`F)(T:String)(r:V->`V->Hp->VK->Prop)(to:TE)(t:TA):TE:=λZ H Q=>to Z H λx H1=>tyV K T x H1/\t Z H1 λxs H2=>r x xs H2 Q
variable {o e:Expr}{es:List Expr}{to:TE}{t:TA}{name:Str}{apos cpos:Pos}{T id:String}{r:V->`V->Hp->VK->Prop}
theorem xn (pa:PlainAttrs T)(slot:Slot T name id)(hty:typeOf (.builtin id)=pure (.type "method_descriptor"))(hm:MtR X id r)(ho:PE X o to)
  (hbase:attributeBase o name X.env (eval o X.env)=eval o X.env:=by rfl) (hline:(apos.endLine == cpos.line)=true:=by rfl):PE X (.Call (.Attribute o name apos) [] [] cpos) (tBM0 X.K T r to):=by
 intro pins s Z H Q I h;refine wpAny_Call_method0_late hbase hline (thn (ho pins s Z H _ I h) λv s1 W'=>?_);obtain⟨x,H1,I1,r1,ty,q1⟩:=W';obtain⟨h1,h2⟩:=me I1 r1 ty;exact⟨T,id,pa,slot,hty,h1,h2,Calls.callWith_builtin rfl (PySem.evalArgs_none (hm pins s1 Z H1 x [] v [] Q I1 r1 .nil q1))⟩
theorem xo (pa:PlainAttrs T)(slot:Slot T name id)(hty:typeOf (.builtin id)=pure (.type "method_descriptor"))(hm:MtR X id r)(ho:PE X o to)(ha:PA X (e::es) t)
  (hbase:attributeBase o name X.env (eval o X.env)=eval o X.env:=by rfl)
  (hfew:((backTo cpos (starEach (e::es) X.env)).all (λx=>!x.1) && (backToKw cpos (keywordEach [] X.env)).all (λx=>x.1.isSome)
   && decide ((e::es).length+([]:List Keyword).length+(if ([]:List Keyword).isEmpty then 0 else 1) < 30))=true:=by rfl)
  (hline:(apos.endLine == cpos.line)=true:=by rfl) (hs:starEach (e::es) X.env=(false,eval e X.env)::starEach es X.env:=by rfl) (hplain:(backTo cpos (starEach es X.env)).any (·.1)=false:=by rfl) :
  PE X (.Call (.Attribute o name apos) (e::es) [] cpos) (tBM X.K T r to t):=by
 intro ad s Z H Q I h;refine wpAny_Call_method_late hbase hfew hline rfl (thn (ho ad s Z H _ I h) λv s1 W'=>?_);obtain⟨x,H1,I1,r1,ty,q1⟩:=W';obtain⟨h1,h2⟩:=me I1 r1 ty;refine⟨T,id,pa,slot,hty,h1,h2,?_⟩;have hA:=ha cpos ad s1 Z H1 _ I1 q1;rw[hs] at hA ⊢;refine Calls.callWith_builtin (by show (false || (backTo cpos (starEach es X.env)).any (·.1))=false;rw[hplain] <;> rfl) (Calls.evalArgs_plain ?_)
 exact thn hA λus s2 ⟨vs,H2,I2,r2,q2⟩=>hm ad s2 Z H2 x vs v us Q I2 r1 r2 q2
end
def MtM (X:Cx)(id:String)(r:V->`V->Hp->VK->Prop):Prop:=
 ∀(pins:`O) (s:Shared) (Z:St) (H:Hp) (x:V) (xs:`V) (v:Value) (us:List Value) (Q:VK),Inv X pins Z H s->RelV x v->Vals xs us->r x xs H Q ->
  wpAny `m X.A (call (.builtin id) (v::us)) (EP X pins Z Q) X.xe s
theorem Vals.one {x:V}{us:List Value}(h:Vals [x] us):∃u,us=[u]/\RelV x u:=by
 cases h with
 |cons r t=>cases t;exact⟨_,rfl,r⟩
theorem Vals.zero:∀{us:List Value},Vals [] us->us=[]
 |_,.nil=>rfl
theorem Vals.dropLast {xs:`V}{us:List Value}(h:Vals xs us):Vals xs.dropLast us.dropLast:=by
 induction h with
 |nil=>exact .nil
 |cons r t ih=>
  cases t with
  |nil=>exact .nil
  |cons q t'=>exact .cons r ih
theorem xp {α:Type}(l:List α):l.eraseIdx (`L - 1)=l.dropLast:=by
 induction l with
 |nil=>rfl
 |cons a r ih=>
  cases r with
  |nil=>rfl
  |cons b r=>
   have e:(a::b::r).length - 1=((b::r).length - 1)+1:=by have h1:(a::b::r).length=r.length+2:=rfl;have h2:(b::r).length=r.length+1:=rfl;lia
   rw[e,List.eraseIdx_cons_succ,ih];all_goals rfl
section
variable {X:Cx}{pins:`O}{Z:St}{H:Hp}{s:Shared}{l:Addr}{xs ys:`V}
theorem Inv.lset {its its':List Value}{n:Nat}{f:Array Value->Array Value}{t':Nat}(I:Inv X pins Z H s)(hH:H l=some (.lst xs))
  (e:s.heap.get? l=some {cls:=.type "list",data:=.seq its.toArray n}) (hf:f its.toArray=its'.toArray) (hv:Vals ys its') (hz:ys.length<=sizeLine) :
  Inv X pins Z (upd H l (.lst ys)) {s with heap:=s.heap.update l (Obj.mapSeq f),toks:=t' }:=by
 have q:=PySem.IsL.update e f;rw[hf] at q;refine I.write (x:=l) (e:=l) (by rw[hH];exact trivial) (.inl rfl) (λb' u hb hu=>(Heap.get?_update_other s.heap (Obj.mapSeq f) (Ne.symm hb)).trans hu) ⟨_,q⟩ ?_;exact⟨hz,its',_,hv,q⟩
theorem Inv.lnew {its:List Value}{t':Nat}(I:Inv X pins Z H s)(hv:Vals ys its)(hz:ys.length<=sizeLine) :
  Inv X pins Z (upd H `z (.lst ys)) {s with heap:=s.heap.push {cls:=.type "list",data:=.seq its.toArray},toks:=t' }:=
 I.laid (λ_ _ q=>Heap.get?_push_of_some _ q) `n ⟨hz,its,0,hv,Heap.get?_push_size _ rfl⟩
theorem Inv.fresh (I:Inv X pins Z H s):H `z=none:=I.hok.fresh `n
theorem Inv.lstM (I:Inv X pins Z H s)(hH:H l=some (.lst xs)):`x<=sizeLine/\∃(its:List Value) (n:Nat),Vals xs its/\`x=its.length/\s.heap.get? l=some {cls:=.type "list",data:=.seq its.toArray n}:=by obtain⟨z,its,n,r,e⟩:=I.hok l _ hH;exact⟨z,its,n,r,r.length,e⟩
end
section
variable {X:Cx}
def rAppend:V->`V->Hp->VK->Prop:=λx vs H Q=>∃l xs y,x=.ref l/\vs=[y]/\H l=some (.lst xs)/\`x < sizeLine/\Q .non (upd H l (.lst (xs++[y])))
theorem dL:MtM X "list.append" rAppend:=by intro dl s Z H x vs v us Q I rx rv h;obtain⟨l,xs,y,rfl,rfl,hH,hz,q⟩:=h;cases rx;obtain⟨u,rfl,ru⟩:=rv.one;obtain⟨z,ad,n,r,hl,e⟩:=I.lstM hH;refine call_meets F.slot_list_append ⟨_,e,rfl⟩ F.entry_list_append (F.args_list_append_2 _ _) (PySem.list_append l ad.toArray n u (by rw[size_toArray];lia)) ⟨e,?_⟩;refine⟨.non,_,I.lset (its':=ad++[u]) hH e `s (r.append (.cons ru .nil)) ?_,rfl,q⟩;rw[length_append,length_singleton];lia
def rPop:V->`V->Hp->VK->Prop:=λx vs H Q=>∃l xs y,x=.ref l/\vs=[]/\H l=some (.lst xs)/\xs[`x - 1]?=some y/\Q y (upd H l (.lst xs.dropLast))
theorem xq:MtM X "list.pop" rPop:=by
 intro dl s Z H x vs v us Q I rx rv h;obtain⟨l,xs,y,rfl,rfl,hH,hy,q⟩:=h;cases rx;have BT:=rv.zero;subst BT;obtain⟨z,ad,n,r,hl,e⟩:=I.lstM hH;obtain⟨u,hu,ru⟩:=r.get hy;have mt:ad.toArray[ad.toArray.size - 1]?=some u:=by show ad.toArray[ad.length - 1]?=some u;rw[<- Array.getElem?_toList,<- hl];exact hu
 refine call_meets F.slot_list_pop ⟨_,e,rfl⟩ F.entry_list_pop (F.args_list_pop_1 _) (MeetsSeq.list_pop_last l ad.toArray n u mt (by rw[size_toArray];lia)) ⟨e,?_⟩;refine⟨y,_,I.lset (its':=ad.dropLast) hH e ?_ r.dropLast ?_,ru,q⟩
 .show ad.toArray.eraseIdxIfInBounds (ad.toArray.size - 1)=ad.dropLast.toArray;rw[size_toArray,List.eraseIdxIfInBounds_toArray,xp]
 .rw[length_dropLast];lia
def rCat:R2:=λx y H Q=>∃l b xs zs,x=.ref l/\y=.ref b/\H l=some (.lst xs)/\H b=some (.lst zs)/\`x+zs.length<=sizeLine/\∀p,H p=none->Q (.ref p) (upd H p (.lst (xs++zs)))
theorem xr:OpR X (binaryOp .Add) rCat:=by
 intro mt s Z H x y v u Q I rx ry h;obtain⟨l,b,xs,zs,rfl,rfl,hH,hB,hz,q⟩:=h;cases rx;cases ry;obtain⟨z,dl,n,r,hl,e⟩:=I.lstM hH;obtain⟨z2,ad,n2,r2,BT,e2⟩:=I.lstM hB;refine PySem.P.add_list e e2 ?_ (by rw[size_toArray,size_toArray];lia);have ea:dl.toArray++ad.toArray=(dl++ad).toArray:=by simp
 rw[ea];exact⟨.ref _,_,I.lnew (t':=s.toks) (r.append r2) (by rw[length_append];lia),rfl,q _ I.fresh⟩
end
end L2
namespace Att
open PySem PySem.W PySem.Calls PyProof.Rows
theorem xt {P:Params}{h:Heap}:∀(ns:List Int) (vs:List Value),WellAll P h vs (ns.map WData.int)->IntsAre vs ns:=by
 intro ns;induction ns with
 |nil=>intro vs w;rw[map_nil] at w;cases w;exact .nil
 |cons n ns ih=>
  intro vs w;rw[map_cons] at w;cases w with
  |cons a b=>cases a;exact .cons _ _ (ih _ b)
theorem xu {l:OpenLaw}{n:Nat}(hn:l.most=some n){P:Params}{h:Heap}{args:List WData}{vals:List Value}
  (hpre:l.row.toRowW.claim.pre args=true) (hwl:WellAll P h vals args) :
  ∃a vs ns,vals=[Value.ref a]/\args=[WData.list (ns.map WData.int)]/\h.get? a=some {cls:=.type "list",data:=.seq vs.toArray}/\IntsAre vs ns/\ns.length<=n:=by
 have dl:WShape.hasAll [] args [.list .int]=true:=(pre_splitW hpre).1;have hc:l.pre.holds [] {args:=args}=true:=(pre_splitW hpre).2;obtain⟨d,r,rfl,h1,h2⟩:=hasAllW_cons dl;obtain rfl:=hasAllW_nil h2;obtain⟨xs,rfl,h3⟩:=hasW_list h1;obtain⟨ns,rfl⟩:=items_int h3;have ad:ns.length<=n:=by
  unfold OpenLaw.pre at hc;have h4:(WTm.not (.lt (.lit (.int (n:Int))) (.len (.arg 0)))).holds [] {args:=[.list (ns.map .int)]}=true:=by have h4:=(holds_andW hc).1;rw[hn] at h4;exact h4
  have h5:=condW_of h4 (w_not (w_lt w_lit (w_len_list (w_arg rfl))));rw[length_map] at h5;refine Nat.le_of_not_lt λq=>?_;have q':(n:Int) < ((ns.length:Nat):Int):=by lia
  first
   | (rw[decide_eq_true q'] at h5;exact absurd h5 `d)
   | (simp at h5;lia)
 cases hwl with
 |cons w1 w2=>
  cases w2;cases w1 with
  |list ho hall=>exact⟨_,_,ns,rfl,rfl,ho,xt ns _ hall,ad⟩
theorem xv (l:OpenLaw)(args:List WData):l.row.toRowW.claim.post args (.bool true) args=true:=
 postW_of (r:=l.row.toRowW) (X:=(true == true))
  (show WShape.has [] (.bool true) .bool=true by first|rfl|decide|simp[WShape.has,WShape.arms,WShape.armsAll])
  (show (WTm.eq .res (.lit (.bool true))).value [] {args:=args,res:=some (.bool true),after:=args}=some (.bool (true == true)) from w_eq_bool (w_res rfl) w_lit) rfl
theorem attach_call {l:OpenLaw}{n:Nat}{q:Program}{loose:List Str}{XP:(Str->Option Value)->Heap->Prop}{YP:World->Heap->Prop}{d:DefRec}
  (hn:l.most=some n) (hdf:d.params.defaults=[])
  (call:∀(w:World) (s₀ s₁:Shared) (mg mb:Str->Option Value) (fa:Addr) (o:Obj) (pm cd doc:Value) (a:Addr) (vs:List Value) (ns:List Int),
   Ground q loose [] XP w s₀ mg mb s₁.heap->YP w s₁.heap ->
   s₁.heap.get? fa=some o->o.data=.func (docDef d.name d.params d.body d.scope pm cd doc)->s₁.heap.CodeRec cd d.name->mg d.name=some (.ref fa) ->
   s₁.heap.get? a=some {cls:=.type "list",data:=.seq vs.toArray}->IntsAre vs ns->ns.length<=n->s₁.gens=#[] ->
   codeAny (model l.prog w) callerA (.call (.ref fa) ⟨[.ref a],[]⟩) (λr s'=>r=.ok (.ret (.bool true))/\OldK s₁.heap s'.heap/\s'.os=s₁.os/\AllBare s'.gens) s₁) :
  WalkO q loose XP YP l.row.toRowW d [] (λf vs=>PySem.call f vs):=by
 intro w s₀ s₁ mg mb G Y fa o pm cd doc dV kV ho hd GT hD Fr hg HA Cl as dl GE HB Fn HC;obtain rfl:dV=.none:=Dflts.none hD hdf;obtain rfl:kV=.none:=Dflts.noKw hD;obtain⟨a,vs,ns,rfl,rfl,mt,ad,BT⟩:=xu hn dl Fn;refine enter_call (codeAny_mono (call w s₀ s₁ mg mb fa o pm cd doc a vs ns G Y ho (fd_plain hd) GT Fr mt ad BT hg) λr s' hq=>?_);obtain⟨rfl,h2,h3,h4⟩:=hq;exact⟨.inl ⟨.bool true,.bool true,[],rfl,λ_=>rfl,.bool true,xv l _,λ_=>⟨List.Pairwise.nil,λ_ hm=>(nomatch hm)⟩⟩,h2,h3,h4⟩
noncomputable def ledger (h:Heap)(L d:Addr):`O:=(List.range h.objs.size).filterMap λa=>if a=L\/a=d then none else (h.get? a).map λo=>(a,o)
end Att
namespace L2
open PySem PySem.Spec PyProof.Rows
theorem mf:∀{vs:List Value}{ns:List Int},IntsAre vs ns->Vals (ns.map V.int) vs
 |_,_,.nil=>.nil
 |_,_,.cons n t h=>.cons ⟨t,rfl⟩ (mf h)
def Only (H:Hp):Prop:=∀b,H b=none\/∃o xs,H b=some (.frz o (.lst xs))
theorem xw {P:Program}{w:World}{K:`F}{mg mb:Str->Option Value}{CX:CXT}{k:Nat}{fa a:Addr}{fd:FuncData}{x:Str}{sp:Sp}{s₁:Shared}{vs:List Value}{ns:List Int}
  (KX:K.In s₁.heap) (hns:s₁.heap.Ns mainGlobals mg) (hb:s₁.heap.Ns builtinsNs mb) (hbb:∀x:Str,x ≠ "__name__" -> mb x=bootBuiltins x) (hlim:s₁.heap.NoLimit) (hg:s₁.gens=#[])
  (ha:s₁.heap.get? a=some {cls:=.type "list",data:=.seq vs.toArray}) (hi:IntsAre vs ns) (hl:ns.length<=sizeLine) (hr:Room k callerA)
  (F:∀base:Heap,K.In base->base.Ns mainGlobals mg->FnOk P w K mg base CX k fa fd [x] sp) (hbind:∀(s:Shared) (u:Value),BindsTo s fd ⟨[u],[]⟩ [(x,u)])
  (hsp:∀H:Hp,Only H->SqL K H a (ns.map V.int)->sp [.ref a] H (λv _=>v=.bl true) λ_ _ _=>False)
  (hCX:∀H e s',CX [] H s₁ (λ_ _ _=>False) e s'->False) :
  codeAny (model P w) callerA (.call (.ref fa) ⟨[.ref a],[]⟩) (λr s'=>r=.ok (.ret (.bool true))/\OldK s₁.heap s'.heap/\s'.os=s₁.os/\AllBare s'.gens) s₁:=by
 have rv:=mf hi;have GT:=hi.length;have dl:∀H:Hp,Only H->SqL K H a (ns.map V.int)->HOk P w H s₁.heap->(∀b,H b≠none->b=a)->(H a≠none->K.lookup a=none) ->
   codeAny (model P w) callerA (.call (.ref fa) ⟨[.ref a],[]⟩) (λr s'=>r=.ok (.ret (.bool true))/\OldK s₁.heap s'.heap/\s'.os=s₁.os/\AllBare s'.gens) s₁:=by
  intro H hO hS Fn hA hK;have ad:∀{b:Addr}{o:Obj},s₁.heap.get? b=some o->H b=none->(hidT s₁.heap H).get? b=some o:=λe n=>wV e n;have GE:∀{b:Addr}{o:Obj}{es:Array DictEntry}{ep:Nat},s₁.heap.get? b=some o->o.data=.dict es ep->H b=none:=λ{b o es ep} e d=>by
   cases q:H b with
   |none=>rfl
   |some u=>have e':b=a:=hA b (by rw[q];simp);subst e';rw[ha] at e;cases e;have d':Data.seq vs.toArray _=Data.dict es ep:=d;cases d'
  have mt:∀{b:Addr}{m:Str->Option Value},s₁.heap.Ns b m->(hidT s₁.heap H).Ns b m:=λ{b m} ⟨o,es,ep,e,d,r⟩=>⟨o,es,ep,ad e (GE e d),d,r⟩;have Fr:K.In (hidT s₁.heap H):=λb o e=>ad (KX b o e) (by
   cases q:H b with
   |none=>rfl
   |some u=>have e':b=a:=hA b (by rw[q];simp);subst e';rw[hK (by rw[q];simp)] at e;cases e)
  have hM:Mod K mg (hidT s₁.heap H):=⟨Fr,mt hns,⟨mb,mt hb,hbb⟩,let ⟨mc,h1,h2⟩:=hlim;⟨mc,mt h1,h2⟩⟩;have e0:Env0 P w K mg (hidT s₁.heap H) callerA [] s₁ H:=⟨rfl,hM,λb o e=>wW e,Nat.le_of_eq (wU _ _),trivial,λb hb=>absurd (show b∈([]:List Addr) from hb) `s,Fn,.of_eq hg⟩;refine codeAny_mono ((F _ Fr (mt hns)).run callerA [] s₁ H ⟨[.ref a],[]⟩ [.ref a] [.ref a] _ _ hr e0 (hbind s₁ (.ref a)) (.cons rfl .nil) (hsp H hO hS)) λr s' h=>?_;cases r with
  |error e=>exact (hCX H e s' h).elim
  |ok fl=>
   cases fl with
   |next=>exact False.elim h
   |brk=>exact False.elim h
   |cont=>exact False.elim h
   |ret u=>
    obtain⟨v,H',os,Cl,un,BT,r',q⟩:=h;have q':v=.bl true:=q;subst q';obtain rfl:u=Value.bool true:=r';refine⟨rfl,OldK.of_keep λb o e=>?_,os,Cl⟩;cases q:H b with
    |none=>exact un.keep b o e q (by intro z;exact absurd (show b∈([]:List Addr) from z) `s) `s
    |some u=>
     rcases hO b with z|⟨ob,xs,z⟩
     .rw[q] at z;cases z
     .have z2:=un.frzs b ob _ z;obtain⟨e1,_⟩:=Fn b _ z;obtain⟨e2,_⟩:=BT b _ z2;rw[e] at e1;cases e1;exact e2
 cases hk:K.lookup a with
 |some o=>have e:=KX a o hk;rw[ha] at e;cases e;refine dl (λ_=>none) (λ_=>.inl rfl) (.inr ⟨_,vs.toArray,_,hk,rfl,rfl,rfl,by rw[size_toArray,GT];exact hl,by simpa using rv⟩) (λb u z=>by have z':(none:Option HO)=some u:=z;cases z') (λb z=>absurd rfl z) λz=>absurd rfl z
 |none=>
  refine dl (λb=>if b=a then some (.frz {cls:=.type "list",data:=.seq vs.toArray} (.lst (ns.map V.int))) else none) (λb=>?_) (.inl (.inr ⟨{cls:=.type "list",data:=.seq vs.toArray},if_pos rfl⟩)) (λb u z=>?_) (λb z=>?_) λ_=>hk
  .by_cases hb:b=a
   .exact .inr ⟨_,_,if_pos hb⟩
   .exact .inl (if_neg hb)
  .by_cases hb:b=a
   .have z':=(if_pos hb).symm.trans z;cases z';subst hb;exact⟨ha,by rw[length_map];exact hl,vs,_,rv,ha⟩
   .have z':=(if_neg hb).symm.trans z;cases z'
  .by_cases hb:b=a
   .exact hb
   .exact absurd (if_neg hb) z
noncomputable abbrev KOf {K:`F}{h:Heap}(_:K.In h):`F:=K
theorem xx {l:PySem.W.OpenLaw}{n k:Nat}{q:Program}{loose:List Str}{XP:(Str->Option Value)->Heap->Prop}{YP:World->Heap->Prop}{d:DefRec}{K:Params->`F}{CX:World->CXT}{sp:World->Sp}{x:Str}
  (hn:l.most=some n) (hn2:n<=sizeLine) (hdf:d.params.defaults=[]) (hr:Room k callerA)
  (hY:∀(w:World) (h:Heap),YP w h->(K w.params).In h)
  (F:∀(w:World) (mg:Str->Option Value) (fa:Addr) (h:Heap),(K w.params).In h->h.Ns mainGlobals mg->mg d.name=some (.ref fa) ->
   ∃fd:FuncData,(∀(s:Shared) (u:Value),BindsTo s fd ⟨[u],[]⟩ [(x,u)])/\
    ∀base:Heap,(K w.params).In base->base.Ns mainGlobals mg->FnOk l.prog w (K w.params) mg base (CX w) k fa fd [x] (sp w))
  (hsp:∀(w:World) (H:Hp) (a:Addr) (ns:List Int),ns.length<=n->Only H->SqL (K w.params) H a (ns.map V.int)->sp w [.ref a] H (λv _=>v=.bl true) λ_ _ _=>False)
  (hCX:∀(w:World) (H:Hp) (s:Shared) (e:Value) (s':Shared),CX w [] H s (λ_ _ _=>False) e s'->False) :
  PySem.W.WalkO q loose XP YP l.row.toRowW d [] (λf vs=>PySem.call f vs):=by
 refine Att.attach_call hn hdf λw s₀ s₁ mg mb fa o pm cd Fn a vs ns G Y ho hd Cl BT mt dl ad hg=>?_;have KX:=hY w _ Y;obtain⟨fd,hb,hF⟩:=F w mg fa _ KX G.T.g BT;exact xw KX G.T.g G.T.b G.T.builtins G.T.nolimit hg mt dl (Nat.le_trans ad hn2) hr hF hb (λH hO hS=>hsp w H a ns ad hO hS) λH e s'=>hCX w H s₁ e s'
noncomputable def inClass (s:Stmt)(j:Nat):Stmt:=match s with
 |.ClassDef _ _ _ body _ _ _ _ _ _ _=>body.getD j (.Pass ⟨0,0,0,0⟩)
 |_=>.Pass ⟨0,0,0,0⟩
noncomputable def defArgs (s:Stmt):Arguments:=match s with
 |.FunctionDef _ a _ _ _ _ _ _ _ _=>a
 |_=>{ posonlyargs:=[],args:=[],vararg:=none,kwonlyargs:=[],kw_defaults:=[],kwarg:=none,defaults:=[]}
noncomputable def defBody (s:Stmt):List Stmt:=match s with
 |.FunctionDef _ _ b _ _ _ _ _ _ _=>b
 |_=>[]
noncomputable def defScope (s:Stmt):Scope:=match s with
 |.FunctionDef _ _ _ _ _ _ sc _ _ _=>sc
 |_=>{ kind:=.function,names:=[],isGenerator:=false,isCoroutine:=false}
noncomputable abbrev CX0:CXT:=λ_ _ _ _ _ _=>False
abbrev E0:XK:=λ_ _ _=>False
theorem pass0 {X:Cx}:Passes CX0 X E0:=λ_ _ _ _ _ _ _ h=>h.elim
structure Fun (K:`F)(x qual:Str)(st:Stmt)(f:Addr)(fd:FuncData):Prop where
 ex:∃(oc:Value) (od:Option Addr) (kV doc pm:Value) (an:Option Addr) (cdv ct:Value) (osl:Array (Option Value)),
  fd=PySem.W.fnOf x qual (defArgs st) (defBody st) (defScope st) .none kV doc pm an cdv ct/\K.lookup f=some ⟨oc,od,.func fd,osl⟩/\PySem.W.codeIn K cdv qual=true
 kp:PySem.W.keepIn K (.ref f)=true
section
variable {P:Program}{w:World}{K:`F}{mg:Str->Option Value}{base:Heap}
theorem Fun.ok {x qual:Str}{st:Stmt}{f:Addr}{fd:FuncData}{N ps:List Str}{k:Nat}{sp:Sp}(F:Fun K x qual st f fd)(S:FnScope N ps (defScope st))(len:∀vs H Q E,sp vs H Q E->vs.length=ps.length)
  (hbody:∀(cdv:Value) (A:Around) (outer:List Env) (s:Shared) (H:Hp) (vs:`V) (Q:VK) (E:XK),Room k (A.deeper (envOfC qual (defScope st) `z f cdv))->sp vs H Q E ->
   ∃t,PSs (cxOf CX0 P w K mg base N qual (defScope st) f cdv A outer s H E).nox (defBody st) t/\t {nx:=λ_ H'=>Q .non H',rt:=Q} (start N vs) H):FnOk P w K mg base CX0 (k+1) f fd ps sp:=by
 obtain⟨oc,od,kV,doc,pm,an,cdv,ct,osl,rfl,lk,hcd⟩:=F.ex;refine gR lk hcd S len λA outer s H vs Q E hr hsp=>?_;obtain⟨t,h,q⟩:=hbody cdv A outer s H vs Q E hr hsp;exact⟨t,h.nox,q⟩
theorem Fun.binds {x qual:Str}{st:Stmt}{f:Addr}{fd:FuncData}{ps:List Str}(F:Fun K x qual st f fd)
  (h:∀(kV doc pm:Value) (an:Option Addr) (cdv ct:Value) (us:List Value),us.length=ps.length->bindArgs (PySem.W.fnOf x qual (defArgs st) (defBody st) (defScope st) .none kV doc pm an cdv ct) ⟨us,[]⟩=pure (ps.zip us)):Binds K fd ps []:=by
 obtain⟨oc,od,kV,doc,pm,an,cdv,ct,osl,rfl,lk,hcd⟩:=F.ex;exact .all (h kV doc pm an cdv ct)
theorem bL {x qual:Str}{st:Stmt}{f:Addr}{oc:Value}{od an:Option Addr}{osl:Array (Option Value)}{kV doc pm cdv ct:Value}(l:K.lookup f=some ⟨oc,od,.func (PySem.W.fnOf x qual (defArgs st) (defBody st) (defScope st) .none kV doc pm an cdv ct),osl⟩)
  (c:PySem.W.codeIn K cdv qual=true) (k:PySem.W.keepIn K (.ref f)=true):Fun K x qual st f (PySem.W.fnOf x qual (defArgs st) (defBody st) (defScope st) .none kV doc pm an cdv ct):=⟨⟨oc,od,kV,doc,pm,an,cdv,ct,osl,rfl,l,c⟩,k⟩
end
section
variable {X:Cx}
theorem pv (i:Nat){x:Str}{pos:Pos}(hN:X.N[i]?=some x:=by rfl)(hv:Vis X.env.scope x:=by first|exact Or.inl rfl|exact Or.inr (Or.inl rfl)|exact Or.inr (Or.inr rfl))(hd:(x == ("__debug__" : Str))=false:=by decide)
  (hcd:(x == ("__classdict__" : Str))=false:=by decide):PE X (.Name x pos) (tVar i):=lu hN hv hd hcd
end
theorem ite2 {c A B:Prop}[Decidable c](h1:c->A)(h2:¬ c->B):if c then A else B:=by
 by_cases h:c
 .rw[if_pos h];exact h1 h
 .rw[if_neg h];exact h2 h
def Same (H H':Hp):Prop:=∀b o,H b=some o->H' b=some o
theorem Same.refl (H:Hp):Same H H:=λ_ _ h=>h
theorem Same.trans {H H1 H2:Hp}(a:Same H H1)(b:Same H1 H2):Same H H2:=λc o h=>b c o (a c o h)
theorem Same.seq {K:`F}{H H':Hp}{a:Addr}{xs:`V}(e:Same H H')(h:SqL K H a xs):SqL K H' a xs:=by
 rcases h with (h|⟨o,h⟩)|h
 .exact .inl (.inl (e _ _ h))
 .exact .inl (.inr ⟨o,e _ _ h⟩)
 .exact .inr h
end L2
set_option maxHeartbeats 4000000
namespace L2
open PySem PySem.Spec PyProof.Rows
noncomputable def Its (z:Str):It:=⟨λi _=>i < z.length,λi H x H'=>H'=H/\∃c,z.cps.toList[i]?=some c/\x=.str ⟨#[c]⟩,λi _=>z.length<=i⟩
theorem mh {z:Str}{i:Nat}(h:i < z.length):∃c,z.cps[i]?=some c/\z.cps.toList[i]?=some c:=by have h':i < z.cps.size:=h;exact⟨z.cps[i],by simp[h'],by simp[h']⟩
theorem mi {z:Str}{i:Nat}(h:z.length<=i):z.cps[i]?=none:=by have h':z.cps.size<=i:=h;simp[h']
theorem xy {P:Program}{w:World}{K:`F}{tg:Expr}(it:Addr)(z:Str)(t:Tok):Turn P w K tg (Its z) [it] it (λi h=>h.IsStrIter it "str_ascii_iterator" z t i) where
 mem:=by simp
 obj:=λi h st b hb=>by
  have e:b=it:=by simpa using hb
  subst e;obtain⟨o,e,c,d⟩:=st;exact⟨o,e,λv z=>by rw[d] at z;cases z⟩
 keep:=λi h h' st k=>by obtain⟨o,e,r⟩:=st;exact⟨o,k it `s o e,r⟩
 item:=by intro X hP hw hK hc i ad s Z H E I hf st hg;subst hP hw hK;obtain⟨c,h1,h2⟩:=mh (z:=z) (i:=i) hg;obtain⟨f0,f1,f2,f3,f4,f5⟩:=hf it `s;refine wpAny_pyNext_ascii_item st h1 λh' dl sb=>?_;have I1:Inv X ad Z H {s with heap:=h',toks:=s.toks+1}:=I.turned (t':=s.toks+1) (λb o hb e=>(sb.2 b hb).trans e) f0 f1 f3 f4 f5;obtain⟨o,e,cl,d⟩:=id dl;exact⟨_,rfl,ei (s:={ s with heap:=h',toks:=s.toks+1}) e cl d `d ⟨.str ⟨#[c]⟩,H,I1,`o,⟨rfl,c,h2,rfl⟩,dl,λb hb=>(hf b hb).1⟩⟩
 done:=by intro X hP hw hK hc i ad s Z H E I hf st hg;subst hP hw hK;obtain⟨f0,f1,f2,f3,f4,f5⟩:=hf it `s;exact wpAny_pyNext_ascii_end (I.ok.hd hc) st (mi hg) λh' eb=>⟨rfl,I.turned (t':=s.toks) (λb o hb e=>eb b o hb e) f0 f1 f3 f4 f5⟩
 self:=λ_ _ _ _ _ st h=>wpAny_pyIter_striter_ascii st h
theorem xz {P:Program}{w:World}{K:`F}{tg:Expr}(it:Addr)(z:Str)(t:Tok):Turn P w K tg (Its z) [it] it (λi h=>h.IsStrIter it "str_iterator" z t i) where
 mem:=by simp
 obj:=λi h st b hb=>by
  have e:b=it:=by simpa using hb
  subst e;obtain⟨o,e,c,d⟩:=st;exact⟨o,e,λv z=>by rw[d] at z;cases z⟩
 keep:=λi h h' st k=>by obtain⟨o,e,r⟩:=st;exact⟨o,k it `s o e,r⟩
 item:=by intro X hP hw hK hc i ad s Z H E I hf st hg;subst hP hw hK;obtain⟨c,h1,h2⟩:=mh (z:=z) (i:=i) hg;obtain⟨f0,f1,f2,f3,f4,f5⟩:=hf it `s;refine wpAny_pyNext_wide_item st h1 λh' dl sb=>?_;have I1:Inv X ad Z H {s with heap:=h',toks:=s.toks+1}:=I.turned (t':=s.toks+1) (λb o hb e=>(sb.2 b hb).trans e) f0 f1 f3 f4 f5;obtain⟨o,e,cl,d⟩:=id dl;exact⟨_,rfl,ei (s:={ s with heap:=h',toks:=s.toks+1}) e cl d `d ⟨.str ⟨#[c]⟩,H,I1,`o,⟨rfl,c,h2,rfl⟩,dl,λb hb=>(hf b hb).1⟩⟩
 done:=by intro X hP hw hK hc i ad s Z H E I hf st hg;subst hP hw hK;obtain⟨f0,f1,f2,f3,f4,f5⟩:=hf it `s;exact wpAny_pyNext_wide_end (I.ok.hd hc) st (mi hg) λh' eb=>⟨rfl,I.turned (t':=s.toks) (λb o hb e=>eb b o hb e) f0 f1 f3 f4 f5⟩
 self:=λ_ _ _ _ _ st h=>wpAny_pyIter_striter_wide st h
section
variable {X:Cx}{tg:Expr}
def iStr (tl:TE):TI:=λZ H R=>tl Z H λx H1=>∃z,x=.str z/\R (Its z) H1
theorem jR {l:Expr}{tl:TE}(hl:PE X l tl):PI X tg l (iStr tl):=by
 intro ad s Z H R I h;refine thn (hl ad s Z H _ I h) λv s1 W'=>?_;obtain⟨x,H1,I1,r1,q1⟩:=W';obtain⟨z,rfl,q⟩:=q1;obtain⟨t,rfl⟩:=r1;have fp:∀b∈[`y],FpOk X ad H1 b:=λb hb=>by
  have e:b=`y:=by simpa using hb
  subst e;exact I1.fpOk `n (I1.hok.fresh `n)
 cases ha:z.cps.all (· < 128)
 .refine wpAny_pyIter_wide ha ?_;exact⟨`y,[`y],_,_,H1,rfl,I1.kept (t':=s1.toks) λb o e=>Heap.get?_push_of_some _ e,xz _ z t,⟨_,Heap.get?_push_size _ rfl,rfl,rfl⟩,fp,q⟩
 .refine wpAny_pyIter_ascii ha ?_;exact⟨`y,[`y],_,_,H1,rfl,I1.kept (t':=s1.toks) λb o e=>Heap.get?_push_of_some _ e,xy _ z t,⟨_,Heap.get?_push_size _ rfl,rfl,rfl⟩,fp,q⟩
end
section
variable {X:Cx}
def rSlS:V->Option Int->Option Int->Hp->VK->Prop:=λx lo hi H Q=>∃z,x=.str z/\z.length<=sizeLine/\Q (.str (Txt.slice z lo hi)) H
theorem y0:SlR X rSlS:=by
 intro ad s Z H x v vl vu lo hi sl Q I rx hs pl pu h;obtain⟨z,rfl,hz,q⟩:=h;obtain⟨t,rfl⟩:=rx;refine⟨"str",_,F.slot_str_getitem.lookup,typeIs_str _ _ _,?_⟩;obtain⟨o,ho,hc,hd⟩:=hs;cases pl with
 |none=>
  cases pu with
  |none=>exact wpAny_getItem_str_slice (l:=none) (u:=none) (st:=none) ⟨o,ho,hc,hd⟩ rfl (post_val_or_str ⟨Nat.le_trans (Txt.slice_le z none none) hz,λt' k=>⟨.str (Txt.slice z none none),H,I.tok k,⟨t',rfl⟩,q⟩⟩)
  |int j uj=>exact wpAny_getItem_str_slice (l:=none) (u:=some (j,uj)) (st:=none) ⟨o,ho,hc,hd⟩ rfl (post_val_or_str ⟨Nat.le_trans (Txt.slice_le z none (some j)) hz,λt' k=>⟨.str (Txt.slice z none (some j)),H,I.tok k,⟨t',rfl⟩,q⟩⟩)
 |int i ui=>
  cases pu with
  |none=>exact wpAny_getItem_str_slice (l:=some (i,ui)) (u:=none) (st:=none) ⟨o,ho,hc,hd⟩ rfl (post_val_or_str ⟨Nat.le_trans (Txt.slice_le z (some i) none) hz,λt' k=>⟨.str (Txt.slice z (some i) none),H,I.tok k,⟨t',rfl⟩,q⟩⟩)
  |int j uj=>exact wpAny_getItem_str_slice (l:=some (i,ui)) (u:=some (j,uj)) (st:=none) ⟨o,ho,hc,hd⟩ rfl (post_val_or_str ⟨Nat.le_trans (Txt.slice_le z (some i) (some j)) hz,λt' k=>⟨.str (Txt.slice z (some i) (some j)),H,I.tok k,⟨t',rfl⟩,q⟩⟩)
def rSl (K:`F):V->Option Int->Option Int->Hp->VK->Prop:=λx lo hi H Q=>rSlL K x lo hi H Q\/rSlS x lo hi H Q
theorem y6:SlR X (rSl X.K):=mY.or y0
def rIndex:V->`V->Hp->VK->Prop:=λx vs H Q=>match x,vs with
 |.str z,[.str y]=>∃i r,Builtin.Str.occurrences z y 0 z.length 1=i::r/\Q (.int (i:Nat)) H
 |_,_=>False
theorem y8 {z y:Str}{H:Hp}{Q:VK}:(rIndex (.str z) [.str y] H Q)=(∃i r,Builtin.Str.occurrences z y 0 z.length 1=i::r/\Q (.int (i:Nat)) H):=rfl
theorem y9:MtR X "str.index" rIndex:=by
 intro pins s Z H x vs v us Q I rx rv h;unfold rIndex at h;split at h
 rotate_left
 .exact h.elim
 rename_i z y;obtain⟨i,r,ho,q⟩:=h;obtain⟨t,rfl⟩:=rx;obtain⟨u,rfl,t',rfl⟩:=vals1 rv;exact SC.index ho ⟨.int (i:Nat),H,I.tok _,`o,q⟩
theorem notTooLong {n:Nat}(h:n<=1000000):Builtin.Str.tooLong n=false:=by unfold Builtin.Str.tooLong;rw[sizeLine_eq];exact decide_eq_false `l
def rUpper:V->`V->Hp->VK->Prop:=λx vs H Q=>match x,vs with
 |.str z,[]=>(∀c∈z.cps.toList,c < 128)/\z.length<=1000000/\Q (.str ⟨z.cps.map up1⟩) H
 |_,_=>False
def rLower:V->`V->Hp->VK->Prop:=λx vs H Q=>match x,vs with
 |.str z,[]=>(∀c∈z.cps.toList,c < 128)/\z.length<=1000000/\Q (.str ⟨z.cps.map lo1⟩) H
 |_,_=>False
theorem yA {z:Str}{H:Hp}{Q:VK}:(rLower (.str z) [] H Q)=((∀c∈z.cps.toList,c < 128)/\z.length<=1000000/\Q (.str ⟨z.cps.map lo1⟩) H):=rfl
theorem mj:MtR X "str.lower" rLower:=by
 intro ad s Z H x vs v us Q I rx rv h;unfold rLower at h;split at h
 rotate_left
 .exact h.elim
 rename_i z;obtain⟨ha,hz,q⟩:=h;obtain⟨t,rfl⟩:=rx;cases rv;have e:=lower_ascii ha;refine SC.lower ?_ ⟨.str ⟨z.cps.map lo1⟩,H,I.tok _,⟨_,by rw[e]⟩,q⟩;rw[e];exact notTooLong (by show (z.cps.map lo1).size<=_;rw[Array.size_map];exact hz)
theorem yB {ys:List Str}:∀{us:List Value},Vals (ys.map V.str) us->StrsAre us ys:=by
 induction ys with
 |nil=>intro us r;rw[map_nil] at r;cases r;exact .nil
 |cons y ys ih=>
  intro us r;rw[map_cons] at r;cases r with
  |cons r1 r2=>obtain⟨t,e⟩:=r1;subst e;exact .cons y t (ih r2)
def rJoin (K:`F):V->`V->Hp->VK->Prop:=λx vs H Q=>∃z p ys,x=.str z/\vs=[.ref p]/\SqL K H p (ys.map V.str)/\(ys.map (·.length)).sum+ys.length * z.length<=16777216/\Q (.str (Txt.join z ys)) H
theorem yC:MtR X "str.join" (rJoin X.K):=by intro pins s Z H x vs v us Q I rx rv h;obtain⟨z,p,ys,rfl,rfl,hq,hz,q⟩:=h;obtain⟨t,rfl⟩:=rx;obtain⟨u,rfl,ru⟩:=vals1 rv;cases ru;obtain⟨its,r,pl,hl⟩:=I.list hq;exact join_list pl.isList (by simpa using yB r) hz λt' k=>⟨.str (Txt.join z ys),H,I.tok k,⟨t',rfl⟩,q⟩
def rIsi (K:`F):`V->Hp->VK->Prop:=λvs H Q=>∃x T t b,vs=[x,.ty T]/\TyOf K H x t/\PySem.W.kitOne K t (.type T)=some b/\Q (.bl b) H
theorem gS:CallR X (.builtin "isinstance") (rIsi X.K):=by intro pins s Z H xs us Q I r h;obtain⟨x,T,t,b,rfl,ty,e,q⟩:=h;obtain⟨u,v,rfl,ru,rv⟩:=vals2 r;cases (show v=Value.type T from rv);exact xQ I ru ty e λtk=>⟨.bl b,H,I.tok tk,rfl,q⟩
def rCatD:R2:=λx y H Q=>∃a b xs ys,x=.ref a/\y=.ref b/\H a=some (.tup xs)/\H b=some (.tup ys)/\`x+ys.length<=sizeLine/\∀p H',Same H H'->H' p=some (.tup (xs++ys))->Q (.ref p) H'
theorem yD:OpR X (binaryOp .Add) rCatD:=by
 intro ad s Z H x y v u Q I rx ry h;obtain⟨a,b,xs,ys,rfl,rfl,ha,hb,hz,q⟩:=h;by_cases hx:xs=[]
 .subst hx;cases rx;cases ry;obtain⟨HB,r1,p1,_⟩:=I.tuple (SqT.of ha);obtain⟨dl,r2,p2,_⟩:=I.tuple (SqT.of hb);cases r1;obtain⟨⟨cls,dd,GT,sl⟩,ho,hc,n,hd⟩:=id p1;obtain⟨⟨HA,GE,Fn,Fr⟩,mt,Cl,n2,BT⟩:=id p2;simp only at hc hd Cl BT;subst hc hd Cl BT;exact concat_meets ⟨_,ho,rfl⟩ ⟨_,mt,rfl⟩ noFill_tuple_add seq_tuple_add PySem.F.slot_tuple_add PySem.F.entry_tuple_add (PySem.F.args_tuple_add_2 _ _)
   (tuple_addW0 a b ([]:List Value).toArray dl.toArray n n2 dd GE sl Fr rfl) ⟨ho,mt,⟨.ref b,H,I,rfl,q b H `r hb⟩⟩
 .refine mW ad s Z H _ _ v u Q I rx ry ⟨a,b,xs,ys,rfl,rfl,SqT.of ha,SqT.of hb,hx,hz,λe=>q a H `r (by rw[e,append_nil];exact ha),λ_ p hp=>q p _ (λb o e=>by rw[aD (aJ e hp)];exact e) aE⟩
def rAddU (K:`F):R2:=λx y H Q=>match x,y with
 |.int i,.int j=>Q (.int (i+j)) H
 |.str i,.str j=>i.length+j.length<=sizeLine/\Q (.str (i++j)) H
 |.ref a,.ref b=>(∃xs zs,H a=some (.lst xs)/\H b=some (.lst zs)/\`x+zs.length<=sizeLine/\∀p,H p=none->Q (.ref p) (upd H p (.lst (xs++zs))))\/
   (∃xs ys,H a=some (.tup xs)/\H b=some (.tup ys)/\`x+ys.length<=sizeLine/\∀p H',Same H H'->H' p=some (.tup (xs++ys))->Q (.ref p) H')
 |_,_=>False
theorem ml:OpR X (binaryOp .Add) (rAddU X.K):=by
 intro ad s Z H x y v u Q I rx ry h;cases x with
 |int i=>
  cases y with
  |int j=>exact wt ad s Z H _ _ v u Q I rx ry h
  |_=>exact h.elim
 |str i=>
  cases y with
  |str j=>exact xD ad s Z H _ _ v u Q I rx ry ⟨i,j,rfl,rfl,h.1,h.2⟩
  |_=>exact h.elim
 |ref a=>
  cases y with
  |ref b=>
   rcases h with⟨xs,zs,h1,h2,h3,h4⟩|⟨xs,ys,h1,h2,h3,h4⟩
   .exact xr ad s Z H _ _ v u Q I rx ry ⟨a,b,xs,zs,rfl,rfl,h1,h2,h3,h4⟩
   .exact yD ad s Z H _ _ v u Q I rx ry ⟨a,b,xs,ys,rfl,rfl,h1,h2,h3,h4⟩
  |_=>exact h.elim
 |_=>exact h.elim
theorem yE {K:`F}{i j:Int}{H:Hp}{Q:VK}:(rAddU K (.int i) (.int j) H Q)=(Q (.int (i+j)) H):=rfl
theorem yF {K:`F}{i j:Str}{H:Hp}{Q:VK}:(rAddU K (.str i) (.str j) H Q)=(i.length+j.length<=sizeLine/\Q (.str (i++j)) H):=rfl
end
section
variable {X:Cx}
def rMulU:R2:=λx y H Q=>match x,y with
 |.int i,.int j=>CMul i j/\Q (.int (i * j)) H
 |.str z,.int k=>MulOk z k/\Q (.str (Txt.mul z k)) H
 |_,_=>False
theorem mn:OpR X (binaryOp .Mult) rMulU:=by
 intro ad s Z H x y v u Q I rx ry h;cases x with
 |int i=>
  cases y with
  |int j=>exact wv ad s Z H _ _ v u Q I rx ry h
  |_=>exact h.elim
 |str z=>
  cases y with
  |int k=>obtain⟨t,rfl⟩:=rx;obtain⟨t',rfl⟩:=ry;exact SB.mul h.1 λt' k'=>⟨.str (Txt.mul z k),H,I.tok k',⟨t',rfl⟩,h.2⟩
  |_=>exact h.elim
 |_=>exact h.elim
theorem yG {i j:Int}{H:Hp}{Q:VK}:(rMulU (.int i) (.int j) H Q)=(CMul i j/\Q (.int (i * j)) H):=rfl
def rLenU (K:`F):`V->Hp->VK->Prop:=λxs H Q=>match xs with
 |[.str z]=>z.length<=sizeLine/\Q (.int z.length) H
 |[.ref p]=>∃ys,(SqL K H p ys\/SqT K H p ys)/\Q (.int ys.length) H
 |_=>False
theorem yH:CallR X (.builtin "len") (rLenU X.K):=by
 intro pins s Z H xs us Q I r h;unfold rLenU at h;split at h
 .exact xl pins s Z H _ us Q I r ⟨_,rfl,h.1,h.2⟩
 .obtain⟨ys,h1,h2⟩:=h;exact xk pins s Z H _ us Q I r ⟨_,ys,rfl,h1,h2⟩
 .exact h.elim
theorem yI {K:`F}{z:Str}{H:Hp}{Q:VK}:(rLenU K [.str z] H Q)=(z.length<=sizeLine/\Q (.int z.length) H):=rfl
theorem yJ {K:`F}{p:Addr}{H:Hp}{Q:VK}:(rLenU K [.ref p] H Q)=(∃ys,(SqL K H p ys\/SqT K H p ys)/\Q (.int ys.length) H):=rfl
def rOrdU:`V->Hp->VK->Prop:=λxs H Q=>match xs with
 |[.str z]=>z.length=1/\Q (.int (z.cps.getD 0 0:Nat)) H
 |_=>False
theorem yK:CallR X (.builtin "ord") rOrdU:=by
 intro pins s Z H xs us Q I r h;unfold rOrdU at h;split at h
 .exact xG pins s Z H _ us Q I r ⟨_,rfl,h.1,h.2⟩
 .exact h.elim
theorem yL {c:Nat}{H:Hp}{Q:VK}:rOrdU [.str ⟨#[c]⟩] H Q↔Q (.int (c:Nat)) H:=⟨λh=>h.2,λh=>⟨rfl,h⟩⟩
theorem gU:bootBuiltins "int"=some (.type "int"):=`k
theorem jS:bootBuiltins "str"=some (.type "str"):=`k
theorem gV:bootBuiltins "tuple"=some (.type "tuple"):=`k
theorem bX:bootBuiltins "isinstance"=some (.builtin "isinstance"):=`k
def rIntU:`V->Hp->VK->Prop:=λxs H Q=>match xs with
 |[.int i]=>Q (.int i) H
 |[.bl k]=>Q (.int (if k then 1 else 0)) H
 |_=>False
theorem mq:CallR X (.type "int") rIntU:=by
 intro pins s Z H xs us Q I r h;unfold rIntU at h;split at h
 .exact mF pins s Z H _ us Q I r (.inl ⟨_,rfl,h⟩)
 .exact mF pins s Z H _ us Q I r (.inr ⟨_,rfl,h⟩)
 .exact h.elim
theorem yM {k:Bool}{H:Hp}{Q:VK}:(rIntU [.bl k] H Q)=(Q (.int (if k then 1 else 0)) H):=rfl
def rInU:R2:=λx y H Q=>match x,y with
 |.str i,.str j=>Q (.bl (!(Builtin.Str.occurrences j i 0 j.length 1).isEmpty)) H
 |_,_=>False
theorem jT:OpR X (compareOp .In) rInU:=by
 intro pins s Z H x y v u Q I rx ry h;cases x with
 |str i=>
  cases y with
  |str j=>exact x9 pins s Z H _ _ v u Q I rx ry ⟨i,j,rfl,rfl,h⟩
  |_=>exact h.elim
 |_=>exact h.elim
theorem yN {c:Nat}{j:Str}{H:Hp}{Q:VK}:rInU (.str ⟨#[c]⟩) (.str j) H Q↔Q (.bl (decide (c∈j.cps.toList))) H:=by show Q (.bl (!(Builtin.Str.occurrences j ⟨#[c]⟩ 0 j.length 1).isEmpty)) H↔_;rw[StrLaws.found_one]
def rIsN (neg:Bool):R2:=λx y H Q=>y=.non/\Q (.bl (if neg then !decide (x=.non) else decide (x=.non))) H
theorem f8:OpR X (compareOp .Is) (rIsN false):=λpins s Z H x y v u Q I rx ry h=>xA pins s Z H x y v u Q I rx ry h
theorem mr:OpR X (compareOp .IsNot) (rIsN true):=λpins s Z H x y v u Q I rx ry h=>xB pins s Z H x y v u Q I rx ry h
theorem yO {x:V}{H:Hp}{Q:VK}:rIsN false x .non H Q↔Q (.bl (decide (x=.non))) H:=⟨λh=>h.2,λh=>⟨rfl,h⟩⟩
theorem yP {x:V}{H:Hp}{Q:VK}:rIsN true x .non H Q↔Q (.bl (!decide (x=.non))) H:=⟨λh=>h.2,λh=>⟨rfl,h⟩⟩
noncomputable def kindV (x:V)(H:Hp):Option String:=match x with
 |.non=>some "NoneType"
 |.bl _=>some "bool"
 |.int _=>some "int"
 |.str _=>some "str"
 |.ref a=>match H a with
  |some (.lst _)=>some "list"
  |some (.tup _)=>some "tuple"
  |some (.dK _)=>some "dict"
  |_=>none
 |_=>none
noncomputable def subT (a b:String):Bool:=a == b || (a == "bool" && b == "int")
theorem bg (K:`F):∀a∈["NoneType","bool","int","str","list","tuple","dict"],∀b∈["bool","int","str","list","tuple"],PySem.W.kitOne K (.type a) (.type b)=some (subT a b):=by intro a ha b hb;simp only[mem_cons,not_mem_nil,or_false] at ha hb;rcases ha with rfl|rfl|rfl|rfl|rfl|rfl|rfl <;> rcases hb with rfl|rfl|rfl|rfl|rfl <;> with_unfolding_all kernel_rfl
def rIsiU:`V->Hp->VK->Prop:=λvs H Q=>match vs with
 |[x,.ty T]=>∃k,kindV x H=some k/\T∈["bool","int","str","list","tuple"]/\Q (.bl (subT k T)) H
 |_=>False
theorem ms:CallR X (.builtin "isinstance") rIsiU:=by
 intro ad s Z H xs us Q I r h;unfold rIsiU at h;split at h
 .rename_i x T;obtain⟨k,hk,hT,q⟩:=h;have dl:TyOf X.K H x (.type k)/\k∈["NoneType","bool","int","str","list","tuple","dict"]:=by
   unfold kindV at hk;split at hk
   .cases hk;exact⟨.non,`d⟩
   .cases hk;exact⟨.bl _,`d⟩
   .cases hk;exact⟨.int _,`d⟩
   .cases hk;exact⟨.str _,`d⟩
   .split at hk
    .rename_i e;cases hk;exact⟨.lst e,`d⟩
    .rename_i e;cases hk;exact⟨.tup e,`d⟩
    .rename_i e;cases hk;exact⟨.dK e,`d⟩
    .cases hk
   .cases hk
  exact gS ad s Z H _ us Q I r ⟨x,T,.type k,subT k T,rfl,dl.1,bg X.K k dl.2 T hT,q⟩
 .exact h.elim
end
section
variable {Z:St}{H:Hp}{Q:VK}{D:Ends}{K:`F}{ta tb te:TE}{tt tu:TT}{t u:TS}{aa:TA}{v x y:V}{r r':R2}
theorem yQ {i:Nat}:(tVar i Z H Q)=(look i Z λv=>Q v H):=rfl
theorem rd_C:(tC v Z H Q)=(Q v H):=rfl
theorem jU:(tSeq t u D Z H)=(t {D with nx:=u D} Z H):=rfl
theorem yR {g:TG}:(tAsg te g D Z H)=(te Z H λx H1=>g x Z H1 D.nx):=rfl
def putS (i:Nat)(v:V)(Z:St)(k:St->Prop):Prop:=k (Z.set i (some v))
theorem yS {o:Option V}{k:St->Prop}:putS 0 v (o::Z) k=k (some v::Z):=rfl
theorem yT {i:Nat}{o:Option V}{k:St->Prop}:putS (i+1) v (o::Z) k=putS i v Z λl=>k (o::l):=rfl
theorem yU {i:Nat}{R:St->Hp->Prop}:(gName i v Z H R)=(putS i v Z λl=>R l H):=rfl
theorem yV {b:Bool}{p:Bool->Prop}:(∃k,V.bl b=V.bl k/\p k)=p b:=propext ⟨λ⟨_,e,h⟩=>by cases e;exact h,λh=>⟨_,rfl,h⟩⟩
theorem yW:(tIfS tt t u D Z H)=(tt Z H λb H1=>if b=true then t D Z H1 else u D Z H1):=rfl
theorem yX:(tNext D Z H)=(D.nx Z H):=rfl
theorem yY:(tRet te D Z H)=(te Z H D.rt):=rfl
theorem yZ:(tDrop te D Z H)=(te Z H λ_ H1=>D.nx Z H1):=rfl
theorem ya:(tOp r ta tb Z H Q)=(ta Z H λx H1=>tb Z H1 λy H2=>r x y H2 Q):=rfl
theorem yb {R:Bool->Hp->Prop}:(tTest te Z H R)=(te Z H λx H'=>∃k,x=.bl k/\R k H'):=rfl
theorem rd_B {R:Bool->Hp->Prop}:(tB te Z H R)=(te Z H λx H'=>∃k,x=.bl k/\R k H'):=rfl
theorem yc {R:Bool->Hp->Prop}:(tAnd tt tu Z H R)=(tt Z H λc H1=>if c=true then tu Z H1 R else R false H1):=rfl
theorem yd {R:Bool->Hp->Prop}:(tOr tt tu Z H R)=(tt Z H λc H1=>if c=true then R true H1 else tu Z H1 R):=rfl
theorem ye {R:Bool->Hp->Prop}:(tNot tt Z H R)=(tt Z H λc H1=>R (!c) H1):=rfl
theorem yf:(tAndV ta tb Z H Q)=(ta Z H λx H1=>∃c,x=.bl c/\if c=true then tb Z H1 Q else Q (.bl false) H1):=rfl
theorem yg:(tOrV ta tb Z H Q)=(ta Z H λx H1=>∃c,x=.bl c/\if c=true then Q (.bl true) H1 else tb Z H1 Q):=rfl
theorem yh:(tNotV ta Z H Q)=(ta Z H λx H1=>∃c,x=.bl c/\Q (.bl (!c)) H1):=rfl
theorem yi:(tIf tt ta tb Z H Q)=(tt Z H λc H1=>if c=true then ta Z H1 Q else tb Z H1 Q):=rfl
theorem yj {tc:TE}:(tChain r r' ta tb tc Z H Q)=(ta Z H λx H1=>tb Z H1 λy H2=>r x y H2 λz H3=>∃k,z=.bl k/\(if k=true then tc Z H3 λw' H4=>r' y w' H4 Q else Q (.bl false) H3)):=rfl
theorem yk {R:`V->Hp->Prop}:(tNil Z H R)=(R [] H):=rfl
theorem yl {R:`V->Hp->Prop}:(tCons te aa Z H R)=(te Z H λx H1=>aa Z H1 λxs H2=>R (x::xs) H2):=rfl
theorem ym:(tLst aa Z H Q)=(aa Z H λxs H1=>`x<=sizeLine/\∀p,H1 p=none->Q (.ref p) (upd H1 p (.lst xs))):=rfl
theorem yn {sp:Sp}{dvs:`V}{E:XK}:(tCall sp dvs E aa Z H Q)=(aa Z H λvs H1=>sp (vs++dvs) H1 Q E):=rfl
theorem yo {c:`V->Hp->VK->Prop}:(tCB c aa Z H Q)=(aa Z H λvs H1=>c vs H1 Q):=rfl
theorem yp {T:String}{m:V->`V->Hp->VK->Prop}:(tBM K T m te aa Z H Q)=(te Z H λx H1=>tyV K T x H1/\aa Z H1 λxs H2=>m x xs H2 Q):=rfl
theorem yq {T:String}{m:V->`V->Hp->VK->Prop}:(tBM0 K T m te Z H Q)=(te Z H λx H1=>tyV K T x H1/\m x [] H1 Q):=rfl
theorem yr {m:V->Option Int->Option Int->Hp->VK->Prop}{tl th:TO}:(tSl m te tl th Z H Q)=(te Z H λx H1=>tl Z H1 λl H2=>th Z H2 λu H3=>m x l u H3 Q):=rfl
theorem yt {R:Option Int->Hp->Prop}:(tNoPart Z H R)=(R none H):=rfl
theorem yu {R:Option Int->Hp->Prop}:(tPart te Z H R)=(te Z H λx H1=>∃i,x=.int i/\R (some i) H1):=rfl
theorem yv {z:Str}:tyV K "str" (.str z) H↔True:=⟨λ_=>trivial,λ_=>rfl⟩
theorem rd_I {C:Int->Int->Prop}{g:Int->Int->V}{i j:Int}:(rI C g (.int i) (.int j) H Q)=(C i j/\Q (g i j) H):=rfl
theorem yw {g:Int->Int->V}{i j:Int}:(rI0 g (.int i) (.int j) H Q)=(Q (g i j) H):=rfl
theorem mv {α β:Type}{f:α->β}{a:α}{l:List α}:List.map f (a::l)=f a::List.map f l:=rfl
theorem mw {α β:Type}{f:α->β}:List.map f []=[]:=rfl
theorem yx {p:Prop}[Decidable p]{a b:Prop}:(if decide p=true then a else b)=(if p then a else b):=by simp only[decide_eq_true_eq]
theorem yy {i j:Int}:rEq (.int i) (.int j) H Q↔Q (.bl (decide (i=j))) H:=by unfold rEq scal;simp only[true_and,V.int.injEq]
theorem ag {i j:Str}:rEq (.str i) (.str j) H Q↔Q (.bl (decide (i=j))) H:=by unfold rEq scal;simp only[true_and,V.str.injEq]
theorem yz {i j:Int}:rNe (.int i) (.int j) H Q↔Q (.bl (!decide (i=j))) H:=by unfold rNe scal;simp only[true_and,V.int.injEq]
theorem bR {i j:Str}:rNe (.str i) (.str j) H Q↔Q (.bl (!decide (i=j))) H:=by unfold rNe scal;simp only[true_and,V.str.injEq]
theorem mx {i j:Bool}:rNe (.bl i) (.bl j) H Q↔Q (.bl (!decide (i=j))) H:=by unfold rNe scal;simp only[true_and,V.bl.injEq]
theorem z7 {z:Str}{i:Int}:rIx K (.str z) (.int i) H Q↔∃c,z.length<=sizeLine/\atI z.cps.toList i=some c/\Q (.str ⟨#[c]⟩) H:=by
 constructor
 .rintro (⟨p,xs,j,v,h,_⟩|⟨p,xs,j,v,h,_⟩|⟨z',j,c,h1,h2,h3,h4,h5⟩)
  .cases h
  .cases h
  .cases h1;cases h2;exact⟨c,h3,h4,h5⟩
 .rintro⟨c,h3,h4,h5⟩;exact .inr (.inr ⟨z,i,c,rfl,rfl,h3,h4,h5⟩)
theorem z8 {z:Str}{lo hi:Option Int}:rSl K (.str z) lo hi H Q↔z.length<=sizeLine/\Q (.str (Txt.slice z lo hi)) H:=by
 constructor
 .rintro (⟨a,xs,h,_⟩|⟨z',h1,h2,h3⟩)
  .cases h
  .cases h1;exact⟨h2,h3⟩
 .rintro⟨h2,h3⟩;exact .inr ⟨z,rfl,h2,h3⟩
end
section
variable {H:Hp}{Q:VK}{K:`F}
theorem z9 {a:Addr}{lo hi:Option Int}:rSl K (.ref a) lo hi H Q↔∃xs,SqL K H a xs/\∀p,H p=none->Q (.ref p) (upd H p (.lst (cutV xs lo hi))):=by
 constructor
 .rintro (⟨a',xs,h,h2⟩|⟨z',h1,_⟩)
  .cases h;exact⟨xs,h2⟩
  .cases h1
 .rintro⟨xs,h2⟩;exact .inl ⟨a,xs,rfl,h2⟩
inductive IxE (K:`F)(H:Hp)(p:Addr)(i:Int)(Q:V->Prop):Prop
 |mk (xs:`V) (v:V) (h:SqL K H p xs\/SqT K H p xs) (a:atI xs i=some v) (q:Q v):IxE K H p i Q
theorem zF {p:Addr}{i:Int}:rIx K (.ref p) (.int i) H Q↔IxE K H p i λv=>Q v H:=by
 constructor
 .rintro (⟨p',xs,j,v,h,h2,h3,h4,h5⟩|⟨p',xs,j,v,h,h2,h3,h4,h5⟩|⟨z',j,c,h1,_⟩)
  .cases h;cases h2;exact⟨xs,v,.inl h3,h4,h5⟩
  .cases h;cases h2;exact⟨xs,v,.inr h3,h4,h5⟩
  .cases h1
 .rintro⟨xs,v,h|h,h2,h3⟩
  .exact .inl ⟨p,xs,i,v,rfl,rfl,h,h2,h3⟩
  .exact .inr (.inl ⟨p,xs,i,v,rfl,rfl,h,h2,h3⟩)
def V.ofRS (x:V)(k:Addr->Prop)(m:Str->Prop):Prop:=match x with|.ref p=>k p|.str z=>m z|_=>False
def rIy (K:`F):R2:=λx y H Q=>y.ofI λi=>x.ofRS (λp=>IxE K H p i λv=>Q v H) λz=>∃c,z.length<=sizeLine/\atI z.cps.toList i=some c/\Q (.str ⟨#[c]⟩) H
theorem zG {x y:V}(h:rIy K x y H Q):rIx K x y H Q:=by
 obtain⟨i,rfl,h1⟩:=cX h;cases x with
 |ref p=>exact zF.mpr h1
 |str z=>exact z7.mpr h1
 |_=>exact False.elim h1
theorem zH {p:Addr}{i:Int}:(rIy K (.ref p) (.int i) H Q)=(IxE K H p i λv=>Q v H):=rfl
theorem zI {z:Str}{i:Int}:(rIy K (.str z) (.int i) H Q)=(∃c,z.length<=sizeLine/\atI z.cps.toList i=some c/\Q (.str ⟨#[c]⟩) H):=rfl
theorem cx_K {CX:CXT}{P:Program}{w:World}{mg:Str->Option Value}{base:Heap}{N:List Str}{qual:Str}{scope:Scope}{f:Addr}{cd:Value}{A:Around}{outer:List Env}{s:Shared}{E:XK} :
  (cxOf CX P w K mg base N qual scope f cd A outer s H E).K=K:=rfl
end
def LoopI (J:It)(g:TG)(tb:TS)(D:Ends)(Z:St)(H:Hp):Prop:=∃W:Nat->Nat->St->Hp->Prop,(∃m,W 0 m Z H)/\∀i m Z H,W i m Z H ->
 (J.stop i H/\D.nx Z H)\/(J.go i H/\∃N:St->Hp->Prop,(∀Z' H',N Z' H'->∃m',m' < m/\W (i+1) m' Z' H')/\∀x H',J.yld i H x H'->g x Z H' λZ2 H2=>tb {D with nx:=N,ct:=N,bk:=D.nx} Z2 H2)
section
variable {Z:St}{H:Hp}{D:Ends}{K:`F}{te:TE}{g:TG}{tb:TS}{aa:TA}
theorem zJ:(tFor (iList K te) g tb D Z H)=(te Z H λx H1=>∃a,x=.ref a/\(∃xs,SqL K H1 a xs)/\LoopI (Itl K a) g tb D Z H1):=rfl
theorem zK:(tFor (iRng1 aa) g tb D Z H)=(aa Z H λvs H1=>∃j:Int,vs=[.int j]/\-(2 ^ 62)<=j/\j < 2 ^ 62/\LoopI (Itr 0 j.toNat) g tb D Z H1):=rfl
theorem f9 {a:Addr}{xs:`V}(Pv:Nat->St->Hp->Prop)(h0:Pv 0 Z H)(hl:∀i Z H,i<=`x->Pv i Z H->SqL K H a xs)
  (hs:∀i x Z H,xs[i]?=some x->Pv i Z H->g x Z H λZ2 H2=>tb {D with nx:=Pv (i+1),ct:=Pv (i+1),bk:=D.nx} Z2 H2) (hd:∀Z H,Pv `x Z H->D.nx Z H):LoopI (Itl K a) g tb D Z H:=wn Pv h0 hl hs hd
theorem cZ {lo:Int}{n:Nat}(Pv:Nat->St->Hp->Prop)(h0:Pv 0 Z H)
  (hs:∀i Z H,i < n->Pv i Z H->g (.int (lo+i)) Z H λZ2 H2=>tb {D with nx:=Pv (i+1),ct:=Pv (i+1),bk:=D.nx} Z2 H2) (hd:∀Z H,Pv n Z H->D.nx Z H):LoopI (Itr lo n) g tb D Z H:=wq Pv h0 hs hd
end
section
variable {prog:Program}{w:World}{A:Around}{R:Result->Shared->Prop}{s:Shared}
theorem zL {elt target iter:Expr}{ifs:List Expr}{scope:Scope}{pos:Pos}{it acc:Value}{env:Env}(I:Nat->Shared->Prop)
  (turn:∀n s,I n s->wpAny `M A (pyNext it) (λr s₁=>match r with
   |none=>R (.ok .next) s₁
   |some v=>wpAny `M A (letOwnedTupleGo target it v) (λ_ s₁'=>wpAny `M A (assign target env v) (λ_ s₂=>
     wpAny `M A (forIn ifs true λc r=>if r=true then do let ok <- isTrue c env (eval c env);pure (ForInStep.yield ok) else pure (ForInStep.yield r)) (λok s₃=>
      if ok=true then wpAny `M A (eval elt env) (λx s₄=>
       wpAny `M A (call (.builtin "list.append") [acc,x]) (λ_ s₅=>∃m,m < n/\I m s₅) (λ_ _=>False) s₄) (λ_ _=>False) s₃
      else ∃m,m < n/\I m s₃) (λ_ _=>False) s₂) (λ_ _=>False) s₁') (λ_ _=>False) s₁) (λ_ _=>False) s)
  (n:Nat) (h:I n s):codeAny `M A (.compLoop (.ListComp elt [⟨target,iter,ifs,0⟩] scope pos) 0 it acc env) R s:=by
 refine codeAny_loop rfl I (λn s hI=>?_) n h;show wpAny _ A ((compTurn (.ListComp elt [⟨target,iter,ifs,0⟩] scope pos) 0 it acc env).onRaise (λx=>do noteFrame x env;theTreesLotGoes x)) _ _ s;refine wpAny_noted ?_;rw[compTurn_list];refine wpAny_bind (wpAny_standAt (wpAny_bind (wpAny_mono (turn n s hI) (λr s₁ h₁=>?_) λ_ _ h'=>h'.elim)));cases r with
 |none=>exact wpAny_pure h₁
 |some v=>
  refine wpAny_bind (wpAny_mono h₁ (λ_ s₁' ad=>wpAny_bind (wpAny_mono ad (λ_ s₂ h₂=>wpAny_bind (wpAny_mono h₂ (λok s₃ h₃=>?_) λ_ _ h'=>h'.elim)) λ_ _ h'=>h'.elim)) λ_ _ h'=>h'.elim);cases ok with
  |false=>exact wpAny_pure ⟨rfl,h₃⟩
  |true=>exact wpAny_bind (wpAny_bind (wpAny_mono h₃ (λx s₄ h₄=>wpAny_bind (wpAny_mono h₄ (λ_ s₅ h₅=>wpAny_pure (wpAny_pure ⟨rfl,h₅⟩)) λ_ _ h'=>h'.elim)) λ_ _ h'=>h'.elim))
end
noncomputable def compCx (X:Cx)(N':List Str)(scope:Scope)(cl:List (Str×Addr))(s:Shared)(H:Hp)(fp:List Addr):Cx:=
 { X with N:=N',s₀:=s,H₀:=H,env:=compEnvC scope cl `z X.env,outer:=X.stack,stack:=X.stack,ex:=fp,fn:=λ_=>false,pn:=[],xe:=λ_ _=>False}
inductive Frees (X:Cx)(rs:Scope)(cl:List (Str×Addr)):List Str->Tq->Prop where
 |nil:Frees X rs cl [] []
 |cons {y:Str}{i:Nat}{fx:List Str}{fr:Tq} (h1:X.N[i]?=some y) (h2:X.env.kindOf y=some .cell) (h3:rs.names.lookup y=some .cell) (h4:cl.lookup y=X.env.cells.lookup y) (r:Frees X rs cl fx fr):Frees X rs cl (y::fx) (i::fr)
noncomputable def frV (Z:St)(fr:Tq):St:=fr.map λi=>(Z[i]?).getD none
theorem Frees.len {X:Cx}{rs:Scope}{cl:List (Str×Addr)}{fx:List Str}{fr:Tq}(F:Frees X rs cl fx fr):fr.length=fx.length:=by
 induction F with
 |nil=>rfl
 |cons _ _ _ _ _ ih=>simp[ih]
theorem Frees.at {X:Cx}{rs:Scope}{cl:List (Str×Addr)}{Z:St}{fx:List Str}{fr:Tq}(F:Frees X rs cl fx fr):∀(j:Nat) (y:Str) (v:V),fx[j]?=some y->(frV Z fr)[j]?=some (some v) ->
  ∃i:Nat,X.N[i]?=some y/\Z[i]?=some (some v)/\X.env.kindOf y=some .cell/\rs.names.lookup y=some .cell/\cl.lookup y=X.env.cells.lookup y:=by
 induction F with
 |nil=>intro j y v h _;cases h
 |@cons z i fx fr h1 h2 h3 h4 r ih=>
  intro j y v h hv;cases j with
  |zero=>
   cases h;refine⟨i,h1,?_,h2,h3,h4⟩;have hv:some ((Z[i]?).getD none)=some (some v):=hv;cases e:Z[i]? with
   |none=>rw[e] at hv;cases hv
   |some o=>rw[e] at hv;exact hv
  |succ j=>exact ih j y v h hv
theorem Frees.mem {X:Cx}{rs:Scope}{cl:List (Str×Addr)}{fx:List Str}{fr:Tq}(F:Frees X rs cl fx fr):∀y∈fx,X.env.kindOf y=some .cell/\cl.lookup y=X.env.cells.lookup y:=by
 induction F with
 |nil=>intro y h;cases h
 |cons h1 h2 h3 h4 r ih=>
  intro y h;rcases mem_cons.mp h with rfl|h
  .exact⟨h2,h4⟩
  .exact ih y h
section
variable {X:Cx}{pins:`O}{Z:St}{H1:Hp}{s3:Shared}{scope:Scope}{cl:List (Str×Addr)}{fp:List Addr}
theorem my {N':List Str}{pins':`O}{Z':St}{H2:Hp}{s':Shared}{h':Heap}(I:Inv X pins Z H1 s3)(J:Inv (compCx X N' scope cl s3 H1 fp) pins' Z' H2 s')(ffp:∀b∈fp,FpOk X pins H1 b)
  (sb:Heap.SameBut s3.heap.objs.size s'.heap h'):Inv X pins Z H2 {s' with heap:=h' }:=by
 have k:∀b u,b≠s3.heap.objs.size->s'.heap.get? b=some u->h'.get? b=some u:=λb u hb e=>sb.extBut b u hb e;have lt:∀b u,s3.heap.get? b=some u->b≠s3.heap.objs.size:=λb u e=>Nat.ne_of_lt (Heap.lt_size e);have u:Un (frs X.stack) fp H1 H2 s3.heap s'.heap:=J.base;have u':Un (frs X.stack) fp H1 H2 s3.heap h':=
  ⟨λb o q n hb hx=>k b o (lt b o q) (u.keep b o q n hb hx),λb o q n hb hx=>by
    obtain⟨sl,e⟩:=u.slot b o q n hb hx;exact⟨sl,k b _ (lt b o q) e⟩,u.free,λb o q hx=>by
    obtain⟨o',e⟩:=u.there b o q hx;exact⟨o',k b _ (lt b o q) e⟩,u.tups,u.frzs,u.tbls⟩
 have nC:H2 s3.heap.objs.size=none:=J.free;have dl:HOk X.prog X.w H2 h':=λb uo e=>by
  refine (J.hok b uo e).stay (λc v hc q=>k c v ?_ q) (λ_ q=>q) λ_ _ q=>q;rintro rfl;rcases hc with z|z
  .rw[<- z,nC] at e;cases e
  .rw[nC] at z;cases z
 have os:s'.os=s3.os:=J.os;have mt:=J.bare;obtain⟨hh,g,d,t,ad⟩:=s';obtain rfl:ad=s3.os:=os;have BT:=I.call (h':=h') (g':=g) (d':=d) (t':=t) (ch:=fp) u' dl mt λb hb=>by obtain⟨f0,f1,f2,f3,f4,f5⟩:=ffp b hb;exact⟨f3,f1,f4,f5⟩
 exact BT
end
def PF (X:Cx)(ifs:List Expr)(t:TT):Prop:=
 ∀(pins:`O) (s:Shared) (Z:St) (H:Hp) (Q:Bool->Hp->Prop),Inv X pins Z H s->t Z H Q ->
  wpAny `m X.A (forIn ifs true λc r=>if r=true then do let ok <- isTrue c X.env (eval c X.env);pure (ForInStep.yield ok) else pure (ForInStep.yield r)) (TP X pins Z Q) X.xe s
def tYes:TT:=λ_ H Q=>Q true H
theorem bF {X:Cx}:PF X [] tYes:=λ_ _ _ H _ I h=>wpAny_tests_nil ⟨H,I,h⟩
theorem jV {X:Cx}{c:Expr}{t:TT}(h:PT X c t):PF X [c] t:=λpins s Z H Q I q=>wpAny_tests_one (h pins s Z H Q I q)
def CompI (J:It)(p:Addr)(fv:St)(tt:TT)(te:TE)(Q:VK)(H1:Hp):Prop:=
 ∃W:Nat->Nat->`V->Hp->Prop,(∃m,W 0 m [] (upd H1 p (.lst [])))/\∀i m ys H2,W i m ys H2->H2 p=some (.lst ys)/\
  ((J.stop i H2/\Q (.ref p) H2)\/(J.go i H2/\ys.length < sizeLine/\∀x H3,J.yld i H2 x H3->tt (some x::fv) H3 λb H4=>
   if b=true then te (some x::fv) H4 λy H5=>H5 p=some (.lst ys)/\∃m',m' < m/\W (i+1) m' (ys++[y]) (upd H5 p (.lst (ys++[y])))
   else ∃m',m' < m/\W (i+1) m' ys H4))
def tComp (wi:TI)(fr:Tq)(tt:TT)(te:TE):TE:=λZ H Q=>wi Z H λJ H1=>∀p,H1 p=none->CompI J p (frV Z fr) tt te Q H1
section
variable {p:Addr}{fv:St}{te:TE}{Q:VK}{H1:Hp}
theorem jW {z:Str}(hz:z.length<=sizeLine)(hp:H1 p=none)(f:Nat->V)
  (he:∀c,c∈z.cps.toList->∀(H':Hp) (R:VK),(∀H'',Same H' H''->R (f c) H'')->te (some (.str ⟨#[c]⟩)::fv) H' R)
  (hQ:∀H',Same H1 H'->H' p=some (.lst (z.cps.toList.map f))->Q (.ref p) H'):CompI (Its z) p fv tYes te Q H1:=by
 have hl:z.cps.toList.length=z.length:=by simp[Str.length]
 refine⟨λi m ys H2=>m=z.length - i/\i<=z.length/\ys=(z.cps.toList.take i).map f/\H2 p=some (.lst ys)/\Same H1 H2,⟨z.length,`s,Nat.zero_le _,`s,aE,λb o e=>by rw[aD (aJ e hp)];exact e⟩,?_⟩;rintro i m ys H2 ⟨rfl,hi,rfl,ad,sm⟩;refine⟨ad,?_⟩;by_cases dl:i < z.length
 .refine .inr ⟨dl,?_,λx H3 y=>?_⟩
  .rw[length_map,length_take];lia
  .obtain⟨rfl,c,hc,rfl⟩:=y;unfold tYes;dsimp only;rw[if_pos rfl];refine he c (mem_of_getElem? hc) _ _ λH5 s5=>⟨s5 _ _ ad,z.length - (i+1),`l,rfl,dl,?_,aE,λb o e=>?_⟩
   .rw[take_add_one,hc,map_append];rfl
   .rw[aD (aJ e hp)];exact s5 _ _ (sm _ _ e)
 .have e:i=z.length:=by lia
  subst e;refine .inl ⟨Nat.le_refl _,hQ H2 sm ?_⟩;rw[ad,<- hl,take_length]
end
section
variable {Z:St}{H:Hp}{Q:VK}{K:`F}{tl te:TE}{tt:TT}{fr:Tq}
theorem zM:frV Z []=[]:=rfl
theorem zN {i:Nat}{r:Tq}:frV Z (i::r)=(Z[i]?).getD none::frV Z r:=rfl
theorem zO {z:Str}{p:Addr}:rJoin K (.str z) [.ref p] H Q↔∃ys:List Str,SqL K H p (ys.map V.str)/\(ys.map (·.length)).sum+ys.length * z.length<=16777216/\Q (.str (Txt.join z ys)) H:=by
 constructor
 .rintro⟨z',p',ys,h1,h2,h3⟩;cases h1;cases h2;exact⟨ys,h3⟩
 .rintro⟨ys,h⟩;exact⟨z,p,ys,rfl,rfl,h⟩
theorem zP:(tComp (iStr tl) fr tt te Z H Q)=(tl Z H λx H1=>∃z,x=.str z/\∀p,H1 p=none->CompI (Its z) p (frV Z fr) tt te Q H1):=rfl
theorem zQ:(tComp (iList K tl) fr tt te Z H Q)=(tl Z H λx H1=>∃a,x=.ref a/\(∃xs,SqL K H1 a xs)/\∀p,H1 p=none->CompI (Itl K a) p (frV Z fr) tt te Q H1):=rfl
end
section
variable {X:Cx}{K:`F}
theorem cf (h:X.K=K):OpR X (binaryOp .Add) (rAddU K):=by subst h;exact ml
theorem mz (h:X.K=K):IxR X (rIy K):=by subst h;exact λa b c d e f g i j k l m n o p=>xf a b c d e f g i j k l m n o (zG p)
theorem gW (h:X.K=K):SlR X (rSl K):=by subst h;exact y6
theorem jX (h:X.K=K):CallR X (.builtin "len") (rLenU K):=by subst h;exact yH
theorem dM (h:X.K=K):MtR X "str.join" (rJoin K):=by subst h;exact yC
theorem bh {tg l:Expr}{tl:TE}(h:X.K=K)(hl:PE X l tl):PI X tg l (iList K tl):=by subst h;exact wg hl
variable {o e:Expr}{es:List Expr}{to:TE}{t:TA}{name:Str}{apos cpos:Pos}{T id:String}{r:V->`V->Hp->VK->Prop}
theorem jY (h:X.K=K)(pa:PlainAttrs T)(slot:Slot T name id)(hty:typeOf (.builtin id)=pure (.type "method_descriptor"))(hm:MtR X id r)(ho:PE X o to)
  (hbase:attributeBase o name X.env (eval o X.env)=eval o X.env:=by rfl) (hline:(apos.endLine == cpos.line)=true:=by rfl):PE X (.Call (.Attribute o name apos) [] [] cpos) (tBM0 K T r to):=by
 subst h;exact xn pa slot hty hm ho hbase hline
theorem am (h:X.K=K)(pa:PlainAttrs T)(slot:Slot T name id)(hty:typeOf (.builtin id)=pure (.type "method_descriptor"))(hm:MtR X id r)(ho:PE X o to)(ha:PA X (e::es) t)
  (hbase:attributeBase o name X.env (eval o X.env)=eval o X.env:=by rfl)
  (hfew:((backTo cpos (starEach (e::es) X.env)).all (λx=>!x.1) && (backToKw cpos (keywordEach [] X.env)).all (λx=>x.1.isSome)
   && decide ((e::es).length+([]:List Keyword).length+(if ([]:List Keyword).isEmpty then 0 else 1) < 30))=true:=by rfl)
  (hline:(apos.endLine == cpos.line)=true:=by rfl) (hs:starEach (e::es) X.env=(false,eval e X.env)::starEach es X.env:=by rfl) (hplain:(backTo cpos (starEach es X.env)).any (·.1)=false:=by rfl) :
  PE X (.Call (.Attribute o name apos) (e::es) [] cpos) (tBM K T r to t):=by
 subst h;exact xo pa slot hty hm ho ha hbase hfew hline hs hplain
end
structure FunD (K:`F)(x qual:Str)(st:Stmt)(f:Addr)(fd:FuncData)(T:Addr):Prop where
 ex:∃(oc:Value) (od:Option Addr) (kV doc pm:Value) (an:Option Addr) (cdv ct:Value) (osl:Array (Option Value)),
  fd=PySem.W.fnOf x qual (defArgs st) (defBody st) (defScope st) (.ref T) kV doc pm an cdv ct/\K.lookup f=some ⟨oc,od,.func fd,osl⟩/\PySem.W.codeIn K cdv qual=true
 kp:PySem.W.keepIn K (.ref f)=true
section
variable {P:Program}{w:World}{K:`F}{mg:Str->Option Value}{base:Heap}
theorem FunD.ok {x qual:Str}{st:Stmt}{f T:Addr}{fd:FuncData}{N ps:List Str}{k:Nat}{sp:Sp}(F:FunD K x qual st f fd T)(S:FnScope N ps (defScope st))(len:∀vs H Q E,sp vs H Q E->vs.length=ps.length)
  (hbody:∀(cdv:Value) (A:Around) (outer:List Env) (s:Shared) (H:Hp) (vs:`V) (Q:VK) (E:XK),Room k (A.deeper (envOfC qual (defScope st) `z f cdv))->sp vs H Q E ->
   ∃t,PSs (cxOf CX0 P w K mg base N qual (defScope st) f cdv A outer s H E).nox (defBody st) t/\t {nx:=λ_ H'=>Q .non H',rt:=Q} (start N vs) H):FnOk P w K mg base CX0 (k+1) f fd ps sp:=by
 obtain⟨oc,od,kV,doc,pm,an,cdv,ct,osl,rfl,lk,hcd⟩:=F.ex;refine gR lk hcd S len λA outer s H vs Q E hr hsp=>?_;obtain⟨t,h,q⟩:=hbody cdv A outer s H vs Q E hr hsp;exact⟨t,h.nox,q⟩
theorem FunD.binds {x qual:Str}{st:Stmt}{f T:Addr}{fd:FuncData}{ps:List Str}{ds:List Value}{oc:Value}{od:Option Addr}{items:Array Value}{n:Nat}{sl:Array (Option Value)}(F:FunD K x qual st f fd T)(hT:K.lookup T=some ⟨oc,od,.seq items n,sl⟩)
  (h:∀(kV doc pm:Value) (an:Option Addr) (cdv ct:Value) (us:List Value),(us++ds).length=ps.length->∃k:Option (Array Value)->Sem (List (Str×Value)),
   bindArgs (PySem.W.fnOf x qual (defArgs st) (defBody st) (defScope st) (.ref T) kV doc pm an cdv ct) ⟨us,[]⟩=seqItems? (.ref T) >>= k/\k (some items)=pure (ps.zip (us++ds))):Binds K fd ps ds:=by
 obtain⟨oc',od',kV,doc,pm,an,cdv,ct,osl,rfl,lk,hcd⟩:=F.ex;intro s us X hl;obtain⟨k,h1,h2⟩:=h kV doc pm an cdv ct us hl;exact BindsTo.of_defaults (T:=T) rfl (X T _ hT) rfl h1 h2
theorem jZ {x qual:Str}{st:Stmt}{f T:Addr}{oc:Value}{od an:Option Addr}{osl:Array (Option Value)}{kV doc pm cdv ct:Value}(l:K.lookup f=some ⟨oc,od,.func (PySem.W.fnOf x qual (defArgs st) (defBody st) (defScope st) (.ref T) kV doc pm an cdv ct),osl⟩)
  (c:PySem.W.codeIn K cdv qual=true) (k:PySem.W.keepIn K (.ref f)=true):FunD K x qual st f (PySem.W.fnOf x qual (defArgs st) (defBody st) (defScope st) (.ref T) kV doc pm an cdv ct) T:=⟨⟨oc,od,kV,doc,pm,an,cdv,ct,osl,rfl,l,c⟩,k⟩
end
theorem zR {us:List Value}{d:Value}(h:(us++[d]).length=2):∃x,us=[x]:=by
 match us,h with
 |[x],_=>exact⟨x,rfl⟩
 |[],h=>simp at h
 |_::_::_,h=>simp at h
theorem fA {c:TT}{tb:TS}{D:Ends}{Z:St}{H:Hp}(W:Nat->St->Hp->Prop)(m0:Nat)(h0:W m0 Z H)
  (hs:∀m Z H,W m Z H->c Z H λb H1=>if b=true then ∃N:St->Hp->Prop,(∀Z' H',N Z' H'->∃m',m' < m/\W m' Z' H')/\tb {D with nx:=N,ct:=N,bk:=D.nx} Z H1 else D.nx Z H1):tWhile c tb D Z H:=⟨W,⟨m0,h0⟩,hs⟩
section
variable {Z:St}{H:Hp}{Q:VK}
theorem zS {r:V->Hp->VK->Prop}{ta:TE}:(tUn r ta Z H Q)=(ta Z H λx H1=>r x H1 Q):=rfl
theorem rd_U {g:Int->V}{i:Int}:rU g (.int i) H Q↔Q (g i) H:=⟨λ⟨_,h1,h2⟩=>by cases h1;exact h2,λh=>⟨i,rfl,h⟩⟩
theorem zT {l:Addr}{y:V}:rAppend (.ref l) [y] H Q↔∃xs,H l=some (.lst xs)/\`x < sizeLine/\Q .non (upd H l (.lst (xs++[y]))):=by
 constructor
 .rintro⟨l',xs,y',h1,h2,h3⟩;cases h1;cases h2;exact⟨xs,h3⟩
 .rintro⟨xs,h⟩;exact⟨l,xs,y,rfl,rfl,h⟩
theorem zU {K:`F}{p:Addr}:tyV K "list" (.ref p) H↔∃xs,SqL K H p xs:=by
 constructor
 .rintro (⟨_,h⟩|⟨h,_⟩|⟨h,_⟩|⟨h,_⟩)
  .exact h
  .exact absurd h `d
  .exact absurd h `d
  .exact absurd h `d
 .intro h;exact .inl ⟨rfl,h⟩
end
mutual
inductive Is (H:Hp):PyData->V->Prop
 |non:Is H .none .non
 |bl (b:Bool):Is H (.bool b) (.bl b)
 |int (i:Int):Is H (.int i) (.int i)
 |str (x:Str):Is H (.str x) (.str x)
 |lst {p:Addr}{xs:`V}{ds:List PyData}:H p=some (.lst xs)->IsAll H ds xs->Is H (.list ds) (.ref p)
 |tup {p:Addr}{xs:`V}{ds:List PyData}:H p=some (.tup xs)->IsAll H ds xs->Is H (.tuple ds) (.ref p)
 |dic {p:Addr}:H p=some (.dK [])->Is H (.dict []) (.ref p)
inductive IsAll (H:Hp):List PyData->`V->Prop
 |nil:IsAll H [] []
 |cons {d:PyData}{x:V}{ds:List PyData}{xs:`V}:Is H d x->IsAll H ds xs->IsAll H (d::ds) (x::xs)
end
mutual
theorem Is.mono {H H':Hp}(sm:Same H H'):∀{d:PyData}{x:V},Is H d x->Is H' d x
 |_,_,.non=>.non
 |_,_,.bl b=>.bl b
 |_,_,.int i=>.int i
 |_,_,.str x=>.str x
 |_,_,.lst h r=>.lst (sm _ _ h) (IsAll.mono sm r)
 |_,_,.tup h r=>.tup (sm _ _ h) (IsAll.mono sm r)
 |_,_,.dic h=>.dic (sm _ _ h)
theorem IsAll.mono {H H':Hp}(sm:Same H H'):∀{ds:List PyData}{xs:`V},IsAll H ds xs->IsAll H' ds xs
 |_,_,.nil=>.nil
 |_,_,.cons h r=>.cons (Is.mono sm h) (IsAll.mono sm r)
end
theorem IsAll.length {H:Hp}:∀{ds:List PyData}{xs:`V},IsAll H ds xs->ds.length=`x
 |_,_,.nil=>rfl
 |_,_,.cons _ r=>by rw[length_cons,length_cons,IsAll.length r]
theorem IsAll.append {H:Hp}:∀{ds es:List PyData}{xs ys:`V},IsAll H ds xs->IsAll H es ys->IsAll H (ds++es) (xs++ys)
 |_,_,_,_,.nil,r=>r
 |_,_,_,_,.cons h t,r=>.cons h (t.append r)
section
variable {X:Cx}{pins:`O}{Z:St}{H:Hp}{s:Shared}
mutual
theorem Is.reads (I:Inv X pins Z H s):∀{d:PyData}{x:V}{v:Value},Is H d x->RelV x v->∃as,Reads s.heap v d as
 |_,_,_,.non,r=>by cases r;exact⟨_,.none⟩
 |_,_,_,.bl b,r=>by cases r;exact⟨_,.bool b⟩
 |_,_,_,.int i,r=>by obtain⟨t,rfl⟩:=r;exact⟨_,.int i t⟩
 |_,_,_,.str x,r=>by obtain⟨t,rfl⟩:=r;exact⟨_,.str x t⟩
 |_,_,_,.lst h q,r=>by cases r;obtain⟨its,vs,⟨o,n,e,c,_,dt⟩,_⟩:=I.list (SqL.of h);obtain⟨as,ra⟩:=IsAll.reads I q vs;exact⟨_,.list e c dt (by simpa using ra)⟩
 |_,_,_,.tup h q,r=>by cases r;obtain⟨its,vs,⟨o,e,c,n,dt⟩,_⟩:=I.tuple (SqT.of h);obtain⟨as,ra⟩:=IsAll.reads I q vs;exact⟨_,.tuple e c dt (by simpa using ra)⟩
 |_,_,_,.dic h,r=>by
  cases r;obtain⟨_,_,vs,kv,o,es,ep,e,c,dt,_,hp,_⟩:=I.hok _ _ h;cases kv;have hes:es.toList=[]:=by generalize es.toList=l at hp;cases hp;rfl
  exact⟨_,.dict (kvs:=[]) e c.1 dt (by rw[hes];exact .nil) (by rw[hes];exact .nil)⟩
theorem IsAll.reads (I:Inv X pins Z H s):∀{ds:List PyData}{xs:`V}{vs:List Value},IsAll H ds xs->Vals xs vs->∃as,ReadsAll s.heap vs ds as
 |_,_,_,.nil,r=>by cases r;exact⟨_,.nil⟩
 |_,_,_,.cons q t,r=>by
  cases r with
  |cons r1 r2=>obtain⟨as,h1⟩:=Is.reads I q r1;obtain⟨bs,h2⟩:=IsAll.reads I t r2;exact⟨_,.cons h1 h2⟩
end
def rNeD:R2:=λx y H Q=>∃d e,Is H d x/\Is H e y/\SeqAt.shaped d=true/\SeqAt.shaped e=true/\Q (.bl (!PyData.eqv d e)) H
theorem zV (hu:X.A.units+64 < cLine):OpR X (compareOp .NotEq) rNeD:=by intro pins s Z H x y v u Q I rx ry h;obtain⟨d,e,hx,hy,sx,sy,q⟩:=h;obtain⟨as,ra⟩:=hx.reads I rx;obtain⟨bs,rb⟩:=hy.reads I ry;exact ne_dataH ra rb sx sy hu ⟨.bl _,H,I,rfl,q⟩
end
mutual
inductive IsT (H:Hp):PyData->V->Prop
 |non:IsT H .none .non
 |bl (b:Bool):IsT H (.bool b) (.bl b)
 |int (i:Int):IsT H (.int i) (.int i)
 |str (x:Str):IsT H (.str x) (.str x)
 |tup {p:Addr}{xs:`V}{ds:List PyData}:H p=some (.tup xs)->IsTAll H ds xs->IsT H (.tuple ds) (.ref p)
inductive IsTAll (H:Hp):List PyData->`V->Prop
 |nil:IsTAll H [] []
 |cons {d:PyData}{x:V}{ds:List PyData}{xs:`V}:IsT H d x->IsTAll H ds xs->IsTAll H (d::ds) (x::xs)
end
def SameT (H H':Hp):Prop:=∀b xs,H b=some (.tup xs)->H' b=some (.tup xs)
theorem Same.toT {H H':Hp}(h:Same H H'):SameT H H':=λb xs e=>h b _ e
theorem ja {H:Hp}{p:Addr}{xs:`V}{o:HO}(h:H p=some (.lst xs)):SameT H (upd H p o):=λb ys e=>by rw[aD (bU e h (by intro z;cases z))];exact e
mutual
theorem IsT.mono {H H':Hp}(sm:SameT H H'):∀{d:PyData}{x:V},IsT H d x->IsT H' d x
 |_,_,.non=>.non
 |_,_,.bl b=>.bl b
 |_,_,.int i=>.int i
 |_,_,.str x=>.str x
 |_,_,.tup h r=>.tup (sm _ _ h) (IsTAll.mono sm r)
theorem IsTAll.mono {H H':Hp}(sm:SameT H H'):∀{ds:List PyData}{xs:`V},IsTAll H ds xs->IsTAll H' ds xs
 |_,_,.nil=>.nil
 |_,_,.cons h r=>.cons (IsT.mono sm h) (IsTAll.mono sm r)
end
mutual
theorem IsT.is {H:Hp}:∀{d:PyData}{x:V},IsT H d x->Is H d x
 |_,_,.non=>.non
 |_,_,.bl b=>.bl b
 |_,_,.int i=>.int i
 |_,_,.str x=>.str x
 |_,_,.tup h r=>.tup h (IsTAll.is r)
theorem IsTAll.is {H:Hp}:∀{ds:List PyData}{xs:`V},IsTAll H ds xs->IsAll H ds xs
 |_,_,.nil=>.nil
 |_,_,.cons h r=>.cons (IsT.is h) (IsTAll.is r)
end
theorem IsTAll.append {H:Hp}:∀{ds es:List PyData}{xs ys:`V},IsTAll H ds xs->IsTAll H es ys->IsTAll H (ds++es) (xs++ys)
 |_,_,_,_,.nil,r=>r
 |_,_,_,_,.cons h t,r=>.cons h (t.append r)
theorem IsTAll.length {H:Hp}{ds:List PyData}{xs:`V}(h:IsTAll H ds xs):ds.length=`x:=h.is.length
section
variable {p:Addr}{fv:St}{te:TE}{Q:VK}{H1:Hp}
inductive All2 (R:V->V->Hp->Prop)(H:Hp):`V->`V->Prop
 |nil:All2 R H [] []
 |cons {x y:V}{xs ys:`V}:R x y H->All2 R H xs ys->All2 R H (x::xs) (y::ys)
theorem All2.mono {R:V->V->Hp->Prop}(hm:∀x y H H',SameT H H'->R x y H->R x y H'){H H':Hp}(sm:SameT H H'){xs ys:`V}(hh:All2 R H xs ys):All2 R H' xs ys:=by
 induction hh with
 |nil=>exact .nil
 |cons h t ih=>exact .cons (hm _ _ _ _ sm h) ih
theorem All2.snoc {R:V->V->Hp->Prop}{H:Hp}{x y:V}(h:R x y H){xs ys:`V}(hh:All2 R H xs ys):All2 R H (xs++[x]) (ys++[y]):=by
 induction hh with
 |nil=>exact .cons h .nil
 |cons q t ih=>exact .cons q ih
theorem All2.length {R:V->V->Hp->Prop}{H:Hp}{xs ys:`V}(hh:All2 R H xs ys):`x=ys.length:=by
 induction hh with
 |nil=>exact rfl
 |cons _ t ih=>rw[length_cons,length_cons,ih]
theorem nA {K:`F}{a:Addr}{xs:`V}(hxs:SqL K H1 a xs)(hlen:`x<=sizeLine)(hp:H1 p=none)(R:V->V->Hp->Prop)(hm:∀x y H H',SameT H H'->R x y H->R x y H')
  (he:∀x,x∈xs->∀(H':Hp) (T:VK),Same H1 H'->(∀y H'',Same H' H''->R x y H''->T y H'')->te (some x::fv) H' T)
  (hQ:∀ys H',Same H1 H'->All2 R H' xs ys->H' p=some (.lst ys)->Q (.ref p) H'):CompI (Itl K a) p fv tYes te Q H1:=by
 refine⟨λi m ys H2=>m=`x - i/\i<=`x/\All2 R H2 (xs.take i) ys/\H2 p=some (.lst ys)/\Same H1 H2,⟨`x,`s,Nat.zero_le _,by rw[take_zero];exact .nil,aE,λb o e=>by rw[aD (aJ e hp)];exact e⟩,?_⟩;rintro i m ys H2 ⟨rfl,hi,ad,dl,sm⟩;refine⟨dl,?_⟩;have q:=sm.seq hxs;have hl:=ad.length;rw[length_take] at hl;by_cases mt:i < `x
 .refine .inr ⟨⟨xs,xs[i],q,by simp[mt]⟩,`l,λx H3 y=>?_⟩;obtain⟨rfl,y⟩:=y;have hc:=y xs q;unfold tYes;dsimp only;rw[if_pos rfl];refine he x (mem_of_getElem? hc) _ _ sm λy H5 s5 hr=>⟨s5 _ _ dl,`x - (i+1),`l,rfl,mt,?_,aE,λb o e=>?_⟩
  .rw[take_add_one,hc];exact ((ad.mono hm s5.toT).snoc hr).mono hm (ja (s5 _ _ dl))
  .rw[aD (aJ e hp)];exact s5 _ _ (sm _ _ e)
 .have e:i=`x:=by lia
  subst e;refine .inl ⟨⟨xs,q,Nat.le_refl _⟩,hQ ys H2 sm ?_ dl⟩;rw[take_length] at ad;exact ad
end
section
variable {X:Cx}
def rAllB (K:`F):`V->Hp->VK->Prop:=λvs H Q=>∃(p:Addr) (bs:List Bool),vs=[.ref p]/\SqL K H p (bs.map V.bl)/\Q (.bl (bs.all id)) H
theorem zW {bs:List Bool}:∀{us:List Value},Vals (bs.map V.bl) us->∀(i:Nat) (v:Value),us[i]?=some v->∃b,bs[i]?=some b/\v=.bool b:=by
 induction bs with
 |nil=>intro us r i v h;rw[map_nil] at r;cases r;simp at h
 |cons b bs ih=>
  intro us r i v h;rw[map_cons] at r;cases r with
  |cons r1 r2=>
   cases i with
   |zero=>simp at h;subst h;exact⟨b,rfl,r1⟩
   |succ i=>obtain⟨c,h1,h2⟩:=ih r2 i v (by simpa using h);exact⟨c,by simpa using h1,h2⟩
theorem zX (hc:X.calm=true):CallR X (.builtin "all") (rAllB X.K):=by
 intro dl s Z H xs us Q I r h;obtain⟨p,bs,rfl,hq,q⟩:=h;obtain⟨u,rfl,ru⟩:=vals1 r;cases ru;obtain⟨ad,vs,pl,hl⟩:=I.list hq;have hI:=pl.isList;have mt:p < `z:=by obtain⟨_,e,_⟩:=hI;exact Heap.lt_size e
 refine call_all_walk (wpAny_pyIter_list hI ?_);refine⟨`z,[`z,p],[`z],ad.toArray.size,_,_,λi=>(bs[i]?).getD true,rfl,Walks.list (A:=X.A.in1) (I.ok.hd hc) _ p (Nat.ne_of_lt mt) ad.toArray,
  ⟨⟨_,Heap.get?_push_size _ rfl,rfl,rfl⟩,hI.push _⟩,λi v s' Q' E' hP hQ=>?_,λh' tk hk=>?_⟩
 .obtain⟨b,e,rfl⟩:=zW vs i v (by simpa using hP);simp only[e,Option.getD_some] at hQ;exact wpAny_truthy_bool hQ
 .have BT:=vs.length;rw[length_map] at BT;have e:((List.range ad.toArray.size).all λi=>(bs[i]?).getD true)=bs.all id:=by rw[size_toArray,<- BT];exact PyProof.Rows.LSm.range_all bs
  exact⟨.bl _,H,I.kept (t':=tk) (PyProof.Rows.LSm.kept_iter hk),rfl,by rw[e];exact q⟩
variable {K:`F}
theorem fB (h:X.K=K)(hc:X.calm=true):CallR X (.builtin "all") (rAllB K):=by subst h;exact zX hc
theorem dN {tg l:Expr}{tl:TE}(h:X.K=K)(hl:PE X l tl):PI X tg l (iTup K tl):=by subst h;exact wj hl
end
section
variable {H:Hp}{Q:VK}{K:`F}
theorem zY {x:V}{T:String}:(rIsiU [x,.ty T] H Q)=(∃k,kindV x H=some k/\T∈["bool","int","str","list","tuple"]/\Q (.bl (subT k T)) H):=rfl
theorem dO:kindV .non H=some "NoneType" := rfl
theorem dP {b:Bool}:kindV (.bl b) H=some "bool" := rfl
theorem dQ {i:Int}:kindV (.int i) H=some "int" := rfl
theorem dR {x:Str}:kindV (.str x) H=some "str" := rfl
theorem cI {p:Addr}{xs:`V}(h:H p=some (.lst xs)):kindV (.ref p) H=some "list" := by simp only[kindV,h]
theorem cg {p:Addr}{xs:`V}(h:H p=some (.tup xs)):kindV (.ref p) H=some "tuple" := by simp only[kindV,h]
theorem dS {p:Addr}{kvs:List (Key×V)}(h:H p=some (.dK kvs)):kindV (.ref p) H=some "dict" := by simp only[kindV,h]
theorem zZ:("bool" ∈ ["bool","int","str","list","tuple"])=True:=`s
theorem zc:("str" ∈ ["bool","int","str","list","tuple"])=True:=`s
theorem zj:("list" ∈ ["bool","int","str","list","tuple"])=True:=`s
theorem zk:("tuple" ∈ ["bool","int","str","list","tuple"])=True:=`s
theorem zm:subT "NoneType" "str"=false:=`d
theorem zn:subT "NoneType" "tuple"=false:=`d
theorem zo:subT "bool" "str"=false:=`d
theorem zp:subT "bool" "tuple"=false:=`d
theorem zr:subT "int" "str"=false:=`d
theorem zt:subT "int" "tuple"=false:=`d
theorem zu:subT "str" "str"=true:=`d
theorem zv:subT "str" "tuple"=false:=`d
theorem zw:subT "list" "str"=false:=`d
theorem zx:subT "list" "tuple"=false:=`d
theorem zy:subT "tuple" "str"=false:=`d
theorem zz:subT "tuple" "tuple"=true:=`d
theorem A0 {n:Nat}{t:TGs}{v:V}{Z:St}{R:St->Hp->Prop}:(gTup K n t v Z H R)=(∃a xs,v=.ref a/\SqT K H a xs/\`x=n/\t xs Z H R):=rfl
theorem A1 {t:TG}{u:TGs}{vs:`V}{Z:St}{R:St->Hp->Prop}:(gCons t u vs Z H R)=(∃v r,vs=v::r/\t v Z H λZ' H'=>u r Z' H' R):=rfl
theorem A2 {vs:`V}{Z:St}{R:St->Hp->Prop}:(gNil vs Z H R)=(vs=[]/\R Z H):=rfl
end
section
variable {X:Cx}{K:`F}
theorem jb {es:List Expr}{k:Nat}{t:TGs}{n:Nat}{pos:Pos}(h:X.K=K)(hc:X.calm=true)(hg:PGs X es t)
  (hn:(assignEach es X.env).length=n:=by rfl) (hst:(assignEach es X.env).findIdx? (·.1)=none:=by rfl):PG X (.Tuple es k pos) (gTup K n t):=by
 subst h;exact m5 hc hg hn hst
end
def SameBut (p:Addr)(H H':Hp):Prop:=∀b o,b≠p->H b=some o->H' b=some o
theorem SameBut.refl (p:Addr)(H:Hp):SameBut p H H:=λ_ _ _ e=>e
theorem SameBut.trans {p:Addr}{H H' H'':Hp}(h:SameBut p H H')(h':SameBut p H' H''):SameBut p H H'':=λb o n e=>h' b o n (h b o n e)
theorem Same.but {p:Addr}{H H':Hp}(h:Same H H'):SameBut p H H':=λb o _ e=>h b o e
theorem b8 {p:Addr}{H:Hp}{o:HO}:SameBut p H (upd H p o):=λb u n e=>by rw[aD n];exact e
theorem SameBut.same {p:Addr}{H H':Hp}(h:SameBut p H H')(hp:H p=none):Same H H':=λb o e=>h b o (aJ e hp) e
section
variable {p:Addr}{fv:St}{te:TE}{Q:VK}{H1:Hp}{K:`F}
theorem Same.tup {H H':Hp}{a:Addr}{xs:`V}(e:Same H H')(h:SqT K H a xs):SqT K H' a xs:=by
 rcases h with (h|⟨o,h⟩)|h
 .exact .inl (.inl (e _ _ h))
 .exact .inl (.inr ⟨o,e _ _ h⟩)
 .exact .inr h
theorem A3 {a:Addr}{xs zs:`V}(hxs:SqT K H1 a xs)(hlen:`x<=sizeLine)(hp:H1 p=none)(hz:zs.length=`x)
  (he:∀(i:Nat) (x z:V),xs[i]?=some x->zs[i]?=some z->∀(H':Hp) (T:VK),Same H1 H'->(∀H'',Same H' H''->T z H'')->te (some x::fv) H' T)
  (hQ:∀H',Same H1 H'->H' p=some (.lst zs)->Q (.ref p) H'):CompI (Itt K a) p fv tYes te Q H1:=by
 refine⟨λi m ys H2=>m=`x - i/\i<=`x/\ys=zs.take i/\H2 p=some (.lst ys)/\Same H1 H2,⟨`x,`s,Nat.zero_le _,`s,aE,λb o e=>by rw[aD (aJ e hp)];exact e⟩,?_⟩;rintro i m ys H2 ⟨rfl,hi,rfl,ad,sm⟩;refine⟨ad,?_⟩;have q:=sm.tup hxs;by_cases mt:i < `x
 .refine .inr ⟨⟨xs,xs[i],q,by simp[mt]⟩,?_,λx H3 y=>?_⟩
  .rw[length_take];lia
  .obtain⟨rfl,y⟩:=y;have hc:=y xs q;have dl:zs[i]?=some zs[i]:=List.getElem?_eq_getElem `l;unfold tYes;dsimp only;rw[if_pos rfl];refine he i x _ hc dl _ _ sm λH5 s5=>⟨s5 _ _ ad,`x - (i+1),`l,rfl,mt,?_,aE,λb o e=>?_⟩
   .rw[take_add_one,dl];rfl
   .rw[aD (aJ e hp)];exact s5 _ _ (sm _ _ e)
 .have e:i=`x:=by lia
  subst e;refine .inl ⟨⟨xs,q,Nat.le_refl _⟩,hQ H2 sm ?_⟩;rw[ad,<- hz,take_length]
theorem nB {a:Addr}{xs zs:`V}(hxs:SqL K H1 a xs)(hlen:`x<=sizeLine)(hp:H1 p=none)(hz:zs.length=`x)
  (he:∀(i:Nat) (x z:V),xs[i]?=some x->zs[i]?=some z->∀(H':Hp) (T:VK),Same H1 H'->(∀H'',Same H' H''->T z H'')->te (some x::fv) H' T)
  (hQ:∀H',Same H1 H'->H' p=some (.lst zs)->Q (.ref p) H'):CompI (Itl K a) p fv tYes te Q H1:=by
 refine⟨λi m ys H2=>m=`x - i/\i<=`x/\ys=zs.take i/\H2 p=some (.lst ys)/\Same H1 H2,⟨`x,`s,Nat.zero_le _,`s,aE,λb o e=>by rw[aD (aJ e hp)];exact e⟩,?_⟩;rintro i m ys H2 ⟨rfl,hi,rfl,ad,sm⟩;refine⟨ad,?_⟩;have q:=sm.seq hxs;by_cases mt:i < `x
 .refine .inr ⟨⟨xs,xs[i],q,by simp[mt]⟩,?_,λx H3 y=>?_⟩
  .rw[length_take];lia
  .obtain⟨rfl,y⟩:=y;have hc:=y xs q;have dl:zs[i]?=some zs[i]:=List.getElem?_eq_getElem `l;unfold tYes;dsimp only;rw[if_pos rfl];refine he i x _ hc dl _ _ sm λH5 s5=>⟨s5 _ _ ad,`x - (i+1),`l,rfl,mt,?_,aE,λb o e=>?_⟩
   .rw[take_add_one,dl];rfl
   .rw[aD (aJ e hp)];exact s5 _ _ (sm _ _ e)
 .have e:i=`x:=by lia
  subst e;refine .inl ⟨⟨xs,q,Nat.le_refl _⟩,hQ H2 sm ?_⟩;rw[ad,<- hz,take_length]
variable {Z:St}{H:Hp}{tl:TE}{tt:TT}{fr:Tq}{g:TG}{tb:TS}{D:Ends}
theorem A4:(tComp (iTup K tl) fr tt te Z H Q)=(tl Z H λx H1=>∃a,x=.ref a/\(∃xs,SqT K H1 a xs)/\∀p,H1 p=none->CompI (Itt K a) p (frV Z fr) tt te Q H1):=rfl
theorem A5:(tFor (iTup K te) g tb D Z H)=(te Z H λx H1=>∃a,x=.ref a/\(∃xs,SqT K H1 a xs)/\LoopI (Itt K a) g tb D Z H1):=rfl
theorem A6 {a:Addr}{xs:`V}(Pv:Nat->St->Hp->Prop)(h0:Pv 0 Z H)(hl:∀i Z H,i<=`x->Pv i Z H->SqT K H a xs)
  (hs:∀i x Z H,xs[i]?=some x->Pv i Z H->g x Z H λZ2 H2=>tb {D with nx:=Pv (i+1),ct:=Pv (i+1),bk:=D.nx} Z2 H2) (hd:∀Z H,Pv `x Z H->D.nx Z H):LoopI (Itt K a) g tb D Z H:=wo Pv h0 hl hs hd
theorem nD {a:Addr}:rAllB K [.ref a] H Q↔∃bs:List Bool,SqL K H a (bs.map V.bl)/\Q (.bl (bs.all id)) H:=by
 constructor
 .rintro⟨p,bs,h1,h2⟩;cases h1;exact⟨bs,h2⟩
 .rintro⟨bs,h⟩;exact⟨a,bs,rfl,h⟩
end
def tCut (t u:TS):TS:=λD Z H=>∃P:St->Hp->Prop,t {D with nx:=P} Z H/\∀Z' H',P Z' H'->u D Z' H'
section
variable {X:Cx}{st:Stmt}{rest:List Stmt}{t u:TS}
theorem aR (h1:PS X st t)(h2:PSs X rest u):PSs X (st::rest) (tCut t u):=by
 intro pins s Z H D I h;obtain⟨P,h,hu⟩:=h;refine wpAny_execs_cons (thn (h1 pins s Z H {D with nx:=P} I h) λf s1 q=>?_);cases f with
 |next=>obtain⟨Z',H',I',q⟩:=q;exact h2 pins s1 Z' H' D I' (hu _ _ q)
 |ret v=>exact q
 |brk=>exact q
 |cont=>exact q
def Later (u:TS)(D:Ends)(Z:St)(H:Hp):Prop:=u D Z H
theorem A7 {D:Ends}{x:Option V}{Z:St}{H:Hp}:(Later u D (x::Z) H)=(u D (x::Z) H):=rfl
theorem A8 {D:Ends}{Z:St}{H:Hp}:(tCut t u D Z H)=(∃P:St->Hp->Prop,t {D with nx:=P} Z H/\∀Z' H',P Z' H'->Later u D Z' H'):=rfl
end
theorem SameBut.free {p q:Addr}{H H':Hp}(sb:SameBut p H H')(hq:H' q=none)(hne:q≠p):H q=none:=by
 cases e:H q with
 |none=>rfl
 |some o=>rw[sb q o hne e] at hq;cases hq
theorem SameBut.upd {p q:Addr}{H H':Hp}{o:HO}(sb:SameBut p H H')(hq:H q=none):SameBut p H (upd H' q o):=λb u n e=>by rw[aD (aJ e hq)];exact sb b u n e
theorem aT {H:Hp}{p:Addr}{o:HO}(hp:H p=none):Same H (upd H p o):=λb u e=>by rw[aD (aJ e hp)];exact e
def tTupS (t:TA):TE:=λZ H Q=>t Z H λxs H1=>`x<=sizeLine/\∀p H',H1 p=none->Same H1 H'->H' p=some (.tup xs)->Q (.ref p) H'
def tLstS (t:TA):TE:=λZ H Q=>t Z H λxs H1=>`x<=sizeLine/\∀p H',H1 p=none->Same H1 H'->H' p=some (.lst xs)->Q (.ref p) H'
section
variable {X:Cx}{es:List Expr}{t:TA}{pos:Pos}{K:`F}
theorem bG {x1}(h:PA X es t):PE X (.Tuple es x1 pos) (tTupS t):=by intro ad s Z H Q I hq;refine wpAny_Tuple_spliced (thn (h pos ad s Z H _ I hq) λus s1 ⟨xs,H1,I1,r,z,q⟩=>⟨by rw[<- r.length];exact z,?_⟩);have hf:H1 `y=none:=I1.hok.fresh `n;refine⟨.ref `y,upd H1 `y (.tup xs),I1.laid (t':=s1.toks) (λb u e=>Heap.get?_push_of_some _ e) `n ?_,rfl,q _ _ hf (aT hf) aE⟩;exact⟨z,us,r,⟨_,Heap.get?_push_size _ rfl,rfl,_,rfl⟩⟩
theorem cJ (h:PA X es t):PE X (.List es pos) (tLstS t):=by intro ad s Z H Q I hq;refine wpAny_List_spliced (thn (h pos ad s Z H _ I hq) λus s1 ⟨xs,H1,I1,r,z,q⟩=>⟨by rw[<- r.length];exact z,?_⟩);have hf:H1 `y=none:=I1.hok.fresh `n;refine⟨.ref `y,upd H1 `y (.lst xs),I1.laid (t':=s1.toks) (λb u e=>Heap.get?_push_of_some _ e) `n ?_,rfl,q _ _ hf (aT hf) aE⟩;exact⟨z,us,0,r,Heap.get?_push_size _ rfl⟩
def rAddS (K:`F):R2:=λx y H Q=>match x,y with
 |.int i,.int j=>Q (.int (i+j)) H
 |.str i,.str j=>i.length+j.length<=sizeLine/\Q (.str (i++j)) H
 |.ref a,.ref b=>(∃xs zs,H a=some (.lst xs)/\H b=some (.lst zs)/\`x+zs.length<=sizeLine/\∀p H',H p=none->Same H H'->H' p=some (.lst (xs++zs))->Q (.ref p) H')\/
   (∃xs ys,H a=some (.tup xs)/\H b=some (.tup ys)/\`x+ys.length<=sizeLine/\∀p H',Same H H'->H' p=some (.tup (xs++ys))->Q (.ref p) H')
 |_,_=>False
theorem bM:OpR X (binaryOp .Add) (rAddS K):=by
 intro ad s Z H x y v u Q I rx ry h;refine ml ad s Z H x y v u Q I rx ry ?_;cases x with
 |int i=>
  cases y with
  |int j=>exact h
  |_=>exact h.elim
 |str i=>
  cases y with
  |str j=>exact h
  |_=>exact h.elim
 |ref a=>
  cases y with
  |ref b=>
   rcases h with⟨xs,zs,h1,h2,h3,h4⟩|h
   .exact .inl ⟨xs,zs,h1,h2,h3,λp hp=>h4 p _ hp (aT hp) aE⟩
   .exact .inr h
  |_=>exact h.elim
 |_=>exact h.elim
def rListS (K:`F):`V->Hp->VK->Prop:=λxs H Q=>∃p ys,xs=[.ref p]/\(SqL K H p ys\/SqT K H p ys)/\∀l H',H l=none->Same H H'->H' l=some (.lst ys)->Q (.ref l) H'
def rTupleS (K:`F):`V->Hp->VK->Prop:=λxs H Q=>∃p ys,xs=[.ref p]/\(SqL K H p ys\/H p=some (.tup ys))/\∀l H',Same H H'->H' l=some (.tup ys)->Q (.ref l) H'
theorem A9 (h:X.K=K):CallR X (.type "list") (rListS K):=by subst h;intro pins s Z H xs us Q I r h;obtain⟨p,ys,h1,h2,h3⟩:=h;exact xm pins s Z H xs us Q I r ⟨p,ys,h1,h2,λl hl=>h3 l _ hl (aT hl) aE⟩
theorem fC (h:X.K=K):CallR X (.type "tuple") (rTupleS K):=by
 subst h;intro pins s Z H xs us Q I r h;obtain⟨p,ys,h1,h2,h3⟩:=h;rcases h2 with h2|h2
 .exact ma pins s Z H xs us Q I r ⟨p,ys,h1,.inl ⟨h2,λl hl=>h3 l _ (aT hl) aE⟩⟩
 .exact ma pins s Z H xs us Q I r ⟨p,ys,h1,.inr ⟨SqT.of h2,h3 p H `r h2⟩⟩
end
section
variable {Z:St}{H:Hp}{Q:VK}{K:`F}{aa:TA}
theorem Aa:(tTupS aa Z H Q)=(aa Z H λxs H1=>`x<=sizeLine/\∀p H',H1 p=none->Same H1 H'->H' p=some (.tup xs)->Q (.ref p) H'):=rfl
theorem Ac:(tLstS aa Z H Q)=(aa Z H λxs H1=>`x<=sizeLine/\∀p H',H1 p=none->Same H1 H'->H' p=some (.lst xs)->Q (.ref p) H'):=rfl
theorem Ae {i j:Int}:(rAddS K (.int i) (.int j) H Q)=(Q (.int (i+j)) H):=rfl
theorem fD {i j:Str}:(rAddS K (.str i) (.str j) H Q)=(i.length+j.length<=sizeLine/\Q (.str (i++j)) H):=rfl
theorem Af {a:Addr}:rListS K [.ref a] H Q↔∃ys,(SqL K H a ys\/SqT K H a ys)/\∀l H',H l=none->Same H H'->H' l=some (.lst ys)->Q (.ref l) H':=by
 constructor
 .rintro⟨p,bs,h1,h2⟩;cases h1;exact⟨bs,h2⟩
 .rintro⟨bs,h⟩;exact⟨a,bs,rfl,h⟩
theorem Ag {a:Addr}:rTupleS K [.ref a] H Q↔∃ys,(SqL K H a ys\/H a=some (.tup ys))/\∀l H',Same H H'->H' l=some (.tup ys)->Q (.ref l) H':=by
 constructor
 .rintro⟨p,bs,h1,h2⟩;cases h1;exact⟨bs,h2⟩
 .rintro⟨bs,h⟩;exact⟨a,bs,rfl,h⟩
end
def rSlLS (K:`F):V->Option Int->Option Int->Hp->VK->Prop:=λx lo hi H Q=>∃a xs,x=.ref a/\SqL K H a xs/\∀p H',H p=none->Same H H'->H' p=some (.lst (cutV xs lo hi))->Q (.ref p) H'
theorem nE {X:Cx}{K:`F}(h:X.K=K):SlR X (rSlLS K):=by subst h;intro pins s Z H x v vl vu lo hi sl Q I rx hs pl pu h;obtain⟨a,xs,h1,h2,h3⟩:=h;exact mY pins s Z H x v vl vu lo hi sl Q I rx hs pl pu ⟨a,xs,h1,h2,λp hp=>h3 p _ hp (aT hp) aE⟩
theorem Ah {K:`F}{H:Hp}{Q:VK}{a:Addr}{lo hi:Option Int}:rSlLS K (.ref a) lo hi H Q↔∃xs,SqL K H a xs/\∀p H',H p=none->Same H H'->H' p=some (.lst (cutV xs lo hi))->Q (.ref p) H':=by
 constructor
 .rintro⟨p,bs,h1,h2⟩;cases h1;exact⟨bs,h2⟩
 .rintro⟨bs,h⟩;exact⟨a,bs,rfl,h⟩
end L2
namespace Wm
open PySem L2
noncomputable def isSg (c:Nat):Bool:=decide (32<=c) && decide (c<=126) && !decide (c=37)
noncomputable def SG:Tq:=(List.range 127).filter isSg
noncomputable def hexd (n:Nat):Nat:=if n < 10 then 48+n else 87+n
noncomputable def fig (a:Nat):Option Nat:=if 48<=a/\a<=57 then some (a - 48) else if 97<=a/\a<=102 then some (a - 87) else if 65<=a/\a<=70 then some (a - 55) else none
noncomputable def figV (a:Nat):V:=match fig a with|some n=>.int (n:Nat)|none=>.non
noncomputable abbrev one (c:Nat):V:=.str ⟨#[c]⟩
noncomputable def sgV (n:Nat):V:=if isSg n then one n else .non
noncomputable def signOf (a b:Nat):V:=match fig a,fig b with|some h,some l=>sgV (h * 16+l)|_,_=>.non
noncomputable def signOfL:Tq->V
 |[a,b]=>signOf a b
 |_=>.non
theorem jc {c:Nat}:c∈SG↔isSg c=true:=by
 unfold SG;rw[mem_filter,List.mem_range];constructor
 .exact λh=>h.2
 .intro h;refine⟨?_,h⟩;simp only[isSg,Bool.and_eq_true,decide_eq_true_eq] at h;lia
theorem bi {c:Nat}(h:isSg c=true):32<=c/\c<=126/\c≠37:=by simp only[isSg,Bool.and_eq_true,decide_eq_true_eq,Bool.not_eq_true',decide_eq_false_iff_not] at h;lia
theorem Ai:∀n,n < 16->(ofString "0123456789abcdef").cps.toList[n]?=some (hexd n):=`k
theorem nF {i:Int}{n:Nat}(e:i=(n:Int))(h:n < 16):atI (ofString "0123456789abcdef").cps.toList i=some (hexd n):=by rw[e];exact aB (Ai n h)
theorem nG:(ofString "0123456789abcdef").length<=sizeLine:=`k
theorem Aj:∀a,a < 128->a∈(ofString "0123456789abcdef").cps.toList ->
  Builtin.Str.occurrences (ofString "0123456789abcdef") ⟨#[a]⟩ 0 (ofString "0123456789abcdef").length 1=[(fig a).getD 0]/\(fig a).isSome=true:=by fail "k"
theorem Ak:∀a,a < 128->¬ a∈(ofString "0123456789abcdef").cps.toList->a∈(ofString "0123456789ABCDEF").cps.toList ->
  Builtin.Str.occurrences (ofString "0123456789ABCDEF") ⟨#[a]⟩ 0 (ofString "0123456789ABCDEF").length 1=[(fig a).getD 0]/\(fig a).isSome=true:=by fail "k"
theorem Al:∀a,a < 128->¬ a∈(ofString "0123456789abcdef").cps.toList->¬ a∈(ofString "0123456789ABCDEF").cps.toList->fig a=none:=`k
theorem Am:∀n,n < 127->isSg n=true->(ofString " !\"#$&'()*+,-./0123456789:;<=>?@ABCDEFGHIJKLMNOPQRSTUVWXYZ[\\]^_`abcdefghijklmnopqrstuvwxyz{|}~").cps.toList[n - 32 - (if 37 < n then 1 else 0)]?=some n:=`k
theorem nH:(ofString " !\"#$&'()*+,-./0123456789:;<=>?@ABCDEFGHIJKLMNOPQRSTUVWXYZ[\\]^_`abcdefghijklmnopqrstuvwxyz{|}~").length<=sizeLine:=`k
theorem nI (l:Tq)(a:Nat):∀k,((List.range k).map λj=>a+j).filterMap (λi=>l[i]?)=(l.drop a).take k
 |0=>by simp
 |k+1=>by
  rw[range_succ,map_append,List.filterMap_append,nI l a k,take_add_one,List.getElem?_drop];simp only[map_cons,map_nil];cases e:l[a+k]? with
  |none=>simp[e]
  |some c=>simp[e]
noncomputable def clipI (n:Nat)(v:Int):Nat:=(max 0 (min (if v < 0 then v+n else v) n)).toNat
theorem An (a b:Nat):sliceRange (a:Int) (b:Int) 1=(List.range (b - a)).map λj=>a+j:=by
 unfold sliceRange;have h1:(1:Int) > 0:=by decide
 simp only[h1,if_true,Int.one_mul,Int.ediv_one];have e:(if (a:Int) < (b:Int) then (b:Int) - (a:Int)+1 - 1 else 0).toNat=b - a:=by split <;> lia
 rw[e];apply map_congr_left;intro j _;lia
theorem Ao (lo hi:Option Int)(n:Nat):Builtin.Str.strSliceIndices lo hi 1 n=(List.range ((hi.elim n (clipI n)) - (lo.elim 0 (clipI n)))).map λj=>(lo.elim 0 (clipI n))+j:=by
 unfold Builtin.Str.strSliceIndices;have h1:(1:Int) > 0:=by decide
 simp only[h1,if_true];rw[<- An]
 congr 1
 .cases lo with
  |none=>rfl
  |some v=>simp only[Option.elim_some,clipI];lia
 .cases hi with
  |none=>rfl
  |some v=>simp only[Option.elim_some,clipI];lia
theorem jd (l:Tq)(lo hi:Option Int):Txt.slice (⟨l.toArray⟩:Str) lo hi=⟨((l.drop (lo.elim 0 (clipI `L))).take ((hi.elim `L (clipI `L)) - (lo.elim 0 (clipI `L)))).toArray⟩:=by
 have hl:(⟨l.toArray⟩:Str).length=`L:=by simp[Str.length]
 have hb:hi.elim `L (clipI `L)<=`L:=by
  cases hi with
  |none=>exact Nat.le_refl _
  |some v=>simp only[Option.elim_some,clipI];lia
 have ad:lo.elim 0 (clipI `L)<=`L:=by
  cases lo with
  |none=>exact Nat.zero_le _
  |some v=>simp only[Option.elim_some,clipI];lia
 have ef:(λi:Nat=>(⟨l.toArray⟩:Str).cps[i]?)=λi=>l[i]?:=by funext i;simp
 unfold Txt.slice;rw[hl,Ao,ef];split
 .rename_i h;simp only[length_map,length_range,beq_self_eq_true,Bool.true_and,beq_iff_eq] at h;have e1:lo.elim 0 (clipI `L)=0:=by lia
  have e2:hi.elim `L (clipI `L)=`L:=by lia
  rw[e1,e2];simp
 .rw[nI l (lo.elim 0 (clipI `L)) ((hi.elim `L (clipI `L)) - (lo.elim 0 (clipI `L)))]
theorem je (n k:Nat):clipI n (k:Int)=min k n:=by unfold clipI;split <;> lia
theorem Ap (l:Tq)(k:Nat):Txt.slice (⟨l.toArray⟩:Str) (some (k:Int)) none=⟨(l.drop k).toArray⟩:=by
 rw[jd];simp only[Option.elim_some,Option.elim_none,je];by_cases h:k<=`L
 .rw[Nat.min_eq_left h,take_of_length_le `s]
 .rw[Nat.min_eq_right `l,drop_eq_nil_of_le `n,drop_eq_nil_of_le `l];simp
theorem Aq (l:Tq)(k:Nat):Txt.slice (⟨l.toArray⟩:Str) none (some (k:Int))=⟨(l.take k).toArray⟩:=by
 rw[jd];simp only[Option.elim_some,Option.elim_none,je,drop_zero,Nat.sub_zero];by_cases h:k<=`L
 .rw[Nat.min_eq_left h]
 .rw[Nat.min_eq_right `l,take_length,take_of_length_le `l]
theorem jf (l:Tq)(i j:Nat):Txt.slice (⟨l.toArray⟩:Str) (some (i:Int)) (some (j:Int))=⟨((l.drop i).take (j - i)).toArray⟩:=by
 rw[jd];simp only[Option.elim_some,je];by_cases h:i<=`L
 .rw[Nat.min_eq_left h];by_cases h2:j<=`L
  .rw[Nat.min_eq_left h2]
  .rw[Nat.min_eq_right (by lia:`L<=j),take_of_length_le `s,take_of_length_le (by simp;lia)]
 .rw[Nat.min_eq_right (by lia:`L<=i),drop_eq_nil_of_le `n,drop_eq_nil_of_le `l];simp
theorem Ar:ofString ""=⟨([]:Tq).toArray⟩:=`k
theorem jg (ys:List Str):Txt.join (⟨([]:Tq).toArray⟩:Str) ys=⟨(ys.flatMap λy=>y.cps.toList).toArray⟩:=by
 show Builtin.Str.glued _ _=_;rw[StrLaws.glued_eq_join];induction ys with
 |nil=>rfl
 |cons y r ih=>
  cases r with
  |nil=>show y=_;simp
  |cons z r=>show y++(⟨#[]⟩:Str)++Str.join ⟨#[]⟩ (z::r)=_;rw[ih];show Str.mk (y.cps++#[]++_)=_;simp[flatMap_cons]
theorem ay (l m:Tq):((⟨l.toArray⟩:Str)++(⟨m.toArray⟩:Str))=⟨(l++m).toArray⟩:=by show Str.mk (l.toArray++m.toArray)=_;simp
theorem ac {l m:Tq}:((⟨l.toArray⟩:Str)=⟨m.toArray⟩)↔l=m:=by
 constructor
 .intro h;injection h with h;injection h
 .rintro rfl;rfl
theorem aN (l:Tq):(⟨l.toArray⟩:Str).length=`L:=by simp[Str.length]
theorem As:ofString "~"=⟨[126].toArray⟩:=`k
theorem At (l:Tq):Txt.slice (⟨l.toArray⟩:Str) (some 1) none=⟨(l.drop 1).toArray⟩:=Ap l 1
theorem fE {a n:Nat}(h:fig a=some n):figV a=.int (n:Nat):=by unfold figV;rw[h]
theorem jh {a:Nat}(h:fig a=none):figV a=.non:=by unfold figV;rw[h]
theorem Au {n:Nat}(h:isSg n=true):sgV n=one n:=by unfold sgV;rw[if_pos h]
theorem ji {n:Nat}(h:¬ isSg n=true):sgV n=.non:=by unfold sgV;rw[if_neg h]
theorem Av {n:Nat}(h1:32<=n)(h2:n<=126)(h3:n≠37):isSg n=true:=by simp only[isSg,Bool.and_eq_true,decide_eq_true_eq,Bool.not_eq_true',decide_eq_false_iff_not];lia
theorem nJ {l:Tq}(h:`L≠2):signOfL l=.non:=by
 match l with
 |[]=>rfl
 |[_]=>rfl
 |[_,_]=>exact absurd rfl h
 |_::_::_::_=>rfl
theorem Aw {l:Tq}(h:`L=2):∃a b,l=[a,b]:=by
 match l,h with
 |[a,b],_=>exact⟨a,b,rfl⟩
theorem jj (l:Tq)(m k:Int)(h0:0 < k)(h:k<=`L):∃a,a∈l/\atI l (m % k)=some a:=by
 have h1:=Int.emod_nonneg m (show k≠0 by lia);have h2:=Int.emod_lt_of_pos m h0;have h3:(m % k).toNat < `L:=by lia
 refine⟨l[(m % k).toNat],getElem_mem _,?_⟩;have:=aB (xs:=l) (j:=(m % k).toNat) (v:=l[(m % k).toNat]) (by simp[h3]);rw[Int.toNat_of_nonneg h1] at this;exact this
noncomputable def isPl (c:Nat):Bool:=decide (48<=c/\c<=57) || decide (65<=c/\c<=90) || decide (97<=c/\c<=122) || decide (c=45) || decide (c=46) || decide (c=95)
theorem jk:∀c,c < 128->(decide (c∈(ofString "abcdefghijklmnopqrstuvwxyzABCDEFGHIJKLMNOPQRSTUVWXYZ0123456789-_.").cps.toList))=isPl c:=`k
noncomputable def wr1 (c:Nat):Tq:=if isPl c then [c] else [126,hexd (c / 16),hexd (c % 16)]
noncomputable def wr (l:Tq):Tq:=l.flatMap wr1
theorem nK (c:Nat):(wr1 c).length<=3:=by unfold wr1;split <;> simp
theorem cK (l:Tq):(wr l).length<=3 * `L:=by
 induction l with
 |nil=>simp[wr]
 |cons c r ih=>have:=nK c;unfold wr at ih ⊢;rw[flatMap_cons,length_append,length_cons];lia
noncomputable def sgO (a b:Nat):Option Nat:=match fig a,fig b with
 |some h,some l=>if isSg (h * 16+l) then some (h * 16+l) else none
 |_,_=>none
noncomputable def oV:Option Nat->V
 |some c=>one c
 |none=>.non
theorem nL (a b:Nat):signOf a b=oV (sgO a b):=by
 unfold signOf sgO;cases fig a with
 |none=>rfl
 |some h=>
  cases fig b with
  |none=>rfl
  |some l=>simp only[sgV];split <;> rfl
noncomputable def und (fr:Tq):Tq->Option Tq
 |[]=>some []
 |c::r=>if c=126 then match r with
   |a::b::r'=>match sgO a b with
    |some d=>(und fr r').map (d::·)
    |none=>none
   |_=>none
  else if isPl c || decide (c∈fr) then (und fr r).map (c::·) else none
theorem jl (fr:Tq):und fr []=some []:=by unfold und;rfl
theorem jm {fr:Tq}{a b d:Nat}{r:Tq}(h:sgO a b=some d):und fr (126::a::b::r)=(und fr r).map (d::·):=by rw[und];simp only[if_true,h]
theorem nM {fr:Tq}{a b:Nat}{r:Tq}(h:sgO a b=none):und fr (126::a::b::r)=none:=by rw[und];simp only[if_true,h]
theorem jn {fr:Tq}{r:Tq}(h:r.length < 2):und fr (126::r)=none:=by
 match r,h with
 |[],_=>rw[und.eq_def];rfl
 |[a],_=>rw[und.eq_def];rfl
theorem jo {fr:Tq}{c:Nat}{r:Tq}(h:c≠126)(h2:(isPl c || decide (c∈fr))=true):und fr (c::r)=(und fr r).map (c::·):=by rw[und.eq_def];simp only[if_neg h,h2,if_true]
theorem nN {fr:Tq}{c:Nat}{r:Tq}(h:c≠126)(h2:¬ (isPl c || decide (c∈fr))=true):und fr (c::r)=none:=by rw[und.eq_def];simp only[if_neg h,h2,if_false];rfl
theorem Ax {c:Nat}(hc:isSg c=true):sgO (hexd (c / 16)) (hexd (c % 16))=some c:=by
 have l:=bi hc;have key:∀h,h < 16->fig (hexd h)=some h:=by fail "k"
 unfold sgO;rw[key _ `l,key _ `l];have e:c / 16 * 16+c % 16=c:=by lia
 simp only[e,hc,if_true]
theorem Ay {ns:List Int}{k:Nat}(h:k < ns.length):atI (ns.map V.int) (k:Int)=some (.int (ns.getD k 0)):=by refine aB ?_;rw[List.getElem?_map,List.getElem?_eq_getElem h,List.getD_eq_getElem?_getD,List.getElem?_eq_getElem h];rfl
theorem aF {n:Nat}(h:n<=100000):n<=sizeLine:=Nat.le_trans h `d
theorem Az (f:Nat->Nat)(l:Tq):(l.toArray).map f=(l.map f).toArray:=`s
theorem AA (l:Tq):(⟨l.toArray⟩:Str).cps.toList=l:=rfl
theorem AB {H:Hp}{p:Addr}{o:HO}(hp:H p=none):Same H (upd H p o):=λb u e=>by rw[aD (aJ e hp)];exact e
noncomputable def undV:Option Tq->V
 |some d=>.str ⟨d.toArray⟩
 |none=>.non
noncomputable def swV (fr:Tq):Tq->V
 |[]=>.non
 |c::r=>if c=126 then signOfL r else if (isPl c || decide (c∈fr))=true then one c else .non
theorem nO (fr r:Tq):swV fr (126::r)=signOfL r:=by simp only[swV,if_true]
theorem nP {fr:Tq}{c:Nat}(h:c≠126):swV fr [c]=if (isPl c || decide (c∈fr))=true then one c else .non:=by simp only[swV,if_neg h]
theorem AC {c:Nat}(h:c≠126):¬ ((⟨#[c]⟩:Str)=⟨#[126]⟩):=λe=>h (by have:=ac.mp e;injection this)
theorem AD {l:Tq}{p c:Nat}(h:l[p]?=some c):l.drop p=c::l.drop (p+1):=by obtain⟨hl,e⟩:=List.getElem?_eq_some_iff.mp h;rw[<- e];exact List.drop_eq_getElem_cons hl
theorem nQ (dn:Tq):((dn.map λc=>(⟨[c].toArray⟩:Str)).flatMap λy=>y.cps.toList)=dn:=by
 induction dn with
 |nil=>rfl
 |cons c r ih=>rw[map_cons,flatMap_cons,ih];rfl
theorem nR (dn:Tq):((dn.map λc=>(⟨[c].toArray⟩:Str)).map (·.length)).sum=dn.length:=by
 induction dn with
 |nil=>rfl
 |cons c r ih=>rw[map_cons,map_cons,sum_cons,ih,length_cons];show 1+_=_;lia
theorem nS (dn:Tq)(d:Nat):dn.map one++[V.str ⟨#[d]⟩]=(dn++[d]).map one:=by rw[map_append];rfl
theorem AE {fr l dn:Tq}{p a b d:Nat}{r:Tq}(hu:und fr l=(und fr (l.drop p)).map (dn++·))(hd:l.drop p=126::a::b::r)(h:sgO a b=some d) :
  und fr l=(und fr (l.drop (p+3))).map ((dn++[d])++·):=by
 have e:l.drop (p+3)=r:=by rw[<- drop_drop,hd];rfl
 rw[hu,hd,jm h,e,Option.map_map]
 congr 1
 funext x
 simp
theorem AF {fr l dn:Tq}{p c:Nat}{r:Tq}(hu:und fr l=(und fr (l.drop p)).map (dn++·))(hd:l.drop p=c::r)(hc:c≠126)(h2:(isPl c || decide (c∈fr))=true) :
  und fr l=(und fr (l.drop (p+1))).map ((dn++[c])++·):=by
 have e:l.drop (p+1)=r:=by rw[<- drop_drop,hd];rfl
 rw[hu,hd,jo hc h2,e,Option.map_map]
 congr 1
 funext x
 simp
theorem AG (xs:`V)(m k:Int)(h0:0 < k)(h:k<=`x):∃a,a∈xs/\atI xs (m % k)=some a:=by
 have h1:=Int.emod_nonneg m (show k≠0 by lia);have h2:=Int.emod_lt_of_pos m h0;have h3:(m % k).toNat < `x:=by lia
 refine⟨xs[(m % k).toNat],getElem_mem _,?_⟩;have:=aB (xs:=xs) (j:=(m % k).toNat) (v:=xs[(m % k).toNat]) (by simp[h3]);rw[Int.toNat_of_nonneg h1] at this;exact this
noncomputable def hit (a b c:Nat):Bool:=decide ([hexd (c / 16),hexd (c % 16)]=[PyProof.Rows.lo1 a,PyProof.Rows.lo1 b])
mutual
noncomputable def smallD:PyData->Bool
 |.str x=>decide (x.length<=100000)
 |.list xs=>decide (`x<=100000) && smallAll xs
 |.tuple xs=>decide (`x<=100000) && smallAll xs
 |.dict _=>true
 |.none=>true
 |.bool _=>true
 |.int _=>true
noncomputable def smallAll:List PyData->Bool
 |[]=>true
 |d::ds=>smallD d && smallAll ds
end
theorem gX:∀{ds:List PyData}{d:PyData},smallAll ds=true->d∈ds->smallD d=true
 |e::ds,d,h,hm=>by
  simp only[smallAll,Bool.and_eq_true] at h;rcases mem_cons.mp hm with rfl|hm
  .exact h.1
  .exact gX h.2 hm
theorem nT:∀{ds:List PyData},(∀d∈ds,smallD d=true)->smallAll ds=true
 |[],_=>rfl
 |d::ds,h=>by simp only[smallAll,Bool.and_eq_true];exact⟨h d mem_cons_self,nT λe he=>h e (mem_cons_of_mem _ he)⟩
theorem dU {x:Str}(h:smallD (.str x)=true):x.length<=100000:=by simpa [smallD] using h
theorem jp {ds:List PyData}(h:smallD (.tuple ds)=true):ds.length<=100000/\smallAll ds=true:=by simpa [smallD] using h
theorem dW {ds:List PyData}(h:ds.length<=100000)(h2:smallAll ds=true):smallD (.tuple ds)=true:=by simp[smallD,h,h2]
noncomputable def isLet (c:Nat):Bool:=decide (65<=c/\c<=90) || decide (97<=c/\c<=122)
noncomputable def isAln (c:Nat):Bool:=isLet c || decide (48<=c/\c<=57)
theorem AH:∀c,c < 128->(decide (c∈(ofString "abcdefghijklmnopqrstuvwxyzABCDEFGHIJKLMNOPQRSTUVWXYZ").cps.toList))=isLet c:=`k
theorem AI:∀c,c < 128->(decide (c∈(ofString "abcdefghijklmnopqrstuvwxyzABCDEFGHIJKLMNOPQRSTUVWXYZ0123456789").cps.toList))=isAln c:=`k
theorem AJ:(ofString " !\"#$&'()*+,-./0123456789:;<=>?@ABCDEFGHIJKLMNOPQRSTUVWXYZ[\\]^_`abcdefghijklmnopqrstuvwxyz{|}~").cps.toList=SG:=`k
theorem AK (c:Nat):(decide (c∈(ofString " !\"#$&'()*+,-./0123456789:;<=>?@ABCDEFGHIJKLMNOPQRSTUVWXYZ[\\]^_`abcdefghijklmnopqrstuvwxyz{|}~").cps.toList))=isSg c:=by rw[AJ,Bool.eq_iff_iff,decide_eq_true_eq,jc]
noncomputable def tx:PyData->Bool
 |.str x=>x.cps.toList.all isSg
 |_=>false
noncomputable def ftx:PyData->Bool
 |.str x=>x.cps.toList.all isSg && decide (0 < x.length)
 |_=>false
noncomputable def schD:PyData->Bool
 |.str x=>x.cps.toList.all isSg && decide (x.length<=8) && (x.cps.toList.take 1).all isLet && x.cps.toList.all isAln
 |_=>false
noncomputable def stpD:PyData->Bool
 |.tuple ds=>ds.all ftx
 |_=>false
noncomputable def tupN (n:Int):PyData->Bool
 |.tuple ds=>decide ((ds.length:Int)=n)
 |_=>false
noncomputable abbrev st (l:Tq):PyData:=.str `A
noncomputable def oD:Option Tq->PyData
 |none=>.none
 |some l=>st l
noncomputable def otV:Option Tq->V
 |none=>.non
 |some l=>.str `A
theorem ci {H:Hp}(o:Option Tq):IsT H (oD o) (otV o):=by
 cases o with
 |none=>exact .non
 |some x=>exact .str _
noncomputable def iD:Option Int->PyData
 |none=>.none
 |some i=>.int i
noncomputable def qD:Option (List (Tq×Option Tq))->PyData
 |none=>.none
 |some ps=>.tuple (ps.map λp=>.tuple [st p.1,oD p.2])
structure Ad where
 scheme:Tq
 house:Option Tq
 door:Option Int
 rooted:Bool
 steps:List Tq
 ends:Bool
 quest:Option (List (Tq×Option Tq))
 mark:Option Tq
noncomputable def Ad.way (x:Ad):PyData:=.tuple [.bool x.rooted,.tuple (x.steps.map st),.bool x.ends]
noncomputable def Ad.data (x:Ad):PyData:=.tuple [st x.scheme,oD x.house,iD x.door,x.way,qD x.quest,oD x.mark]
def Tx (n:Nat)(l:Tq):Prop:=`L<=n/\∀c∈l,isSg c=true
structure Ad.Ok (x:Ad):Prop where
 sch:x.scheme.length<=8/\(∀c∈x.scheme,isAln c=true)/\∀c∈x.scheme.take 1,isLet c=true
 hou:∀l,x.house=some l->0 < `L/\Tx 60 l
 doo:∀i,x.door=some i->(0<=i/\i<=65535)/\x.house≠none
 stp:x.steps.length<=50/\∀l∈x.steps,0 < `L/\Tx 60 l
 roo:x.scheme≠[]\/x.house≠none->x.rooted=true
 end_:x.steps=[]->x.ends=x.rooted
 que:∀ps,x.quest=some ps->ps.length<=20/\∀p∈ps,(0 < p.1.length/\Tx 6 p.1)/\∀v,p.2=some v->Tx 6 v
 mar:∀l,x.mark=some l->Tx 60 l
theorem gY {c:Nat}(h:isAln c=true):isSg c=true:=by simp only[isAln,isLet,Bool.or_eq_true,decide_eq_true_eq] at h;simp only[isSg,Bool.and_eq_true,decide_eq_true_eq,Bool.not_eq_true',decide_eq_false_iff_not];lia
noncomputable def itV:Option Int->V
 |none=>.non
 |some i=>.int i
theorem jq {H:Hp}(o:Option Int):IsT H (iD o) (itV o):=by
 cases o with
 |none=>exact .non
 |some x=>exact .int _
theorem AL (ds:List PyData):PyData.eqv (.tuple ds) (.tuple [])=ds.isEmpty:=by cases ds <;> simp[PyData.eqv,PyData.eqvAll]
theorem bS {l:Tq}:((⟨l.toArray⟩:Str)=⟨#[]⟩)↔l=[]:=ac (m:=[])
def Bad (f:PyData->Bool)(H:Hp)(v:V):Prop:=∃d,Is H d v/\smallD d=true/\f d=false
def Bads (f:PyData->Bool)(H:Hp)(vs:`V):Prop:=∀v∈vs,Bad f H v
theorem Bads.cons {f:PyData->Bool}{H:Hp}{v:V}{vs:`V}(h:Bad f H v)(r:Bads f H vs):Bads f H (v::vs):=λw hw=>by
 rcases mem_cons.mp hw with rfl|hw
 .exact h
 .exact r w hw
theorem dX {q:Addr}{H H':Hp}{o:HO}(hq:H q=none)(sm:Same H H'):Same H (upd H' q o):=λb u e=>by rw[aD (aJ e hq)];exact sm _ _ e
noncomputable def dg (i:Int):Tq:=(ofString (toString i)).cps.toList
theorem nU {i:Int}(hi:0<=i):∀c∈dg i,48<=c/\c<=57:=by intro c hc;obtain⟨n,rfl⟩:=Int.eq_ofNat_of_zero_le hi;unfold dg at hc;rw[PySem.W.KIN.signs_num,mem_map] at hc;obtain⟨d,hd,rfl⟩:=hc;have:=Nat.isDigit_of_mem_toDigits `d `d hd;simp only[Char.isDigit,Bool.and_eq_true,decide_eq_true_eq] at this;exact⟨this.1,this.2⟩
theorem nV {i:Int}(hi:0<=i)(hi':i<=65535):(dg i).length<=5:=by have:=PyProof.Rows.toString_length_le hi (k:=5) `d `l;simpa [dg,Str.length] using this
def Hd (p:Nat->Bool)(r:Tq):Prop:=∀c r',r=c::r'->p c=true
theorem Hd.nil {p:Nat->Bool}:Hd p []:=λc r' h=>by cases h
theorem Hd.cons {p:Nat->Bool}{c:Nat}{r:Tq}(h:p c=true):Hd p (c::r):=λd r' e=>by injection e with e;exact e▸h
theorem cutL {p:Nat->Bool}:∀{u u' r r':Tq},(∀c∈u,p c=false)->(∀c∈u',p c=false)->Hd p r->Hd p r'->u++r=u'++r'->u=u'/\r=r'
 |[],[],r,r',_,_,_,_,e=>⟨rfl,e⟩
 |[],c::u',r,r',_,h',hr,_,e=>by have:=hr c (u'++r') e;rw[h' c `f] at this;cases this
 |c::u,[],r,r',h,_,_,hr',e=>by have:=hr' c (u++r) e.symm;rw[h c `f] at this;cases this
 |c::u,d::u',r,r',h,h',hr,hr',e=>by simp only[cons_append,List.cons.injEq] at e;obtain⟨e1,e2⟩:=cutL (λx hx=>h x (mem_cons_of_mem _ hx)) (λx hx=>h' x (mem_cons_of_mem _ hx)) hr hr' e.2;exact⟨by rw[e.1,e1],e2⟩
noncomputable def wch (c:Nat):Bool:=isPl c || decide (c=126)
theorem nW:∀n,n < 16->isPl (hexd n)=true:=`k
theorem gZ {l:Tq}(h:∀c∈l,isSg c=true):∀c∈wr l,wch c=true:=by
 intro c hc;unfold wr at hc;obtain⟨d,hd,hc⟩:=List.mem_flatMap.mp hc;have:=bi (h d hd);unfold wr1 at hc;split at hc
 .next hp=>rw[mem_singleton] at hc;rw[hc,wch,hp];rfl
 .simp only[mem_cons,not_mem_nil,or_false] at hc;rcases hc with rfl|rfl|rfl
  .rfl
  .rw[wch,nW _ `l];rfl
  .rw[wch,nW _ `l];rfl
theorem gc {c:Nat}(h:wch c=true):c≠35/\c≠38/\c≠47/\c≠58/\c≠61/\c≠63:=by refine⟨?_,?_,?_,?_,?_,?_⟩ <;> (rintro rfl;revert h;fail "k")
theorem nX {c:Nat}(h:isAln c=true):wch c=true:=by simp only[isAln,isLet,Bool.or_eq_true,decide_eq_true_eq] at h;simp only[wch,isPl,Bool.or_eq_true,decide_eq_true_eq];lia
noncomputable def tlT (sep:Nat):List Tq->Tq
 |[]=>[]
 |s::r=>sep::(s++tlT sep r)
noncomputable def joinT (sep:Nat):List Tq->Tq
 |[]=>[]
 |s::r=>s++tlT sep r
theorem gd (sep:Nat)(r:List Tq):Hd (λc=>decide (c=sep)) (tlT sep r):=by
 cases r with
 |nil=>exact .nil
 |cons s r=>exact .cons `s
def Free (sep:Nat)(ss:List Tq):Prop:=∀s∈ss,∀c∈s,c≠sep
theorem Free.hd {sep:Nat}{s:Tq}{ss:List Tq}(h:Free sep (s::ss)):∀c∈s,(λc=>decide (c=sep)) c=false:=λc hc=>decide_eq_false (h s `f c hc)
theorem Free.tl {sep:Nat}{s:Tq}{ss:List Tq}(h:Free sep (s::ss)):Free sep ss:=λt ht=>h t (mem_cons_of_mem _ ht)
theorem nY {sep:Nat}:∀{a b:List Tq},Free sep a->Free sep b->tlT sep a=tlT sep b->a=b
 |[],[],_,_,_=>rfl
 |[],t::b,_,_,e=>by simp[tlT] at e
 |s::a,[],_,_,e=>by simp[tlT] at e
 |s::a,t::b,ha,hb,e=>by simp only[tlT,List.cons.injEq,true_and] at e;obtain⟨e1,e2⟩:=cutL ha.hd hb.hd (gd sep a) (gd sep b) e;rw[e1,nY ha.tl hb.tl e2]
theorem AM {sep:Nat}{a b:List Tq}(ha:Free sep a)(hb:Free sep b)(na:a≠[])(nb:b≠[])(e:joinT sep a=joinT sep b):a=b:=by
 match a,b,na,nb with
 |s::a,t::b,_,_=>simp only[joinT] at e;obtain⟨e1,e2⟩:=cutL ha.hd hb.hd (gd sep a) (gd sep b) e;rw[e1,nY ha.tl hb.tl e2]
theorem nZ {sep:Nat}{P:Nat->Prop}(hs:P sep):∀{a:List Tq},(∀s∈a,∀c∈s,P c)->∀c∈tlT sep a,P c
 |[],_,c,hc=>by cases hc
 |s::a,h,c,hc=>by
  simp only[tlT,mem_cons,mem_append] at hc;rcases hc with rfl|hc|hc
  .exact hs
  .exact h s `f c hc
  .exact nZ hs (λt ht=>h t (mem_cons_of_mem _ ht)) c hc
theorem ng {sep:Nat}{P:Nat->Prop}(hs:P sep){a:List Tq}(h:∀s∈a,∀c∈s,P c):∀c∈joinT sep a,P c:=by
 intro c hc;match a with
 |[]=>cases hc
 |s::a=>
  simp only[joinT,mem_append] at hc;rcases hc with hc|hc
  .exact h s `f c hc
  .exact nZ hs (λt ht=>h t (mem_cons_of_mem _ ht)) c hc
noncomputable def oT (sep:Nat):Option Tq->Tq
 |none=>[]
 |some l=>sep::wr l
noncomputable def pairT (p:Tq×Option Tq):Tq:=wr p.1++oT 61 p.2
noncomputable def queT:Option (List (Tq×Option Tq))->Tq
 |none=>[]
 |some ps=>63::joinT 38 (ps.map pairT)
noncomputable def wayT (r:Bool)(ss:List Tq)(e:Bool):Tq:=(if r then [47] else [])++(joinT 47 (ss.map wr)++(if e && !ss.isEmpty then [47] else []))
noncomputable def dooT:Option Int->Tq
 |none=>[]
 |some i=>58::dg i
noncomputable def houT:Option Tq->Tq
 |none=>[]
 |some l=>47::47::wr l
noncomputable def schT (s:Tq):Tq:=if s=[] then [] else s++[58]
noncomputable def Ad.wayT (x:Ad):Tq:=Wm.wayT x.rooted x.steps x.ends
noncomputable def Ad.shw (x:Ad):Tq:=schT x.scheme++(houT x.house++(dooT x.door++(x.wayT++(queT x.quest++oT 35 x.mark))))
theorem jr {sep:Nat}{P:Nat->Prop}(hs:P sep)(hw:∀c,wch c=true->P c){o:Option Tq}(h:∀l,o=some l->∀c∈l,isSg c=true):∀c∈oT sep o,P c:=by
 intro c hc;cases o with
 |none=>cases hc
 |some l=>
  simp only[oT,mem_cons] at hc;rcases hc with rfl|hc
  .exact hs
  .exact hw c (gZ (h l rfl) c hc)
def PairOk (p:Tq×Option Tq):Prop:=(0 < p.1.length/\∀c∈p.1,isSg c=true)/\∀v,p.2=some v->∀c∈v,isSg c=true
theorem AN {P:Nat->Prop}(hs:P 61)(hw:∀c,wch c=true->P c){p:Tq×Option Tq}(h:PairOk p):∀c∈pairT p,P c:=by
 intro c hc;rcases mem_append.mp hc with hc|hc
 .exact hw c (gZ h.1.2 c hc)
 .exact jr hs hw h.2 c hc
def StepOk (s:Tq):Prop:=0 < s.length/\∀c∈s,isSg c=true
noncomputable def stpT (ss:List Tq)(e:Bool):Tq:=joinT 47 (ss.map wr)++(if e && !ss.isEmpty then [47] else [])
theorem AO (e:Bool):stpT [] e=[]:=by simp[stpT,joinT]
theorem nh (r:Bool)(ss:List Tq)(e:Bool):wayT r ss e=(if r then [47] else [])++stpT ss e:=rfl
structure Ad.Wf (x:Ad):Prop where
 sch:x.scheme.length<=8/\(∀c∈x.scheme,isAln c=true)/\∀c∈x.scheme.take 1,isLet c=true
 hou:∀l,x.house=some l->(0 < `L/\`L<=60)/\∀c∈l,isSg c=true
 doo:∀i,x.door=some i->(0<=i/\i<=65535)/\x.house≠none
 stp:∀s∈x.steps,StepOk s
 roo:x.scheme≠[]\/x.house≠none->x.rooted=true
 end_:x.steps=[]->x.ends=x.rooted
 que:∀ps,x.quest=some ps->∀p∈ps,PairOk p
 mar:∀l,x.mark=some l->∀c∈l,isSg c=true
theorem Ad.Ok.wf {x:Ad}(h:x.Ok):x.Wf where
 sch:=h.sch
 hou:=λl e=>⟨⟨(h.hou l e).1,(h.hou l e).2.1⟩,(h.hou l e).2.2⟩
 doo:=h.doo
 stp:=λs hs=>⟨(h.stp.2 s hs).1,(h.stp.2 s hs).2.2⟩
 roo:=h.roo
 end_:=h.end_
 que:=λps e p hp=>⟨⟨((h.que ps e).2 p hp).1.1,((h.que ps e).2 p hp).1.2.2⟩,λv hv=>(((h.que ps e).2 p hp).2 v hv).2⟩
 mar:=λl e=>(h.mar l e).2
noncomputable def Ad.mid (x:Ad):Tq:=houT x.house++(dooT x.door++x.wayT)
noncomputable def Ad.pre (x:Ad):Tq:=schT x.scheme++x.mid
theorem Ad.shw_eq (x:Ad):x.shw=(x.pre++queT x.quest)++oT 35 x.mark:=by simp[Ad.shw,Ad.pre,Ad.mid]
theorem AQ {P:Nat->Prop}(hs:P 47)(hw:∀c,wch c=true->P c){ss:List Tq}{e:Bool}(h:∀s∈ss,StepOk s):∀c∈stpT ss e,P c:=by
 intro c hc;rcases mem_append.mp hc with hc|hc
 .refine ng hs (λs hs' d hd=>?_) c hc;obtain⟨t,ht,rfl⟩:=mem_map.mp hs';exact hw d (gZ (h t ht).2 d hd)
 .split at hc
  .rw[mem_singleton.mp hc];exact hs
  .cases hc
theorem ni {P:Nat->Prop}(hs:P 47)(hw:∀c,wch c=true->P c){r:Bool}{ss:List Tq}{e:Bool}(h:∀s∈ss,StepOk s):∀c∈wayT r ss e,P c:=by
 intro c hc;rw[nh] at hc;rcases mem_append.mp hc with hc|hc
 .split at hc
  .rw[mem_singleton.mp hc];exact hs
  .cases hc
 .exact AQ hs hw h c hc
theorem AR {c:Nat}(h:48<=c/\c<=57):wch c=true:=by simp only[wch,isPl,Bool.or_eq_true,decide_eq_true_eq];lia
theorem Ad.Wf.pre_all {P:Nat->Prop}{x:Ad}(h:x.Wf)(h1:P 47)(h2:P 58)(hw:∀c,wch c=true->P c):∀c∈x.pre,P c:=by
 intro c hc;rcases mem_append.mp hc with hc|hc
 .unfold schT at hc;split at hc
  .cases hc
  .rcases mem_append.mp hc with hc|hc
   .exact hw c (nX (h.sch.2.1 c hc))
   .rw[mem_singleton.mp hc];exact h2
 rcases mem_append.mp hc with hc|hc
 .cases hh:x.house with
  |none=>rw[hh] at hc;cases hc
  |some l=>
   rw[hh] at hc;simp only[houT,mem_cons] at hc;rcases hc with rfl|rfl|hc
   .exact h1
   .exact h1
   .exact hw c (gZ (h.hou l hh).2 c hc)
 rcases mem_append.mp hc with hc|hc
 .cases hd:x.door with
  |none=>rw[hd] at hc;cases hc
  |some i=>
   rw[hd] at hc;simp only[dooT,mem_cons] at hc;rcases hc with rfl|hc
   .exact h2
   .exact hw c (AR (nU (h.doo i hd).1.1 c hc))
 .exact ni h1 hw h.stp c hc
theorem nj (l m:Tq):PyData.eqv (st l) (st m)=true↔l=m:=by simp only[PyData.eqv,beq_iff_eq];exact ac
theorem ge {α:Type}{f:α->PyData}(hf:∀a b,PyData.eqv (f a) (f b)=true↔a=b):∀(l m:List α),PyData.eqvAll (l.map f) (m.map f)=true↔l=m
 |[],[]=>by simp[PyData.eqvAll]
 |[],b::m=>by simp[PyData.eqvAll]
 |a::l,[]=>by simp[PyData.eqvAll]
 |a::l,b::m=>by simp only[map_cons,PyData.eqvAll,Bool.and_eq_true,List.cons.injEq];rw[hf a b,ge hf l m]
def LayAt (n:Nat)(d:PyData):Prop:=d.canLay0=true/\d.depth<=n
theorem LayAt.shaped {n:Nat}{d:PyData}(h:LayAt n d)(hn:n<=64):SeqAt.shaped d=true:=by unfold SeqAt.shaped;rw[h.1,decide_eq_true (Nat.le_trans h.2 hn)];rfl
theorem LayAt.le {n m:Nat}{d:PyData}(h:LayAt n d)(hn:n<=m):LayAt m d:=⟨h.1,Nat.le_trans h.2 hn⟩
theorem layAll {n:Nat}:∀{ds:List PyData},(∀d∈ds,LayAt n d)->PyData.canLayAll0 ds=true/\PyData.depthAll ds<=n
 |[],_=>⟨rfl,Nat.zero_le _⟩
 |d::ds,h=>by obtain⟨h1,h2⟩:=layAll (ds:=ds) λe he=>h e (mem_cons_of_mem _ he);have:=h d `f;simp only[PyData.canLayAll0,PyData.depthAll,this.1,h1,Bool.and_self,true_and];exact Nat.max_le.mpr ⟨this.2,h2⟩
theorem LayAt.tup {n:Nat}{ds:List PyData}(h:∀d∈ds,LayAt n d):LayAt (n+1) (.tuple ds):=by obtain⟨h1,h2⟩:=layAll h;exact⟨by simp only[PyData.canLay0,h1],by simp only[PyData.depth];lia⟩
theorem LayAt.st {l:Tq}(h:∀c∈l,isSg c=true):LayAt 0 (st l):=by refine⟨?_,Nat.le_refl _⟩;simp only[PyData.canLay0,PyData.strOk,List.all_toArray,all_eq_true,decide_eq_true_eq];intro c hc;have:=bi (h c hc);lia
theorem LayAt.bool {b:Bool}:LayAt 0 (.bool b):=⟨rfl,Nat.le_refl _⟩
theorem nk {H:Hp}{l:Tq}{v:V}(h:IsT H (st l) v):v=.str ⟨l.toArray⟩:=by cases h;rfl
theorem nn {H:Hp}{o:Option Tq}{v:V}(h:IsT H (oD o) v):v=otV o:=by
 cases o with
 |none=>cases h;rfl
 |some l=>exact nk h
theorem AS {H:Hp}{o:Option Int}{v:V}(h:IsT H (iD o) v):v=itV o:=by
 cases o with
 |none=>cases h;rfl
 |some l=>cases h;rfl
theorem js {H:Hp}{ds:List PyData}{v:V}(h:IsT H (.tuple ds) v):∃p xs,v=.ref p/\H p=some (.tup xs)/\IsTAll H ds xs:=by
 cases h with
 |tup h1 h2=>exact⟨_,_,rfl,h1,h2⟩
theorem isT6 {H:Hp}{a b c d e f:PyData}{v:V}(h:IsT H (.tuple [a,b,c,d,e,f]) v):∃p x0 x1 x2 x3 x4 x5,v=.ref p/\H p=some (.tup [x0,x1,x2,x3,x4,x5])/\IsT H a x0/\IsT H b x1/\IsT H c x2/\IsT H d x3/\IsT H e x4/\IsT H f x5:=by
 obtain⟨p,xs,rfl,hp,r⟩:=js h;cases r with
 |cons h1 r=>cases r with
  |cons h2 r=>cases r with
   |cons h3 r=>cases r with
    |cons h4 r=>cases r with
     |cons h5 r=>cases r with
      |cons h6 r=>cases r;exact⟨p,_,_,_,_,_,_,rfl,hp,h1,h2,h3,h4,h5,h6⟩
end Wm
namespace Wm
structure Ad.Sz (x:Ad):Prop where
 stp:∀s∈x.steps,s.length<=2000
 que:∀ps,x.quest=some ps->ps.length<=2000/\∀p∈ps,p.1.length<=2000/\∀v,p.2=some v->v.length<=2000
 mar:∀l,x.mark=some l->`L<=2000
 num:x.steps.length<=2000
 all:x.shw.length<=90000
theorem lg {i:Int}(h:0<=i)(h':i<=65535):i.natAbs.log2 < 1920:=by
 by_cases h0:i.natAbs=0
 .rw[h0];simp
 .refine (Nat.log2_lt h0).mpr (Nat.lt_of_lt_of_le (show i.natAbs < 2 ^ 16 by lia) (Nat.pow_le_pow_right `d `d))
theorem nu (i:Int):PySem.Str.ofString (toString i)=⟨(dg i).toArray⟩:=rfl
end Wm
namespace Wm
open PySem L2
theorem jt (sep:Nat)(ys:List Tq):Txt.join (⟨[sep].toArray⟩:Str) (ys.map λl=>(⟨l.toArray⟩:Str))=⟨(joinT sep ys).toArray⟩:=by
 show Builtin.Str.glued _ _=_;rw[StrLaws.glued_eq_join];induction ys with
 |nil=>rfl
 |cons y r ih=>
  cases r with
  |nil=>show (⟨y.toArray⟩:Str)=_;simp[joinT,tlT]
  |cons z r=>show (⟨y.toArray⟩:Str)++(⟨[sep].toArray⟩:Str)++Str.join ⟨[sep].toArray⟩ ((z::r).map λl=>(⟨l.toArray⟩:Str))=_;rw[ih,ay,ay];simp[joinT,tlT]
theorem ny {sep:Nat}:∀(ys:List Tq),(tlT sep ys).length=(ys.map (·.length)).sum+ys.length
 |[]=>rfl
 |y::r=>by simp only[tlT,length_cons,length_append,map_cons,sum_cons,ny r];lia
theorem o0 {sep:Nat}(ys:List Tq):(ys.map (·.length)).sum+ys.length<=(joinT sep ys).length+1:=by
 cases ys with
 |nil=>simp[joinT]
 |cons y r=>simp only[joinT,length_append,map_cons,sum_cons,length_cons,ny];lia
theorem o6 {sep m:Nat}:∀{ys:List Tq},(∀s∈ys,s.length<=m)->(tlT sep ys).length<=ys.length * (m+1)
 |[],_=>by simp[tlT]
 |y::r,h=>by have h1:=h y `f;have h2:=o6 (sep:=sep) (ys:=r) λs hs=>h s (mem_cons_of_mem _ hs);simp only[tlT,length_cons,length_append,Nat.add_mul,Nat.one_mul];lia
theorem o7 {sep m:Nat}{ys:List Tq}(h:∀s∈ys,s.length<=m):(joinT sep ys).length<=ys.length * (m+1):=by
 cases ys with
 |nil=>simp[joinT]
 |cons y r=>have h1:=h y `f;have h2:=o6 (sep:=sep) (ys:=r) λs hs=>h s (mem_cons_of_mem _ hs);simp only[joinT,length_cons,length_append,Nat.add_mul,Nat.one_mul];lia
theorem o8 {sep n:Nat}{o:Option Tq}(h:∀l,o=some l->`L<=n):(oT sep o).length<=3 * n+1:=by
 cases o with
 |none=>simp[oT]
 |some l=>have:=h l rfl;have:=cK l;simp only[oT,length_cons];lia
theorem o9 (ts:List Tq):(ts.map λl=>(⟨l.toArray⟩:Str)).map (·.length)=ts.map List.length:=by rw[map_map];apply map_congr_left;intro l _;exact aN l
theorem dY {a:V}{r:`V}:atI (a::r) 0=some a:=by unfold atI ixN;simp
noncomputable def slT (r:Bool)(ts:List Tq)(e:Bool):Tq:=(if r then [47] else [])++(joinT 47 ts++(if e && !ts.isEmpty then [47] else []))
theorem AT (r:Bool)(ss:List Tq)(e:Bool):wayT r ss e=slT r (ss.map wr) e:=by unfold wayT slT;simp
noncomputable abbrev Stp:=Tq
noncomputable def sUp:Stp:=[46,46]
noncomputable def sStay:Stp:=[46]
noncomputable def isDot (s:Stp):Bool:=decide (s=sUp) || decide (s=sStay)
theorem ju {s:Stp}:isDot s=false↔s≠sUp/\s≠sStay:=by simp[isDot]
noncomputable def fwd (r:Bool)(q:Nat×List Stp)(s:Stp):Nat×List Stp:=
 if s=sUp then (match q.2 with|[]=>(if r then q.1 else q.1+1,[])|_::t=>(q.1,t))
 else if s=sStay then q else (q.1,s::q.2)
noncomputable def goneS (r:Bool)(ss:List Stp):List Stp:=List.replicate (ss.foldl (fwd r) (0,[])).1 sUp++(ss.foldl (fwd r) (0,[])).2.reverse
noncomputable def lastDot (ss:List Stp):Bool:=match ss.getLast? with|some s=>isDot s|none=>false
noncomputable def goneW (r:Bool)(ss:List Stp)(e:Bool):Bool×List Stp×Bool:=
 if ss=[] then (r,[],e) else if goneS r ss=[] then (r,if r then [] else [sStay],true) else (r,goneS r ss,e || lastDot ss)
noncomputable def stk (q:Nat×List Stp):List Stp:=List.replicate q.1 sUp++q.2.reverse
end Wm
namespace L2
open PySem PySem.Spec PyProof.Rows HT
section
variable {prog:Program}{w:World}{A:Around}{E:`T}{s:Shared}
theorem oA {t sl:Addr}{items:Array Value}{vl vu:Value}{lo hi:Option Int}{Q:`T}(ht:IsTup s.heap t items)(hs:s.heap.IsSliceOf sl vl vu .none)(pl:IsPart vl lo)(pu:IsPart vu hi)
  (hw:sIx items.size 0 lo=0/\sIx items.size items.size hi=items.size) (h:Q (.ref t) s):wpAny `M A (getItem (.ref t) (.ref sl)) Q E s:=by
 obtain⟨os,ad,dl,BT⟩:=id hs;have mt:s.TypeIs (.ref sl) "slice" := ⟨os,ad,dl⟩;unfold getItem;try with_reducible refine wpAny_holding ?_
 first|refine wpAny_bind (wpAny_pure ?_)|skip
 refine wpAny_bind (wpAny_sequenceKey ht.typeIs `d ?_);refine wpAny_bind (wpAny_callSpecial?_slot (name:=ofString "__getitem__") ht.typeIs PyProof.Rows.slot_tuple_getitem
  (wpAny_call_entry PyProof.Rows.slot_tuple_getitem ht.typeIs entry_tuple_getitem ?_ (args_tuple_getitem _ _)))
 show wpAny _ _ (Builtin.Tuple.tupleItemsOf (.ref t) >>= _) _ _ s;refine wpAny_bind (tupleItemsOf_ ht ?_);refine wpAny_bind (wpAny_typeOf mt ?_);rw[if_pos `d];refine wpAny_bind (mS hs pl pu ?_);show wpAny _ _ (if (((sIx items.size 0 lo:Nat):Int) == 0 && (1:Int) == 1 && (sIx items.size items.size hi - sIx items.size 0 lo) == items.size)=true then _ else _) _ _ s;rw[if_pos (by rw[hw.1,hw.2];simp)];refine wpAny_bind ?_;show wpAny _ _ (typeOf (.ref t) >>= _) _ _ s;refine wpAny_bind (wpAny_typeOf ht.typeIs (wpAny_pure ?_));rw[if_pos `d];exact wpAny_bind (wpAny_rule (wpAny_pure ⟨_,rfl,wpAny_pure h⟩))
end
section
variable {X:Cx}
def rSlTA:V->Option Int->Option Int->Hp->VK->Prop:=λx lo hi H Q=>∃a xs,x=.ref a/\H a=some (.tup xs)/\∀p H',Same H H'->H' p=some (.tup (cutV xs lo hi))->Q (.ref p) H'
theorem oB {xs:`V}{lo hi:Option Int}(h:sIx `x 0 lo=0/\sIx `x `x hi=`x):cutV xs lo hi=xs:=by unfold cutV;rw[h.1,h.2,drop_zero,Nat.sub_zero,take_length]
theorem AU:SlR X rSlTA:=by
 intro ad s Z H x v vl vu lo hi sl Q I rx hs pl pu h;obtain⟨a,xs,rfl,hx,q⟩:=h;by_cases hw:sIx `x 0 lo=0/\sIx `x `x hi=`x
 .cases rx;obtain⟨mt,r,ht,hz⟩:=I.tuple (SqT.of hx);have dl:mt.toArray.size=`x:=by rw[size_toArray];exact r.length.symm
  refine⟨"tuple",_,PyProof.Rows.slot_tuple_getitem.lookup,ht.typeIs,?_⟩;exact oA ht hs pl pu (by rw[dl];exact hw) ⟨.ref a,H,I,rfl,q a H `r (by rw[oB hw];exact hx)⟩
 .exact mV ad s Z H _ v vl vu lo hi sl Q I rx hs pl pu ⟨a,xs,rfl,SqT.of hx,hw,λp hp=>q p _ (aT hp) aE⟩
theorem AV {a:Addr}{lo hi:Option Int}{H:Hp}{Q:VK}:rSlTA (.ref a) lo hi H Q↔∃xs,H a=some (.tup xs)/\∀p H',Same H H'->H' p=some (.tup (cutV xs lo hi))->Q (.ref p) H':=by
 constructor
 .rintro⟨p,bs,h1,h2⟩;cases h1;exact⟨bs,h2⟩
 .rintro⟨bs,h⟩;exact⟨a,bs,rfl,h⟩
end
mutual
inductive IsK (K:`F)(H:Hp):PyData->V->Prop
 |non:IsK K H .none .non
 |bl (b:Bool):IsK K H (.bool b) (.bl b)
 |int (i:Int):IsK K H (.int i) (.int i)
 |str (x:Str):IsK K H (.str x) (.str x)
 |tup {p:Addr}{xs:`V}{ds:List PyData}:SqT K H p xs->IsKAll K H ds xs->IsK K H (.tuple ds) (.ref p)
inductive IsKAll (K:`F)(H:Hp):List PyData->`V->Prop
 |nil:IsKAll K H [] []
 |cons {d:PyData}{x:V}{ds:List PyData}{xs:`V}:IsK K H d x->IsKAll K H ds xs->IsKAll K H (d::ds) (x::xs)
end
section
variable {K:`F}{H H':Hp}
mutual
theorem IsK.mono (sm:Same H H'):∀{d:PyData}{x:V},IsK K H d x->IsK K H' d x
 |_,_,.non=>.non
 |_,_,.bl b=>.bl b
 |_,_,.int i=>.int i
 |_,_,.str x=>.str x
 |_,_,.tup h r=>.tup (sm.tup h) (IsKAll.mono sm r)
theorem IsKAll.mono (sm:Same H H'):∀{ds:List PyData}{xs:`V},IsKAll K H ds xs->IsKAll K H' ds xs
 |_,_,.nil=>.nil
 |_,_,.cons h r=>.cons (IsK.mono sm h) (IsKAll.mono sm r)
end
mutual
theorem IsT.k:∀{d:PyData}{x:V},IsT H d x->IsK K H d x
 |_,_,.non=>.non
 |_,_,.bl b=>.bl b
 |_,_,.int i=>.int i
 |_,_,.str x=>.str x
 |_,_,.tup h r=>.tup (SqT.of h) (IsTAll.k r)
theorem IsTAll.k:∀{ds:List PyData}{xs:`V},IsTAll H ds xs->IsKAll K H ds xs
 |_,_,.nil=>.nil
 |_,_,.cons h r=>.cons (IsT.k h) (IsTAll.k r)
end
end
section
variable {X:Cx}{pins:`O}{Z:St}{H:Hp}{s:Shared}
mutual
theorem IsK.reads (I:Inv X pins Z H s):∀{d:PyData}{x:V}{v:Value},IsK X.K H d x->RelV x v->∃as,Reads s.heap v d as
 |_,_,_,.non,r=>by cases r;exact⟨_,.none⟩
 |_,_,_,.bl b,r=>by cases r;exact⟨_,.bool b⟩
 |_,_,_,.int i,r=>by obtain⟨t,rfl⟩:=r;exact⟨_,.int i t⟩
 |_,_,_,.str x,r=>by obtain⟨t,rfl⟩:=r;exact⟨_,.str x t⟩
 |_,_,_,.tup h q,r=>by cases r;obtain⟨its,vs,⟨o,e,c,n,dt⟩,_⟩:=I.tuple h;obtain⟨as,ra⟩:=IsKAll.reads I q vs;exact⟨_,.tuple e c dt (by simpa using ra)⟩
theorem IsKAll.reads (I:Inv X pins Z H s):∀{ds:List PyData}{xs:`V}{vs:List Value},IsKAll X.K H ds xs->Vals xs vs->∃as,ReadsAll s.heap vs ds as
 |_,_,_,.nil,r=>by cases r;exact⟨_,.nil⟩
 |_,_,_,.cons q t,r=>by
  cases r with
  |cons r1 r2=>obtain⟨as,h1⟩:=IsK.reads I q r1;obtain⟨bs,h2⟩:=IsKAll.reads I t r2;exact⟨_,.cons h1 h2⟩
end
variable {K:`F}
def rEqX (K:`F):R2:=λx y H Q=>∃d e,IsK K H d x/\IsK K H e y/\SeqAt.shaped d=true/\SeqAt.shaped e=true/\Q (.bl (PyData.eqv d e)) H
theorem oC (hk:X.K=K)(hu:X.A.units+64 < cLine):OpR X (compareOp .Eq) (rEqX K):=by subst hk;intro pins s Z H x y v u Q I rx ry h;obtain⟨d,e,hx,hy,sx,sy,q⟩:=h;obtain⟨as,ra⟩:=hx.reads I rx;obtain⟨bs,rb⟩:=hy.reads I ry;exact eq_dataH ra rb sx sy hu ⟨.bl _,H,I,rfl,q⟩
def rSlX (K:`F):V->Option Int->Option Int->Hp->VK->Prop:=λx lo hi H Q=>∃a xs,x=.ref a/\SqT K H a xs/\∀p H',Same H H'->SqT K H' p (cutV xs lo hi)->Q (.ref p) H'
theorem fF (hk:X.K=K):SlR X (rSlX K):=by
 subst hk;intro ad s Z H x v vl vu lo hi sl Q I rx hs pl pu h;obtain⟨a,xs,rfl,hx,q⟩:=h;by_cases hw:sIx `x 0 lo=0/\sIx `x `x hi=`x
 .cases rx;obtain⟨mt,r,ht,hz⟩:=I.tuple hx;have dl:mt.toArray.size=`x:=by rw[size_toArray];exact r.length.symm
  refine⟨"tuple",_,PyProof.Rows.slot_tuple_getitem.lookup,ht.typeIs,?_⟩;exact oA ht hs pl pu (by rw[dl];exact hw) ⟨.ref a,H,I,rfl,q a H `r (by rw[oB hw];exact hx)⟩
 .exact mV ad s Z H _ v vl vu lo hi sl Q I rx hs pl pu ⟨a,xs,rfl,hx,hw,λp hp=>q p _ (aT hp) (SqT.of aE)⟩
theorem AW {a:Addr}{lo hi:Option Int}{H:Hp}{Q:VK}:rSlX K (.ref a) lo hi H Q↔∃xs,SqT K H a xs/\∀p H',Same H H'->SqT K H' p (cutV xs lo hi)->Q (.ref p) H':=by
 constructor
 .rintro⟨p,bs,h1,h2⟩;cases h1;exact⟨bs,h2⟩
 .rintro⟨bs,h⟩;exact⟨a,bs,rfl,h⟩
def rCatX (K:`F):R2:=λx y H Q=>∃a b xs ys,x=.ref a/\y=.ref b/\SqT K H a xs/\SqT K H b ys/\`x+ys.length<=sizeLine/\∀p H',Same H H'->SqT K H' p (xs++ys)->Q (.ref p) H'
theorem gf (hk:X.K=K):OpR X (binaryOp .Add) (rCatX K):=by
 subst hk;intro ad s Z H x y v u Q I rx ry h;obtain⟨a,b,xs,ys,rfl,rfl,ha,hb,hz,q⟩:=h;by_cases hx:xs=[]
 .subst hx;cases rx;cases ry;obtain⟨HB,r1,p1,_⟩:=I.tuple ha;obtain⟨dl,r2,p2,_⟩:=I.tuple hb;cases r1;obtain⟨⟨cls,dd,GT,sl⟩,ho,hc,n,hd⟩:=id p1;obtain⟨⟨HA,GE,Fn,Fr⟩,mt,Cl,n2,BT⟩:=id p2;simp only at hc hd Cl BT;subst hc hd Cl BT;exact concat_meets ⟨_,ho,rfl⟩ ⟨_,mt,rfl⟩ noFill_tuple_add seq_tuple_add PySem.F.slot_tuple_add PySem.F.entry_tuple_add (PySem.F.args_tuple_add_2 _ _)
   (tuple_addW0 a b ([]:List Value).toArray dl.toArray n n2 dd GE sl Fr rfl) ⟨ho,mt,⟨.ref b,H,I,rfl,q b H `r hb⟩⟩
 .refine mW ad s Z H _ _ v u Q I rx ry ⟨a,b,xs,ys,rfl,rfl,ha,hb,hx,hz,λe=>q a H `r (by rw[e,append_nil];exact ha),λ_ p hp=>q p _ (aT hp) (SqT.of aE)⟩
theorem AX {a b:Addr}{H:Hp}{Q:VK}:rCatX K (.ref a) (.ref b) H Q↔∃xs ys,SqT K H a xs/\SqT K H b ys/\`x+ys.length<=sizeLine/\∀p H',Same H H'->SqT K H' p (xs++ys)->Q (.ref p) H':=by
 constructor
 .rintro⟨p,p',xs,ys,h1,h2,h3⟩;cases h1;cases h2;exact⟨xs,ys,h3⟩
 .rintro⟨xs,ys,h⟩;exact⟨a,b,xs,ys,rfl,rfl,h⟩
def KindK (K:`F)(H:Hp)(x:V)(k:String):Prop:=kindV x H=some k\/∃a xs,x=.ref a/\SqT K H a xs/\k = "tuple"
theorem KindK.tup {K:`F}{H:Hp}{a:Addr}{xs:`V}(h:SqT K H a xs):KindK K H (.ref a) "tuple" := .inr ⟨a,xs,rfl,h,rfl⟩
end
end L2
namespace Wm
open PySem L2
section
variable {K:`F}{H:Hp}
theorem gh {l:Tq}{v:V}(h:IsK K H (st l) v):v=.str ⟨l.toArray⟩:=by cases h;rfl
theorem jv {o:Option Tq}{v:V}(h:IsK K H (oD o) v):v=otV o:=by
 cases o with
 |none=>cases h;rfl
 |some l=>exact gh h
theorem AY {o:Option Int}{v:V}(h:IsK K H (iD o) v):v=itV o:=by
 cases o with
 |none=>cases h;rfl
 |some l=>cases h;rfl
theorem oE {b:Bool}{v:V}(h:IsK K H (.bool b) v):v=.bl b:=by cases h;rfl
theorem fG {ds:List PyData}{v:V}(h:IsK K H (.tuple ds) v):∃p xs,v=.ref p/\SqT K H p xs/\IsKAll K H ds xs:=by
 cases h with
 |tup h1 h2=>exact⟨_,_,rfl,h1,h2⟩
theorem isK2 {a b:PyData}{v:V}(h:IsK K H (.tuple [a,b]) v):∃p x y,v=.ref p/\SqT K H p [x,y]/\IsK K H a x/\IsK K H b y:=by
 obtain⟨p,xs,rfl,hp,r⟩:=fG h;cases r with
 |cons h1 r=>cases r with
  |cons h2 r=>cases r;exact⟨p,_,_,rfl,hp,h1,h2⟩
theorem isK3 {a b c:PyData}{v:V}(h:IsK K H (.tuple [a,b,c]) v):∃p x y z,v=.ref p/\SqT K H p [x,y,z]/\IsK K H a x/\IsK K H b y/\IsK K H c z:=by
 obtain⟨p,xs,rfl,hp,r⟩:=fG h;cases r with
 |cons h1 r=>cases r with
  |cons h2 r=>cases r with
   |cons h3 r=>cases r;exact⟨p,_,_,_,rfl,hp,h1,h2,h3⟩
theorem isK6 {a b c d e f:PyData}{v:V}(h:IsK K H (.tuple [a,b,c,d,e,f]) v):∃p x0 x1 x2 x3 x4 x5,v=.ref p/\SqT K H p [x0,x1,x2,x3,x4,x5]/\IsK K H a x0/\IsK K H b x1/\IsK K H c x2/\IsK K H d x3/\IsK K H e x4/\IsK K H f x5:=by
 obtain⟨p,xs,rfl,hp,r⟩:=fG h;cases r with
 |cons h1 r=>cases r with
  |cons h2 r=>cases r with
   |cons h3 r=>cases r with
    |cons h4 r=>cases r with
     |cons h5 r=>cases r with
      |cons h6 r=>cases r;exact⟨p,_,_,_,_,_,_,rfl,hp,h1,h2,h3,h4,h5,h6⟩
theorem oF:∀{ss:List Tq}{xs:`V},IsKAll K H (ss.map st) xs->xs=ss.map λl=>V.str `A
 |[],_,h=>by cases h;rfl
 |s::ss,_,h=>by
  cases h with
  |cons h1 h2=>rw[gh h1,oF h2];rfl
theorem oG:∀(ss:List Tq),IsKAll K H (ss.map st) (ss.map λl=>V.str `A)
 |[]=>.nil
 |s::ss=>.cons (.str _) (oG ss)
theorem oH (o:Option Tq):IsK K H (oD o) (otV o):=(ci o).k
theorem AZ (o:Option Int):IsK K H (iD o) (itV o):=(jq o).k
theorem gi {r e:Bool}{ss:List Tq}{v:V}(h:IsK K H (.tuple [.bool r,.tuple (ss.map st),.bool e]) v):∃p q,v=.ref p/\SqT K H p [.bl r,.ref q,.bl e]/\SqT K H q (ss.map λl=>V.str `A):=by obtain⟨p,x,y,z,rfl,hp,h1,h2,h3⟩:=isK3 h;cases oE h1;cases oE h3;obtain⟨q,xs,rfl,hq,r⟩:=fG h2;cases oF r;exact⟨p,q,rfl,hp,hq⟩
theorem wayK {r e:Bool}{ss:List Tq}{p q:Addr}(hp:SqT K H p [.bl r,.ref q,.bl e])(hq:SqT K H q (ss.map λl=>V.str `A)):IsK K H (.tuple [.bool r,.tuple (ss.map st),.bool e]) (.ref p):=
 .tup hp (.cons (.bl _) (.cons (.tup hq (oG _)) (.cons (.bl _) .nil)))
theorem bu {x:Ad}{v:V}(h:IsK K H x.data v):∃p w q,v=.ref p/\SqT K H p [.str ⟨x.scheme.toArray⟩,otV x.house,itV x.door,w,q,otV x.mark]/\IsK K H x.way w/\IsK K H (qD x.quest) q:=by obtain⟨p,x0,x1,x2,x3,x4,x5,rfl,hp,i0,i1,i2,i3,i4,i5⟩:=isK6 (show IsK K H (.tuple [st x.scheme,oD x.house,iD x.door,x.way,qD x.quest,oD x.mark]) v from h);cases gh i0;cases jv i1;cases AY i2;cases jv i5;exact⟨p,x3,x4,rfl,hp,i3,i4⟩
theorem adK {x:Ad}{p:Addr}{w q:V}(hp:SqT K H p [.str ⟨x.scheme.toArray⟩,otV x.house,itV x.door,w,q,otV x.mark])(hw:IsK K H x.way w)(hq:IsK K H (qD x.quest) q):IsK K H x.data (.ref p):=
 .tup hp (.cons (.str _) (.cons (oH _) (.cons (AZ _) (.cons hw (.cons hq (.cons (oH _) .nil))))))
end
noncomputable abbrev Way:=Bool×List Stp×Bool
noncomputable def Ad.w (x:Ad):Way:=(x.rooted,x.steps,x.ends)
noncomputable def Ad.withWay (x:Ad)(w:Way):Ad:={ x with rooted:=w.1,steps:=w.2.1,ends:=w.2.2}
noncomputable def goneV (w:Way):Way:=goneW w.1 w.2.1 w.2.2
noncomputable def Ad.gone (x:Ad):Ad:=x.withWay (goneV x.w)
noncomputable def wayOf (w:Way):PyData:=.tuple [.bool w.1,.tuple (w.2.1.map st),.bool w.2.2]
noncomputable abbrev sV (l:Tq):V:=.str `A
theorem B0 {α:Type}{l:List α}{i:Nat}{a:α}(h:l[i]?=some a):l.drop i=a::l.drop (i+1):=by obtain⟨hi,e⟩:=List.getElem?_eq_some_iff.mp h;rw[<- e];exact List.drop_eq_getElem_cons hi
theorem B1 {H:Hp}:∀(ss:List Tq),IsAll H (ss.map st) (ss.map sV)
 |[]=>.nil
 |s::ss=>.cons (.str _) (B1 ss)
theorem oJ {H:Hp}:∀(ss:List Tq),IsTAll H (ss.map st) (ss.map sV)
 |[]=>.nil
 |s::ss=>.cons (.str _) (oJ ss)
theorem jw {α:Type}{l:List α}{s:α}(g:α->V)(h:l.getLast?=some s):atI (l.map g) (-1)=some (g s):=by
 obtain⟨pre,rfl⟩:=List.getLast?_eq_some_iff.mp h;have e:ixN ((pre++[s]).map g).length (-1)=some pre.length:=by unfold ixN;simp;try lia
 unfold atI;rw[e];simp
theorem oK {r e:Bool}{ss:List Tq}(h:∀s∈ss,∀c∈s,isSg c=true):SeqAt.shaped (wayOf (r,ss,e))=true:=by
 refine LayAt.shaped (n:=2) (.tup (n:=1) λd hd=>?_) `d;simp only[mem_cons,not_mem_nil,or_false] at hd;rcases hd with rfl|rfl|rfl
 .exact LayAt.bool.le `d
 .refine .tup (n:=0) λd hd=>?_;obtain⟨s,hs,rfl⟩:=mem_map.mp hd;exact .st (h s hs)
 .exact LayAt.bool.le `d
end Wm
namespace L2
open PySem
theorem cj {X:Cx}{K:`F}(h:X.K=K):OpR X (compareOp .In) (rIn K false):=by subst h;exact xj
theorem B2 {l:Addr}{H:Hp}{Q:VK}:rPop (.ref l) [] H Q↔∃xs y,H l=some (.lst xs)/\xs[`x - 1]?=some y/\Q y (upd H l (.lst xs.dropLast)):=
 ⟨λ⟨_,xs,y,h1,_,h3,h4,h5⟩=>by cases h1;exact⟨xs,y,h3,h4,h5⟩,λ⟨xs,y,h3,h4,h5⟩=>⟨_,xs,y,rfl,rfl,h3,h4,h5⟩⟩
theorem B3 {H:Hp}{p:Addr}{o:HO}(h:H p=some o):upd H p o=H:=by
 funext b
 by_cases e:b=p
 .subst e;rw[aE,h]
 .rw[aD e]
theorem B4 {D:Ends}{Z:St}{H:Hp}:(tNever D Z H)=(False):=rfl
end L2
namespace Wm
open PySem L2
structure Ad.Tiny (x:Ad):Prop where
 stp:∀s∈x.steps,s.length<=9
 que:∀ps,x.quest=some ps->ps.length<=3/\∀p∈ps,p.1.length<=5/\∀v,p.2=some v->v.length<=6
 mar:∀l,x.mark=some l->`L<=7
 hou:∀l,x.house=some l->`L<=13
noncomputable def noWay:Way:=(false,[],false)
theorem oM (a b:Way):PyData.eqv (wayOf a) (wayOf b)=decide (a=b):=by
 obtain⟨r,ss,e⟩:=a;obtain⟨q,tt,f⟩:=b;rw[Bool.eq_iff_iff,decide_eq_true_eq];simp only[wayOf,PyData.eqv,PyData.eqvAll,Bool.and_eq_true,Bool.and_true,beq_iff_eq,Prod.mk.injEq];constructor
 .rintro⟨h1,h2,h3⟩;exact⟨h1,(ge nj _ _).mp h2,h3⟩
 .rintro⟨h1,h2,h3⟩;exact⟨h1,(ge nj _ _).mpr h2,h3⟩
noncomputable def cutA {α:Type}(xs:List α)(lo hi:Option Int):List α:=(xs.drop (HT.sIx `x 0 lo)).take (HT.sIx `x `x hi - HT.sIx `x 0 lo)
theorem B5 {α:Type}(xs:List α){n:Nat}{i:Int}(h:HT.sIx `x `x (some i)=n):cutA xs none (some i)=xs.take n:=by unfold cutA;rw[h,show HT.sIx `x 0 none=0 from rfl,drop_zero,Nat.sub_zero]
theorem B6 {α:Type}(xs:List α):cutA xs none (some (-1))=xs.dropLast:=by rw[B5 (n:=`x - 1),List.dropLast_eq_take];show (if (-1:Int) < 0 then ((-1:Int)+(`x:Int)).toNat else min (-1:Int).toNat `x)=_;rw[if_pos `d];lia
section
variable {H:Hp}
theorem wayT' {r e:Bool}{ss:List Tq}{p q:Addr}(hp:H p=some (.tup [.bl r,.ref q,.bl e]))(hq:H q=some (.tup (ss.map λl=>V.str `A))):IsT H (.tuple [.bool r,.tuple (ss.map st),.bool e]) (.ref p):=
 .tup hp (.cons (.bl _) (.cons (.tup hq (oJ _)) (.cons (.bl _) .nil)))
theorem B7 {x:Ad}{v:V}(h:IsT H x.data v):∃p w q,v=.ref p/\H p=some (.tup [.str ⟨x.scheme.toArray⟩,otV x.house,itV x.door,w,q,otV x.mark])/\IsT H x.way w/\IsT H (qD x.quest) q:=by obtain⟨p,x0,x1,x2,x3,x4,x5,rfl,hp,i0,i1,i2,i3,i4,i5⟩:=isT6 (show IsT H (.tuple [st x.scheme,oD x.house,iD x.door,x.way,qD x.quest,oD x.mark]) v from h);cases nk i0;cases nn i1;cases AS i2;cases nn i5;exact⟨p,x3,x4,rfl,hp,i3,i4⟩
theorem adT {x:Ad}{p:Addr}{w q:V}(hp:H p=some (.tup [.str ⟨x.scheme.toArray⟩,otV x.house,itV x.door,w,q,otV x.mark]))(hw:IsT H x.way w)(hq:IsT H (qD x.quest) q):IsT H x.data (.ref p):=
 .tup hp (.cons (.str _) (.cons (ci _) (.cons (jq _) (.cons hw (.cons hq (.cons (ci _) .nil))))))
end
theorem Ad.Wf.local {x:Ad}(h:x.Wf):({x with scheme:=[],house:=none,door:=none}:Ad).Wf:=
 ⟨⟨Nat.zero_le _,(λc hc=>by cases hc),(λc hc=>by cases hc)⟩,(λl e=>by cases e),(λl e=>by cases e),h.stp,(λz=>z.elim (λy=>absurd rfl y) (λy=>absurd rfl y)),h.end_,h.que,h.mar⟩
def Goods (n:Nat)(H:Hp)(vs:`V):Prop:=∀v∈vs,∃x:Ad,x.Wf/\x.steps.length<=n/\IsT H x.data v
theorem Goods.cons {n:Nat}{H:Hp}{v:V}{vs:`V}{x:Ad}(h1:x.Wf)(h2:x.steps.length<=n)(h3:IsT H x.data v)(h:Goods n H vs):Goods n H (v::vs):=λu hu=>by
 rcases mem_cons.mp hu with rfl|hu
 .exact⟨x,h1,h2,h3⟩
 .exact h u hu
structure GoodAd (n:Nat)(x:Ad):Prop where
 wf:x.Wf
 ti:x.Tiny
 sc:x.scheme≠[]
 ln:x.steps.length<=n
theorem GoodAd.le {n m:Nat}{x:Ad}(h:GoodAd n x)(hm:n<=m):GoodAd m x:=⟨h.wf,h.ti,h.sc,Nat.le_trans h.ln hm⟩
theorem GoodAd.rt {n:Nat}{x:Ad}(h:GoodAd n x):x.rooted=true:=h.wf.roo (.inl h.sc)
end Wm
namespace L2
open PySem PySem.Spec PyProof.Rows
theorem B8:fillsNumberSlot (.type "tuple") "mul"=pure false:=PySem.fillsNumberSlot_seq (id := "tuple.__mul__") (r:=some (.builtin "tuple.__rmul__")) F.slot_tuple_mul.lookup `k F.slot_tuple_rmul.lookup `k
theorem B9:seqRepeat? (.type "tuple")=pure (some (.builtin "tuple.__mul__")):=by unfold seqRepeat?;rw[PySem.seqSlot_of (T := "tuple") (name := "__mul__") (id := "tuple.__mul__") F.slot_tuple_mul.lookup `k,PySem.seqSlot_of (T := "tuple") (name := "__rmul__") (id := "tuple.__rmul__") F.slot_tuple_rmul.lookup `k];rfl
theorem Ba (a:Int)(t:Tok)(l:Addr)(items:Array Value)(n:Nat)(dd:Option Addr)(sl:Array (Option Value)) :
  Meets (Builtin.«int.__rmul__» ⟨[.int a t,.ref l],[]⟩) (λ_ R s=>s.heap.get? l=some {cls:=.type "tuple",dict:=dd,data:=.seq items n,slots:=sl}/\R (.ok (.ret Value.notImplemented)) s):=
 .of_wp λprog w A R s h=>by
  obtain⟨hp,g,d,tk,os⟩:=s;obtain⟨hl,h⟩:=h
  wp_walk;exact⟨_,rfl,h⟩
def rRepN:R2:=λx y H Q=>∃a k xs,x=.ref a/\y=.int k/\H a=some (.tup xs)/\0<=k/\k < 1000/\`x * k.toNat<=sizeLine/\∀p H',Same H H'->H' p=some (.tup (List.replicate k.toNat xs).flatten)->Q (.ref p) H'
theorem Bb {a:Addr}{k:Int}{H:Hp}{Q:VK}:rRepN (.ref a) (.int k) H Q↔∃xs,H a=some (.tup xs)/\0<=k/\k < 1000/\`x * k.toNat<=sizeLine/\∀p H',Same H H'->H' p=some (.tup (List.replicate k.toNat xs).flatten)->Q (.ref p) H':=by
 constructor
 .rintro⟨a',k',xs,h1,h2,h⟩;cases h1;cases h2;exact⟨xs,h⟩
 .rintro⟨xs,h⟩;exact⟨a,k,xs,rfl,rfl,h⟩
theorem Bc (l:Addr)(items:Array Value)(n:Nat)(dd:Option Addr)(sl:Array (Option Value))(u:Tok)(h0:items.isEmpty=false) :
  Meets (Builtin.«tuple.__mul__» ⟨[.ref l,.int 0 u],[]⟩) (λ_ R s=>s.heap.get? l=some {cls:=.type "tuple",dict:=dd,data:=.seq items n,slots:=sl}/\
   R (.ok (.ret (Value.ref `z))) {s with heap:=s.heap.push {cls:=Value.type "tuple",data:=Data.seq #[]},toks:=s.toks}):=
 .of_wp λprog w A R s h=>by
  obtain⟨hp,g,d,tk,os⟩:=s;obtain⟨hl,h⟩:=h;unfold Builtin.«tuple.__mul__»;have h1:¬ (decide ((0:Int) < -(2 ^ 63)) || decide ((0:Int) ≥ 2 ^ 63))=true:=by decide
  have hx1:¬ (items.isEmpty || ((0:Int) == 1))=true:=by rw[h0];decide
  have hx2:(decide ((0:Int)<=0) || items.isEmpty)=true:=by simp
  wp_walk
  first|rw[if_neg h1]|skip
  wp_walk
  first|rw[if_neg hx1]|skip
  try dsimp only
  first|rw[if_pos hx2]|skip
  exact⟨_,rfl,h⟩
section
variable {X:Cx}
def rRep0:R2:=λx y H Q=>∃a v xs,x=.ref a/\y=.int 0/\H a=some (.tup (v::xs))/\∀p H',Same H H'->H' p=some (.tup [])->Q (.ref p) H'
theorem Bd:OpR X (binaryOp .Mult) rRep0:=by
 intro dl s Z H x y v u Q I rx ry h;obtain⟨a,w,xs,rfl,rfl,hH,q⟩:=h;cases rx;obtain⟨t,rfl⟩:=ry;obtain⟨ad,r,p,hl⟩:=I.tuple (SqT.of hH);obtain⟨⟨cls,dd,mt,sl⟩,ho,hc,n,hd⟩:=id p;simp only at hc hd;subst hc hd;have h0:ad.toArray.isEmpty=false:=by
  cases ad with
  |nil=>cases r
  |cons=>rfl
 refine wpAny_binaryOp_repeat_ref (T := "tuple") (U := "int") `d p.typeIs (λs'=>typeIs_int s' 0 t) B8 F.fills_int_mul F.slot_int_rmul B9 F.slot_int_index.lookup
  (call_meets F.slot_int_rmul (typeIs_int s 0 t) F.entry_int_rmul (F.args_int_rmul_2 _ _) (Ba 0 t a ad.toArray n dd sl) ⟨ho,rfl,p.typeIs,call_meets F.slot_tuple_mul p.typeIs F.entry_tuple_mul (F.args_tuple_mul_2 _ _) (Bc a _ n dd sl t h0) ⟨ho,?_⟩⟩)
 have hf:H `z=none:=I.hok.fresh `n;refine⟨.ref `z,_,I.laid (t':=s.toks) (o:=.tup []) (λb ob q=>Heap.get?_push_of_some _ q) `n ?_,rfl,q _ _ (aT hf) aE⟩;exact⟨Nat.zero_le _,[],.nil,IsTup.new _ _⟩
end
def CompI2 (K:`F)(J:It)(p:Addr)(fv:St)(tt:TT)(te:TE)(Q:VK)(H1:Hp):Prop:=
 ∃W:Nat->Nat->`V->Hp->Prop,(∃m,W 0 m [] (upd H1 p (.lst [])))/\∀i m ys H2,W i m ys H2->H2 p=some (.lst ys)/\
  ((J.stop i H2/\Q (.ref p) H2)\/(J.go i H2/\ys.length < sizeLine/\∀z H3,J.yld i H2 z H3->∃a x y,z=.ref a/\SqT K H3 a [x,y]/\tt (some x::some y::fv) H3 λb H4=>
   if b=true then te (some x::some y::fv) H4 λy H5=>H5 p=some (.lst ys)/\∃m',m' < m/\W (i+1) m' (ys++[y]) (upd H5 p (.lst (ys++[y])))
   else ∃m',m' < m/\W (i+1) m' ys H4))
def tComp2 (K:`F)(wi:TI)(fr:Tq)(tt:TT)(te:TE):TE:=λZ H Q=>wi Z H λJ H1=>∀p,H1 p=none->CompI2 K J p (frV Z fr) tt te Q H1
section
variable {p:Addr}{fv:St}{te:TE}{Q:VK}{H1:Hp}{K:`F}
theorem Be {a:Addr}{xs zs:`V}{f:Nat->V×V}(hxs:SqT K H1 a xs)(hlen:`x<=sizeLine)(hp:H1 p=none)(hz:zs.length=`x)
  (hit:∀(i:Nat) (x:V) (H':Hp),xs[i]?=some x->Same H1 H'->∃b,x=.ref b/\SqT K H' b [(f i).1,(f i).2])
  (he:∀(i:Nat) (z:V),i < `x->zs[i]?=some z->∀(H':Hp) (T:VK),Same H1 H'->(∀H'',Same H' H''->T z H'')->te (some (f i).1::some (f i).2::fv) H' T)
  (hQ:∀H',Same H1 H'->H' p=some (.lst zs)->Q (.ref p) H'):CompI2 K (Itt K a) p fv tYes te Q H1:=by
 refine⟨λi m ys H2=>m=`x - i/\i<=`x/\ys=zs.take i/\H2 p=some (.lst ys)/\Same H1 H2,⟨`x,`s,Nat.zero_le _,`s,aE,λb o e=>by rw[aD (aJ e hp)];exact e⟩,?_⟩;rintro i m ys H2 ⟨rfl,hi,rfl,dl,sm⟩;refine⟨dl,?_⟩;have q:=sm.tup hxs;by_cases ad:i < `x
 .refine .inr ⟨⟨xs,xs[i],q,by simp[ad]⟩,?_,λx H3 y=>?_⟩
  .rw[length_take];lia
  .obtain⟨rfl,y⟩:=y;have hc:=y xs q;obtain⟨b,rfl,hb⟩:=hit i x H3 hc sm;refine⟨b,_,_,rfl,hb,?_⟩;unfold tYes;dsimp only;rw[if_pos rfl];have mt:zs[i]?=some zs[i]:=by simp[hz,ad]
   refine he i _ ad mt _ _ sm λH5 s5=>⟨s5 _ _ dl,`x - (i+1),`l,rfl,ad,?_,aE,λb o e=>?_⟩
   .rw[take_add_one,mt];rfl
   .rw[aD (aJ e hp)];exact s5 _ _ (sm _ _ e)
 .have e:i=`x:=by lia
  subst e;refine .inl ⟨⟨xs,q,Nat.le_refl _⟩,hQ H2 sm ?_⟩;rw[dl,<- hz,take_length]
theorem Bf {tl:TE}{tt:TT}{fr:Tq}{Z:St}{H:Hp}:(tComp2 K (iTup K tl) fr tt te Z H Q)=(tl Z H λx H1=>∃a,x=.ref a/\(∃xs,SqT K H1 a xs)/\∀p,H1 p=none->CompI2 K (Itt K a) p (frV Z fr) tt te Q H1):=rfl
end
end L2
namespace Wm
open PySem L2
noncomputable def low1 (c:Nat):Nat:=if 65<=c/\c<=90 then c+32 else c
theorem Bg:∀c,c < 128->isSg c=true->isSg (low1 c)=true:=`k
theorem Bh:∀c,c < 128->isAln c=true->isAln (low1 c)=true:=`k
theorem Bi:∀c,c < 128->isLet c=true->isLet (low1 c)=true:=`k
theorem Bj (c:Nat):low1 (low1 c)=low1 c:=by unfold low1;split <;> (try split) <;> lia
noncomputable def lowT (l:Tq):Tq:=l.map low1
theorem oN (l:Tq):lowT (lowT l)=lowT l:=by unfold lowT;rw[map_map];exact map_congr_left (λc _=>Bj c)
theorem jx (l:Tq):(lowT l).length=`L:=length_map ..
theorem fH {c:Nat}(h:isSg c=true):c < 128:=by have:=bi h;lia
end Wm
namespace L2
open PySem PySem.Spec PySem.W PyProof.Rows
noncomputable abbrev vErr:List Value:=[.type "ValueError",.type "Exception",.type "BaseException",.type "object"]
noncomputable abbrev vNew:String := "ValueError.__new__"
noncomputable def clsIs (d:Data)(f:ClassData->Bool):Bool:=match d with
 |.cls c=>f c
 |_=>false
theorem Bk {d:Data}{f:ClassData->Bool}(q:clsIs d f=true):∃c,d=.cls c/\f c=true:=by
 cases d with
 |cls c=>exact⟨c,rfl,q⟩
 |_=>cases q
noncomputable def excInJ (K:Frag)(C:Addr)(bmB:List Value)(newId:String)(v:Option Value):Bool:=match K.lookup C with
 |some o=>o.cls == .type "type" && clsIs o.data λcd=>cd.mro == .ref C::cd.mro.tail && (o.slots == #[o.slots.getD 0 none,o.slots.getD 1 none,o.slots.getD 2 none,o.slots.getD 3 none,some (.builtin newId),o.slots.getD 5 none] && (!cd.hasDel && (tailIn K bmB cd.mro.tail && (nsOkIn K cd.ns && nsIn K cd.ns "__init__" == some v))))
 |_=>false
theorem dZ {a b:Bool}(h:(a && b)=true):a=true/\b=true:=by cases a;cases h;exact⟨rfl,h⟩
noncomputable abbrev clsO (cd:ClassData)(C:Addr)(tl:List Value)(dd:Option Addr)(a:Nat->Option Value)(nid:String):Obj:=excClassObj cd.name cd.qualname C cd.ns cd.bases tl cd.hasDict cd.slotNames cd.subclasses cd.abstract cd.collection dd (a 0) (a 1) (a 2) (a 3) (a 5) nid
theorem Bl {o:Obj}{cd:ClassData}{C:Addr}{tl:List Value}{a:Nat->Option Value}{nid:String}(h0:o.cls=.type "type")(h1:o.data=.cls cd)(h2:cd.mro=.ref C::tl)(h3:o.slots=#[a 0,a 1,a 2,a 3,some (.builtin nid),a 5])(h4:cd.hasDel=false) :
  o=clsO cd C tl o.dict a nid:=by
 cases o;cases cd;cases h0;cases h1;cases h2;cases h3;cases h4;rfl
theorem excObjJ {K:Frag}{h:Heap}{C:Addr}{bb:List Value}{nid:String}{v:Option Value}(kin:K.In h)(q:excInJ K C bb nid v=true) :
  ∃cd tl dd a,h.get? C=some (clsO cd C tl dd a nid)/\(nsOkIn K cd.ns=true/\nsIn K cd.ns "__init__"=some v)/\OwnTail h bb tl:=by
 unfold excInJ at q;generalize lk:K.lookup C=r at q;cases r with
 |none=>cases q
 |some o=>have q:=dZ q;obtain⟨cd,e,q1⟩:=Bk q.2;have q1:=dZ q1;have q3:=dZ q1.2;have q4:=dZ q3.2;have q5:=dZ q4.2;have q6:=dZ q5.2;exact⟨cd,_,_,_,(kin _ _ lk).trans (congrArg some (Bl (a:=(o.slots.getD · none)) (beq_iff_eq.mp q.1) e (beq_iff_eq.mp q1.1) (beq_iff_eq.mp q3.1) ((Bool.not_eq_true' _).mp q4.1))),⟨q6.1,beq_iff_eq.mp q6.2⟩,tail_of_in kin q5.1⟩
def Raises (X:Cx)(E:XK):Prop:=∀(pins:`O) (Z:St) (H:Hp) (s:Shared) (h':Heap) (e C:Addr),Inv X pins Z H s->Heap.MadeExcOf s.heap h' e (.ref C) []->E (.ref C) none H->X.xe (.ref e) {s with heap:=h' }
def tRaise (E:XK)(C:Addr):TS:=λ_ _ H=>E (.ref C) none H
theorem Bm {E:XK}{C:Addr}{D:Ends}{Z:St}{H:Hp}:(tRaise E C D Z H)=(E (.ref C) none H):=rfl
theorem ck {X:Cx}{x:Str}{C:Addr}{E:XK}{np cpos pos:Pos}(hx:Raises X E)(hg:Gl X x)(hm:X.mg x=some (.ref C))(hc:excInJ X.K C vErr vNew none=true)(hcalm:X.calm=true)(hdb:(x == ("__debug__" : Str))=false:=by decide) :
  PS X (.Raise (some (.Call (.Name x np) [] [] cpos)) none pos) (tRaise E C):=by
 intro ad s Z H D I h;obtain⟨cd,tl,dd,a,hC,⟨dl,mt⟩,T⟩:=excObjJ I.kIn hc;have hN:=Heap.Ns.of_isNs (isNs_of_in I.kIn dl);have mt:=nsMap_none_of_in I.kIn dl mt;refine wpAny_Raise_call_subU (C:=C) (nm:=cd.name) (q:=cd.qualname) (N:=cd.ns) (bs:=cd.bases) (bm:=tl) (hdct:=cd.hasDict) (sn:=cd.slotNames) (sub:=cd.subclasses) (ab:=cd.abstract) (col:=cd.collection) (dd:=dd) (k0:=a 0) (k1:=a 1) (k2:=a 2) (k3:=a 3) (k5:=a 5)
  F.excBase_ValueError `d F.excBase_ValueError (mN:=_) (T.hasType F.excBase_ValueError.hasBase) (I.ok.hd hcalm) rfl mt (dG I hg hm ⟨rfl,?_⟩ hdb)
 exact evalArgs_empty ⟨rfl,Nat.zero_le _,hC,hN,T,λh' e BT=>hx ad Z H s h' e C I BT h⟩
theorem ObjOk.ex {P:Program}{w:World}{H:Hp}{h:Heap}{a:Addr}{o:HO}(x:ObjOk P w H h a o):∃u,h.get? a=some u:=by
 cases o with
 |lst xs=>obtain⟨_,_,_,_,e⟩:=x;exact⟨_,e⟩
 |tup xs=>obtain⟨_,_,_,_,e,_⟩:=x;exact⟨_,e⟩
 |dK kvs=>obtain⟨_,_,_,_,_,_,_,e,_⟩:=x;exact⟨_,e⟩
 |dT kvs=>obtain⟨_,_,_,_,_,_,_,e,_⟩:=x;exact⟨_,e⟩
 |set S n=>obtain⟨_,_,_,_,e,_⟩:=x;exact⟨_,e⟩
 |ins C dx fs=>obtain⟨_,_,_,e,_⟩:=x;exact⟨_,e⟩
 |own y=>exact x
 |xd fs=>obtain⟨_,⟨_,_,_,e,_⟩,_⟩:=x;exact⟨_,e⟩
 |rng lo hi=>obtain⟨_,_,_,e⟩:=x;exact⟨_,e⟩
 |frz ob u=>exact⟨_,x.1⟩
 |tbl ps=>exact⟨_,x⟩
 |met f y=>exact⟨_,x⟩
 |ext φ=>exact x.2.1
structure Flown (P:Program)(w:World)(base:Heap)(outer:List Env)(H:Hp)(s:Shared)(a t C:Addr)(B:Heap)(H':Hp)(s':Shared):Prop where
 os:s'.os=s.os
 bare:AllBare s'.gens
 st:base.StaysIn B
 fly:Heap.FlyingW B outer a (.ref C) (.ref t) s'.heap
 hok:HOk P w H' B
 un:Un (frs outer) [] H H' s.heap s'.heap
 kb:∀b o,s.heap.get? b=some o->H b=none->b∉frs outer->B.get? b=some o
 thB:∀b o,s.heap.get? b=some o->b∉frs outer->∃o',B.get? b=some o'
noncomputable def CXE (P:Program)(w:World)(base:Heap):CXT:=λouter H s E e s'=>∃(a t C:Addr) (B:Heap) (H':Hp),e=.ref a/\E (.ref C) none H'/\Flown P w base outer H s a t C B H' s'
theorem cm {env:Env}{L:Addr}{outer:List Env}(hf:env.frame=some L){b:Addr}:b∈frs (env::outer)↔b=L\/b∈frs outer:=by unfold frs;rw[filterMap_cons,hf];exact mem_cons
section
variable {P:Program}{w:World}{K:Frag}{mg:Str->Option Value}{base:Heap}{N:List Str}{qual:Str}{scope:Scope}{f:Addr}{cd:Value}{A:Around}{outer:List Env}{s:Shared}{H:Hp}{E:XK}
theorem Bn:Raises (cxOf (CXE P w base) P w K mg base N qual scope f cd A outer s H E) E:=by
 intro Fn Z H1 s1 h' e C I hm hE;have hf:(envOfC qual scope `z f cd).frame=some `z:=rfl;have stk:s1.heap.FunFrames base (envOfC qual scope `z f cd::outer):=I.stack;have Cl:∀b∈frs (envOfC qual scope `z f cd::outer),H1 b=none:=I.stkFree;have ib:Un (frs outer) [] H H1 s.heap s1.heap:=I.base;have ne:∀b o,s.heap.get? b=some o->b∉frs outer->b∉frs (envOfC qual scope `z f cd::outer):=λb o q n z=>by
  rcases (cm hf).mp z with z|z
  .exact absurd (Heap.lt_size q) (by rw[z];exact Nat.lt_irrefl _)
  .exact n z
 show wpAny (model P w) (A.deeper (envOfC qual scope `z f cd)) (leaving (envOfC qual scope `z f cd) (.ref e)) _ _ _;refine wpAny_leaves_madeW (base:=hideAll s1.heap (frs (envOfC qual scope `z f cd::outer))) (h:=s1.heap) I.ok.frames hf (λb o q=>of_hideAll _ q)
  (funFrames_hide stk λenv he b hb=>mem_filterMap.mpr ⟨env,he,hb⟩) hm λh2 t x1 x2 x3 x4=>?_
 have dl:∀b o,s.heap.get? b=some o->H b=none->b∉frs outer->(hideAll s1.heap (frs (envOfC qual scope `z f cd::outer))).get? b=some o:=λb o q n nf=>
  hideAll_get _ (ib.keep b o q n nf `s) (ne b o q nf)
 have mt:∀b o,s.heap.get? b=some o->b∉frs outer->∃o',(hideAll s1.heap (frs (envOfC qual scope `z f cd::outer))).get? b=some o':=λb o q nf=>by obtain⟨o',z⟩:=ib.there b o q `s;exact⟨o',hideAll_get _ z (ne b o q nf)⟩
 have ad:∀b,b∈frs outer->∀o,s1.heap.get? b=some o->∃sl,h2.get? b=some {o with slots:=sl}:=λb hb o q=>by obtain⟨_,o2,q2,nd⟩:=stk.mem ((cm hf).mpr (.inr hb));rw[q] at q2;cases q2;exact x4 b o (hm.keeps b o q) nd
 refine⟨e,t,C,_,H1,rfl,hE,⟨I.os,I.bare,λb o q=>?_,x1,λa u q=>?_,⟨λb o q n nf _=>x1.1 b o (dl b o q n nf),λb o q n hb _=>?_,ib.free,λb o q _=>?_,ib.tups,ib.frzs,ib.tbls⟩,dl,mt⟩⟩
 .exact hideAll_get _ (I.bk b o q) λz=>by rw[(stk.mem z).1] at q;cases q
 .refine (I.hok a u q).stay (λb v hb z=>hideAll_get _ z λm=>?_) (λ_ z=>z) λ_ _ z=>z;have:=Cl b m;rcases hb with rfl|hb
  .rw[q] at this;cases this
  .rw[hb] at this;cases this
 .obtain⟨sl,z⟩:=ib.slot b o q n hb `s;obtain⟨BT,z'⟩:=ad b hb _ z;exact⟨BT,z'⟩
 .by_cases hb:b∈frs outer
  .obtain⟨o',z⟩:=ib.there b o q `s;obtain⟨BT,z'⟩:=ad b hb _ z;exact⟨_,z'⟩
  .obtain⟨o',z⟩:=mt b o q hb;exact⟨o',x1.1 b o' z⟩
theorem Bo:Passes (CXE P w base) (cxOf (CXE P w base) P w K mg base N qual scope f cd A outer s H E) E:=by
 intro Cl Z H1 s1 e s2 I hq;obtain⟨a,t,C,B,H2,rfl,hE,W⟩:=hq;have hf:(envOfC qual scope `z f cd).frame=some `z:=rfl;have ib:Un (frs outer) [] H H1 s.heap s1.heap:=I.base;have W:Flown P w base (envOfC qual scope `z f cd::outer) H1 s1 a t C B H2 s2:=W;have ne:∀b o,s.heap.get? b=some o->b∉frs outer->b∉frs (envOfC qual scope `z f cd::outer):=λb o q n z=>by
  rcases (cm hf).mp z with z|z
  .exact absurd (Heap.lt_size q) (by rw[z];exact Nat.lt_irrefl _)
  .exact n z
 show wpAny (model P w) (A.deeper (envOfC qual scope `z f cd)) (leaving (envOfC qual scope `z f cd) (.ref a)) _ _ _;refine wpAny_leaves_onW I.ok.frames hf W.fly λh3 x1 x2=>?_;have dl:∀b o,s.heap.get? b=some o->H b=none->b∉frs outer->B.get? b=some o:=λb o q n nf=>
  W.kb b o (ib.keep b o q n nf `s) (ib.free b o q n `s) (ne b o q nf)
 have mt:∀b o,s.heap.get? b=some o->b∉frs outer->∃o',B.get? b=some o':=λb o q nf=>by obtain⟨o',z⟩:=ib.there b o q `s;exact W.thB b o' z (ne b o q nf)
 have ad:∀b,b∈frs outer->∀o,s2.heap.get? b=some o->∃sl,h3.get? b=some {o with slots:=sl}:=λb hb o q=>by obtain⟨_,o2,q2,nd⟩:=W.fly.2.2.1.mem ((cm hf).mpr (.inr hb));rw[q] at q2;cases q2;exact x2 b o q nd
 refine⟨a,t,C,B,H2,rfl,hE,⟨W.os.trans I.os,W.bare,W.st,x1,W.hok,⟨λb o q n nf _=>x1.1 b o (dl b o q n nf),λb o q n hb _=>?_,λb o q n _=>?_,λb o q _=>?_,λb xs q=>W.un.tups b xs (ib.tups b xs q),λb o u q=>W.un.frzs b o u (ib.frzs b o u q),λb ps q=>?_⟩,dl,mt⟩⟩
 .obtain⟨sl,z⟩:=ib.slot b o q n hb `s;obtain⟨Fn,z1⟩:=W.un.slot b _ z (ib.free b o q n `s) ((cm hf).mpr (.inr hb)) `s;obtain⟨BT,z'⟩:=ad b hb _ z1;exact⟨BT,z'⟩
 .obtain⟨o',z⟩:=ib.there b o q `s;exact W.un.free b o' z (ib.free b o q n `s) `s
 .by_cases hb:b∈frs outer
  .obtain⟨o',z⟩:=ib.there b o q `s;obtain⟨Fr,z1⟩:=W.un.there b o' z `s;obtain⟨BT,z'⟩:=ad b hb _ z1;exact⟨_,z'⟩
  .obtain⟨o',z⟩:=mt b o q hb;exact⟨o',x1.1 b o' z⟩
 .obtain⟨m1,z⟩:=ib.tbls b ps q;obtain⟨m2,z2⟩:=W.un.tbls b _ z;exact⟨m1++m2,by rw[z2,Array.append_assoc]⟩
end
noncomputable def exO (a C:Addr):HO:=.ext λh=>∃o,h.get? a=some o/\o.cls=.ref C
noncomputable abbrev Cx.handling (X:Cx)(e:Value):Cx:={ X with A:=X.A.mark (some e),calm:=false,xe:=λ_ _=>False}
section
variable {X:Cx}{pins:`O}{Z:St}{H H1 H2:Hp}{s s1 s2:Shared}
theorem Inv.handling (e:Value)(I:Inv X pins Z H s):Inv (X.handling e) pins Z H s:=
 ⟨⟨I.ok.mod,I.ok.kind,I.ok.glob,I.ok.blt,I.ok.above,I.ok.inj,I.ok.has,I.ok.cab,`E,I.ok.frames,I.ok.stk,I.ok.exf,I.ok.bs,I.ok.bsz,I.ok.noex,I.ok.exfs,I.ok.funs,I.ok.frf⟩,I.os,I.bare,I.base,I.loc,I.cell,I.free,I.freeC,I.pin,I.hok,I.len⟩
theorem Inv.handled {e:Value}(J:X.Ok)(I:Inv (X.handling e) pins Z H s):Inv X pins Z H s:=⟨J,I.os,I.bare,I.base,I.loc,I.cell,I.free,I.freeC,I.pin,I.hok,I.len⟩
theorem Flown.new {P:Program}{w:World}{base B h5:Heap}{outer:List Env}{a t C:Addr}{a0:Value}(W:Flown P w base outer H1 s1 a t C B H2 s2):H2 a=none:=by
 cases q:H2 a with
 |none=>rfl
 |some u=>obtain⟨o,z⟩:=(W.hok a u q).ex;rw[W.fly.2.1] at z;cases z
theorem Inv.caught {a t C:Addr}{B h5:Heap}{a0:Value}(I:Inv X pins Z H1 s1)(W:Flown X.prog X.w X.base X.stack H1 s1 a t C B H2 s2)(f5:Heap.FlyingW B X.stack a (.ref C) a0 h5)(sm:s2.heap.UpToSlots h5) :
  Inv X pins Z (upd H2 a (exO a C)) {s2 with heap:=h5}:=by
 have hn:H2 a=none:=W.new (h5:=h5) (a0:=a0);obtain⟨oe,vs,T,oT,ts,he,_,hd,_⟩:=W.fly.2.2.2;have fr:∀b∈frs X.stack,∀o,s2.heap.get? b=some o->b≠a/\∃sl,h5.get? b=some {o with slots:=sl}:=λb hb o q=>by obtain⟨_,o2,q2,nd⟩:=W.fly.2.2.1.mem hb;rw[q] at q2;cases q2;refine⟨λz=>?_,sm b o q nd⟩;rw[z,he] at q;cases q;exact nd _ hd
 have na:∀b o,s1.heap.get? b=some o->b≠a:=λb o q=>by
  by_cases hb:b∈frs X.stack
  .obtain⟨o',z⟩:=W.un.there b o q `s;exact (fr b hb o' z).1
  .obtain⟨o',z⟩:=W.thB b o q hb;rintro rfl;rw[W.fly.2.1] at z;cases z
 refine I.call' (H':=upd H2 a (exO a C)) (s':={ s2 with heap:=h5}) (ch:=[]) W.os ⟨λb o q n nf _=>f5.1 b o (W.kb b o q n nf),λb o q n hb _=>?_,λb o q n _=>?_,λb o q _=>?_,λb xs q=>?_,λb o u q=>?_,λb ps q=>?_⟩ (λb u q=>?_) W.bare (λb z=>by cases z)
 .obtain⟨sl,z⟩:=W.un.slot b o q n hb `s;obtain⟨_,ad,z'⟩:=fr b hb _ z;exact⟨ad,z'⟩
 .rw[aD (na b o q)];exact W.un.free b o q n `s
 .by_cases hb:b∈frs X.stack
  .obtain⟨o',z⟩:=W.un.there b o q `s;obtain⟨_,ad,z'⟩:=fr b hb _ z;exact⟨_,z'⟩
  .obtain⟨o',z⟩:=W.thB b o q hb;exact⟨o',f5.1 b o' z⟩
 .have z:=W.un.tups b xs q;rw[aD (aJ z hn)];exact z
 .have z:=W.un.frzs b o u q;rw[aD (aJ z hn)];exact z
 .obtain⟨m,z⟩:=W.un.tbls b ps q;exact⟨m,by rw[aD (aJ z hn)];exact z⟩
 .by_cases hb:b=a
  .subst hb;rw[aE] at q;cases q;obtain⟨ob,dl,mt⟩:=f5.there;exact⟨⟨ob,dl,mt⟩,⟨ob,dl⟩,λh1 h2 ⟨o,z,c⟩ k=>⟨o,k o z,c⟩⟩
  .rw[aD hb] at q;refine (W.hok b u q).stay (λc v _ z=>f5.1 c v z) (λc z=>?_) λc xs z=>?_
   .rw[aD (aJ z hn)];exact z
   .rw[aD (aJ z hn)];exact z
theorem Inv.goes {M:Model}{A:Around}{E:`T}{i:Nat}{n:Str}{pos:Pos}{Q:Unit->Shared->Prop}(I:Inv X pins Z H s)(nd:X.N.Nodup)(hi:X.N[i]?=some n)(hl:X.env.scope.names.lookup n=some .local)
  (h:∀s',Inv X pins (Z.set i none) H s'->Q () s'):wpAny M A (do bindName X.env n .none;unbindBehindTheSuite X.env n pos) Q E s:=by
 obtain⟨m,hn,BT⟩:=id I.loc;have dl:(X.env.scope.kind == .class || (X.env.scope.kind == .module && X.env.locals != X.env.globals))=false:=by rw[I.ok.kind];rfl
 have hiσ:i < Z.length:=by rw[I.len];exact (List.getElem?_eq_some_iff.mp hi).1
 refine wpAny_nameGoes_keeps hl hn dl λh' v mt hs=>h _ ?_;have ad:∀b o,X.s₀.heap.get? b=some o->b≠X.env.locals:=λb o e=>Nat.ne_of_lt (Nat.lt_of_lt_of_le (Heap.lt_size e) I.ok.above);refine⟨I.ok,I.os,I.bare,⟨λb o e z hb hx=>(hs.2 b (ad b o e)).trans (I.base.keep b o e z hb hx),λb o e z hb hx=>?_,I.base.free,λb o e hx=>?_,I.base.tups,I.base.frzs,I.base.tbls⟩,⟨_,mt,λj y v' e1 e2 e3=>?_⟩,λy c e=>?_,I.free,I.freeC,λp hp=>?_,λb ob e=>?_,by simpa using I.len⟩
 .obtain⟨sl,e1⟩:=I.base.slot b o e z hb hx;exact⟨sl,(hs.2 b (ad b o e)).trans e1⟩
 .obtain⟨o',e1⟩:=I.base.there b o e hx;exact⟨o',(hs.2 b (ad b o e)).trans e1⟩
 .by_cases hj:j=i
  .subst hj;rw[List.getElem?_set_self hiσ] at e2;cases e2
  .rw[List.getElem?_set_ne (Ne.symm hj)] at e2;obtain⟨u',r',q⟩:=BT j y v' e1 e2 e3;refine⟨u',r',?_⟩;rcases q with⟨k,e⟩|⟨k,c,e,z⟩
   .refine .inl ⟨k,?_⟩;have:y≠n:=λe=>hj (jI nd e1 (e▸hi));simp[this,e]
   .exact .inr ⟨k,c,e,z.sameBut hs (I.cne y c e)⟩
 .obtain⟨w',z⟩:=I.cell y c e;exact⟨w',z.sameBut hs (I.cne y c e)⟩
 .obtain⟨e,n1,ne,nf,d⟩:=I.pin p hp;exact⟨(hs.2 p.1 ne).trans e,n1,ne,nf,d⟩
 .refine (I.hok b ob e).stay (λc w' hc q=>(hs.2 c ?_).trans q) (λ_ q=>q) λ_ _ q=>q;rintro rfl;rcases hc with rfl|hc
  .rw[I.free] at e;cases e
  .rw[I.free] at hc;cases hc
end
structure Catch (K:Frag)(W:Addr):Prop where
 ty:typeIn K (.ref W)=some (.type "type")
 ex:subIn K (.ref W) (.type "BaseException")=some true
 cl:(clsIn K W).isSome=true
theorem Bp {K:Frag}{M:Model}{h:Heap}{a W C:Addr}{o:Obj}(kin:K.In h)(ha:h.get? a=some o)(hc:o.cls=.ref C)(cw:Catch K W)(hs:subIn K (.ref C) (.ref W)=some true):Looks M h (excMatches (.ref a) (.ref W)) true:=by
 have L1:=looks_typeIn (M:=M) kin cw.ty;have L2:=looks_subIn (M:=M) kin cw.ex;have L3:=looks_subIn (M:=M) kin hs;have L4:Looks M h (typeOf (.ref a)) (.ref C):=hc▸(Looks.ld ha).andThen .now;have L5:Looks M h (isInstance (.ref W) (.type "tuple")) false:=L1.andThen (Looks.of_pure tc_notTuple);have L6:Looks M h (isType (.ref W)) true:=by
  have z:=cw.cl;unfold clsIn at z;split at z
  .next lk=>
   intro A' Q' E' s' k q;unfold isType loadHead;exact wpAny_bind (wpAny_loadPart (k _ _ (kin _ _ lk)) (wpAny_pure q))
  .cases z
 intro A Q E s k q;unfold excMatches isExcClass;refine wpAny_bind (L5 A _ E s k ?_);simp only[Bool.false_eq_true,if_false];refine wpAny_bind (wpAny_pure ?_);refine wpAny_bind ?_;rw[forIn_cons];refine wpAny_bind (wpAny_bind (wpAny_bind (L6 A _ E s k ?_)));simp only[if_true];refine L2 A _ E s k ?_;simp only[Bool.not_true,Bool.false_eq_true,if_false];refine wpAny_pure ?_;dsimp only;rw[forIn_nil];refine wpAny_pure ?_;refine wpAny_bind (L4 A _ E s k ?_);refine wpAny_bind ?_;rw[forIn_cons];refine wpAny_bind (wpAny_bind (L3 A _ E s k ?_));simp only[if_true];refine wpAny_pure ?_;dsimp only;exact wpAny_pure (wpAny_pure q)
end L2
namespace L2
open PySem PySem.Spec PySem.W PySem.Calls PyProof.Rows PySem.Builtin PySem.Builtin.ObjectAttr PySem.Builtin.Getset_descriptor
structure ExLook (K:Frag)(C:Addr):Prop where
 ga:findIn K (.ref C) "__getattribute__"=some (some (.builtin "BaseException.__getattribute__"))
 cl:findIn K (.ref C) "__class__"=some (some (.builtin "object.__class__"))
 na:findIn K (.ref C) "__getattr__"=some none
 mo:mroIn K C (.type "object")=some true
 mb:mroIn K C (.type "BaseException")=some true
 is:(clsIn K C).isSome=true
section
variable {prog:Program}{w:World}{A:Around}{E:`T}{hh:Heap}{g:Array GenState}{dr:Drawn}{t:Nat}{os:OsState}{K:Frag}{a C:Addr}{o:Obj}
theorem fJ {M:Model}(hx:hh.get? a=some o)(hc:o.cls=.ref C):Looks M hh (typeOf (.ref a)) (.ref C):=hc▸(Looks.ld hx).andThen .now
theorem Bq {tp:Value}{R:Result->Shared->Prop}(kin:K.In hh)(hx:hh.get? a=some o)(hc:o.cls=.ref C)(hm:mroIn K C (.type "object")=some true)
  (h:R (.ok (.ret (.ref C))) ⟨hh,g,dr,t,os⟩):codeAny `M A (.call (.builtin "getset_descriptor.__get__") ⟨[.builtin "object.__class__",.ref a,tp],[]⟩) R ⟨hh,g,dr,t,os⟩:=by
 have lt:=fJ (M:=model prog w) hx hc;have ls:=looks_mroIn (M:=model prog w) kin hm
 refine codeAny_call_builtin KF.slot_gs.plain KF.entry_gs (KF.slot_gs.check _ _ _ _ _ _ _ _ KF.type_class (KF.args_gs _ _ _) ?_);unfold Builtin.«getset_descriptor.__get__» descrGet;rw[dga_obj];refine wpAny_bind (wpAny_pure ?_);unfold descrGetter descrCheckInstance descrNameAndClass isInstance;simp only[KF.owner_class];repeat lk
 refine⟨Code.quiet_builtin _ `k,codeAny_builtin KF.entry_class ?_⟩;unfold Builtin.«object.__class__» shownTypeOf;repeat lk
 exact h
theorem Br {tk:Tok}{Q:Fin->Shared->Prop}(kin:K.In hh)(hx:hh.get? a=some o)(hc:o.cls=.ref C)(L:ExLook K C)(hq:Q (.done (.ret (.ref C))) ⟨hh,g,dr,t,os⟩) :
  wpAny `M A (Builtin.«object.__getattribute__» ⟨[.ref a,.str "__class__" tk],[]⟩) Q E ⟨hh,g,dr,t,os⟩:=by
 have lt:=fJ (M:=model prog w) hx hc;have lc:=looks_findIn (M:=model prog w) kin L.cl
 have ad:(⟨hh,g,dr,t,os⟩:Shared).TypeIs (.builtin "object.__class__") "getset_descriptor" := F.typeOf_object_class;have f5:=F.typeOf_object_class;have f6:=F.slot_gs_get.lookup;have f7:=F.slot_gs_set.lookup
 repeat (any_goals (first|assumption|with_reducible refine Looks.at lt ?_|with_reducible refine Looks.at lc ?_|wp_step))
 refine Bq kin hx hc L.mo ?_;repeat (any_goals (first|assumption|wp_step))
theorem Bs {M:Model}{nv:Value}{Q:Unit->Shared->Prop}(kin:K.In hh)(hx:hh.get? a=some o)(hc:o.cls=.ref C)(L:ExLook K C)(hq:Q () ⟨hh,g,dr,t,os⟩) :
  wpAny M A (checkBuiltinCall "BaseException.__getattribute__" ⟨[.ref a,nv],[]⟩) Q E ⟨hh,g,dr,t,os⟩:=by
 have lt:=fJ (M:=M) hx hc;have lb:=looks_mroIn (M:=M) kin L.mb
 have z1:builtinKind "BaseException.__getattribute__"=some .slot:=by fail "k"
 have z2:splitId "BaseException.__getattribute__"=some ("BaseException","__getattribute__"):=by fail "k"
 have z3:=F.args_bexc_ga (.ref a) nv;simp only[checkBuiltinCall,z1,z2];refine wpAny_bind ?_;unfold isInstance;repeat (first|with_reducible refine Looks.at lt ?_|with_reducible refine Looks.at lb ?_|wp_step)
 exact hq
theorem Bt {tk:Tok}{Q:`T}(kin:K.In hh)(hx:hh.get? a=some o)(hc:o.cls=.ref C)(L:ExLook K C)(gb:Slot "ValueError" "__getattribute__" "BaseException.__getattribute__")(hq:Q (.ref C) ⟨hh,g,dr,t,os⟩) :
  wpAny `M A (getAttrBy (.ref a) (.str "__class__" tk) false) Q E ⟨hh,g,dr,t,os⟩:=by
 have lt:=fJ (M:=model prog w) hx hc;have lg:=looks_findIn (M:=model prog w) kin L.ga;have ln:=looks_findIn (M:=model prog w) kin L.na
 have f3:=gb.bind (.ref a);have y2:(Value.builtin "BaseException.__getattribute__" == Value.builtin "object.__getattribute__")=false:=by fail "k"
 have y1:(onTheHeap (Value.ref C) && Value.builtin "BaseException.__getattribute__" == Value.builtin "object.__getattribute__")=false:=by rw[y2];rfl
 repeat (any_goals (first|assumption|with_reducible refine Looks.at lt ?_|with_reducible refine Looks.at lg ?_|with_reducible refine Looks.at ln ?_|wp_step))
 refine codeAny_call_builtin gb.plain F.entry_bexc_ga (Bs kin hx hc L (Br kin hx hc L ?_));repeat (any_goals (first|assumption|wp_step))
theorem Bu {s:Shared}{Q:Option Value->Shared->Prop}(kin:K.In s.heap)(hx:s.heap.get? a=some o)(hc:o.cls=.ref C)(L:ExLook K C)(gb:Slot "ValueError" "__getattribute__" "BaseException.__getattribute__")(hq:Q (some (.ref C)) {s with toks:=s.toks+1}) :
  wpAny `M A (getAttr? (.ref a) "__class__") Q E s:=by
 obtain⟨hh,g,dr,t,os⟩:=s;unfold getAttr? getAttrBy?;repeat (any_goals (first|assumption|with_reducible apply Bt kin hx hc L gb|wp_step))
theorem Bv (L:ExLook K C)(gb:Slot "ValueError" "__getattribute__" "BaseException.__getattribute__"):KitX K (.ref a) (.ref C) (λh=>∃o,h.get? a=some o/\o.cls=.ref C) where
 ty:=λ_ _ _ ⟨o,hx,hc⟩=>fJ hx hc
 it:=λ_ _ X _=>by
  have z:=L.is;unfold clsIn at z;split at z
  .next lk=>
   intro A' Q' E' s' k q;unfold isType loadHead;exact wpAny_bind (wpAny_loadPart (k _ _ (X _ _ lk)) (wpAny_pure q))
  .cases z
 ne:=λh tp dd its n sl X htp=>by
  have z:=L.is;refine Bool.eq_false_iff.mpr λq=>?_;obtain rfl:C=tp:=Value.ref.inj (beq_iff_eq.mp q);unfold clsIn at z;split at z
  .next lk=>
   have y:=(X _ _ lk).symm.trans htp;cases y
  .cases z
 ca:=λX ⟨o,hx,hc⟩ k=>Bu X hx hc L gb k
end
inductive KitAns (K:Frag)(H:Hp)(C:Addr):V->Bool->Prop
 |cls {W:Addr}{b:Bool}:kitOne K (.ref C) (.ref W)=some b->KitAns K H C (.ref W) b
 |ty {T:String}{b:Bool}:kitOne K (.ref C) (.type T)=some b->KitAns K H C (.ty T) b
 |tup {p:Addr}{cs:List Addr}{b:Bool}:H p=some (.tup (cs.map V.ref))->kitAny K (.ref C) (cs.map Value.ref)=some b->KitAns K H C (.ref p) b
theorem oO:∀{cs:List Addr}{us:List Value},Vals (cs.map V.ref) us->us=cs.map Value.ref
 |[],_,.nil=>rfl
 |_::_,_,.cons r rs=>by cases r;rw[oO rs];rfl
end L2
namespace L2
open PySem PySem.Spec PyProof.Rows
theorem sw3 (x y:Str)(t u:Tok)(i:Nat)(v:Tok) :
  Meets (Builtin.«str.startswith» ⟨[.str x t,.str y u,.int (i:Int) v],[]⟩) (λ_ R s=>R (.ok (.ret (.bool (decide (i+y.length<=x.length) && Builtin.Str.subAt x y i)))) s):=
 .of_wp λprog w A R s h=>by
  obtain⟨hp,g,d,tk,os⟩:=s;unfold Builtin.«str.startswith»
  wp_walk
  rw[F.slot_int_index.lookup]
  wp_walk
  refine⟨_,rfl,?_⟩;have e1:(max (0:Int) (if (i:Int) < 0 then (i:Int)+(x.length:Int) else (i:Int))).toNat=i:=by rw[if_neg `l];lia
  have e2:min ((x.length:Nat):Int).toNat x.length=x.length:=by lia
  dsimp only;rw[e1,e2];exact h
section
variable {X:Cx}
def rStarts:V->`V->Hp->VK->Prop:=λx vs H Q=>∃z y,∃i:Nat,x=.str z/\vs=[.str y,.int (i:Int)]/\Q (.bl (decide (i+y.length<=z.length) && Builtin.Str.subAt z y i)) H
theorem Bw:MtR X "str.startswith" rStarts:=by intro ad s Z H x vs v us Q I rx rv h;obtain⟨z,y,i,rfl,rfl,q⟩:=h;obtain⟨t,rfl⟩:=rx;obtain⟨u1,u2,rfl,r1,r2⟩:=vals2 rv;obtain⟨t1,rfl⟩:=r1;obtain⟨t2,rfl⟩:=r2;exact call_meets F.slot_str_startswith (typeIs_str _ _ _) F.entry_str_startswith (F.args_str_startswith_3 _ _ _) (sw3 z y t t1 i t2) ⟨.bl _,H,I,rfl,q⟩
end
section
variable {X:Cx}
def rPart:V->`V->Hp->VK->Prop:=λx vs H Q=>∃z y,x=.str z/\vs=[.str y]/\(y.length == 0)=false/\z.length<=sizeLine/\
 ∀p,H p=none->Q (.ref p) (upd H p (.tup [.str (Txt.partition z y).1,.str (Txt.partition z y).2.1,.str (Txt.partition z y).2.2]))
theorem fK:MtR X "str.partition" rPart:=by
 intro ad s Z H x vs v us Q I rx rv h;obtain⟨z,y,rfl,rfl,hy,hz,q⟩:=h;obtain⟨t,rfl⟩:=rx;obtain⟨u,rfl,t',rfl⟩:=vals1 rv;have hf:H `z=none:=I.hok.fresh `n;have q:=q _ hf;refine call_meets F.slot_str_partition (typeIs_str _ _ _) F.entry_str_partition (F.args_str_partition_2 _ _) (meets_str_partition z y t t' hy hz) ?_;unfold Txt.partition at q;revert q;cases Builtin.Str.occurrences z y 0 z.length 1 with
 |nil=>intro q;refine⟨.ref `z,_,I.laid (t':=s.toks+1) (o:=.tup _) (λb u e=>Heap.get?_push_of_some _ e) `l ?_,rfl,q⟩;exact⟨by show 3<=sizeLine;decide,_,.cons `o (.cons `o (.cons `o .nil)),IsTup.new _ _⟩
 |cons i r=>intro q;refine⟨.ref `z,_,I.laid (t':=s.toks+1+1) (o:=.tup _) (λb u e=>Heap.get?_push_of_some _ e) `l ?_,rfl,q⟩;exact⟨by show 3<=sizeLine;decide,_,.cons `o (.cons `o (.cons `o .nil)),IsTup.new _ _⟩
end
theorem oP {us:List Value}{d:Value}(h:(us++[d]).length=3):∃x y,us=[x,y]:=by
 match us,h with
 |[x,y],_=>exact⟨x,y,rfl⟩
 |[],h=>simp at h
 |[_],h=>simp at h
 |_::_::_::_,h=>simp at h
section
variable {X:Cx}
def rIntS:`V->Hp->VK->Prop:=λxs H Q=>∃z n,xs=[.str z]/\z.length<=640/\PySem.intText? z=some n/\Q (.int n) H
theorem oQ:CallR X (.type "int") rIntS:=by intro pins s Z H xs us Q I r h;obtain⟨z,n,rfl,hz,hn,q⟩:=h;obtain⟨u,rfl,t,rfl⟩:=vals1 r;exact PySem.W.KIN.call_text hn hz ⟨.int n,H,I.tok _,`o,q⟩
theorem Bx {z:Str}{H:Hp}{Q:VK}:rIntS [.str z] H Q↔∃n,z.length<=640/\PySem.intText? z=some n/\Q (.int n) H:=
 ⟨λ⟨_,n,e,h⟩=>by cases e;exact⟨n,h⟩,λ⟨n,h⟩=>⟨z,n,rfl,h⟩⟩
theorem By {z y:Str}{i:Nat}{H:Hp}{Q:VK}:rStarts (.str z) [.str y,.int (i:Int)] H Q↔Q (.bl (decide (i+y.length<=z.length) && Builtin.Str.subAt z y i)) H:=
 ⟨λ⟨_,_,j,e1,e2,h⟩=>by
  cases e1;injection e2 with e2 e3;cases e2;injection e3 with e3;injection e3 with e3;obtain rfl:i=j:=by lia
  exact h,λh=>⟨z,y,i,rfl,rfl,h⟩⟩
theorem oR {z y:Str}{H:Hp}{Q:VK}:rPart (.str z) [.str y] H Q↔(y.length == 0)=false/\z.length<=sizeLine/\∀p,H p=none->Q (.ref p) (upd H p (.tup [.str (Txt.partition z y).1,.str (Txt.partition z y).2.1,.str (Txt.partition z y).2.2])):=
 ⟨λ⟨_,_,e1,e2,h⟩=>by cases e1;cases e2;exact h,λh=>⟨z,y,rfl,rfl,h⟩⟩
theorem Bz {K:`F}{ta:TE}{f:Str}{Z:St}{H:Hp}{Q:VK}:(tFld K ta f Z H Q)=(ta Z H λx H1=>FldE K f x H1 λv=>Q v H1):=rfl
theorem BA {K:`F}{ta tv:TE}{f:Str}{D:Ends}{Z:St}{H:Hp}:(sFld K ta tv f D Z H)=(tv Z H λy H1=>ta Z H1 λx H2=>SfE K f x y H2 λH'=>D.nx Z H'):=rfl
theorem BB {C:Addr}{m:Str}{sp:Sp}{dvs:`V}{E:XK}{ta:TE}{t:TA}{Z:St}{H:Hp}{Q:VK}:(tMeth C m sp dvs E ta t Z H Q)=(ta Z H λx H1=>MeE C m x H1 (t Z H1 λvs H2=>sp (x::(vs++dvs)) H2 Q E)):=rfl
theorem BC {C:Addr}{sp:Sp}{dvs:`V}{E:XK}{t:TA}{Z:St}{H:Hp}{Q:VK}:(tMake C sp dvs E t Z H Q)=(t Z H λvs H1=>∀x dx,H1 x=none->H1 dx=none->dx≠x->sp (.ref x::(vs++dvs)) (upd (upd H1 dx (.own x)) x (.ins C dx [])) (λv H2=>v=.non/\Q (.ref x) H2) E):=rfl
end
end L2
namespace Wm
open PySem L2
theorem jy (t w:Tq)(i:Nat)(hi:i<=`t):(decide (i+(⟨w.toArray⟩:Str).length<=(⟨t.toArray⟩:Str).length) && Builtin.Str.subAt ⟨t.toArray⟩ ⟨w.toArray⟩ i)=decide ((t.drop i).take w.length=w):=by
 rw[aN,aN];have e:Builtin.Str.subAt ⟨t.toArray⟩ ⟨w.toArray⟩ i=decide ((t.drop i).take w.length=w):=by unfold Builtin.Str.subAt;rw[aN,Bool.eq_iff_iff,beq_iff_eq,decide_eq_true_eq];show (t.toArray.extract i (i+w.length)=w.toArray)↔_;rw[<- Array.toList_inj];simp
 rw[e];by_cases h:(t.drop i).take w.length=w
 .have hl:=congrArg List.length h;rw[length_take,length_drop] at hl;rw[decide_eq_true h,Bool.and_true];by_cases hw:w.length=0
  .rw[hw,Nat.add_zero];exact decide_eq_true hi
  .exact decide_eq_true `l
 .rw[decide_eq_false h,Bool.and_false]
theorem occ1 (x y:Str):∀(l:Tq) (free:Nat),(∀i∈l,free<=i) ->
  (forIn l ((#[]:Array Nat),free) (StrLaws.occBody x y x.length 1)).run.fst.toList=(l.find? λi=>decide (i+y.length<=x.length) && Builtin.Str.subAt x y i).toList
 |[],free,_=>rfl
 |a::l,free,hf=>by
  rw[forIn_cons,List.find?_cons];have ha:free<=a:=hf a `f;by_cases hc:a+y.length<=x.length/\Builtin.Str.subAt x y a=true
  .have e:(decide (a+y.length<=x.length) && Builtin.Str.subAt x y a)=true:=by rw[decide_eq_true hc.1,hc.2];rfl
   rw[e];unfold StrLaws.occBody;rw[if_pos ⟨⟨⟨`s,ha⟩,hc.1⟩,hc.2⟩];have full:∀(l:Tq) (st:Array Nat×Nat),st.1.size=1->(forIn l st (StrLaws.occBody x y x.length 1)).run.fst=st.1:=by
    intro l;induction l with
    |nil=>intro st _;rfl
    |cons b l ih=>intro st hs;rw[forIn_cons];unfold StrLaws.occBody;rw[if_neg (λh=>by have:=h.1.1.1;lia)];exact ih st hs
   show (forIn l ((#[]:Array Nat).push a,a+y.length) (StrLaws.occBody x y x.length 1)).run.fst.toList=_;rw[full l _ `s];simp
  .have e:(decide (a+y.length<=x.length) && Builtin.Str.subAt x y a)=false:=by
    cases h1:Builtin.Str.subAt x y a with
    |false=>rw[Bool.and_false]
    |true=>rw[Bool.and_true];exact decide_eq_false λz=>hc ⟨z,h1⟩
   rw[e];unfold StrLaws.occBody;rw[if_neg (λh=>hc ⟨h.1.2,h.2⟩)];exact occ1 x y l free λi hi=>hf i (mem_cons_of_mem _ hi)
noncomputable def ahead (t:Tq):Tq:=t.takeWhile λc=>decide (c≠58)
theorem BD (t:Tq)(i:Nat):(decide (i+(⟨[58].toArray⟩:Str).length<=(⟨t.toArray⟩:Str).length) && Builtin.Str.subAt ⟨t.toArray⟩ ⟨[58].toArray⟩ i)=decide (t[i]?=some 58):=by
 by_cases hi:i<=`t
 .rw[jy t [58] i hi,decide_eq_decide];cases h:t.drop i with
  |nil=>have:t[i]?=none:=List.getElem?_eq_none (by have:=congrArg List.length h;rw[length_drop,length_nil] at this;lia);rw[this];simp
  |cons c r=>
   have:t[i]?=some c:=by rw[<- List.head?_drop,h];rfl
   rw[this];simp
 .rw[List.getElem?_eq_none `l,aN,aN,decide_eq_false (by rw[length_singleton];lia)];rfl
theorem BE (t:Tq):∀(k:Nat),k<=`t->(t.take k).all (λc=>decide (c≠58))=true ->
  ((List.range' k (`t+1 - k)).find? λi=>decide (t[i]?=some 58))=if 58∈t then some (ahead t).length else none:=by
 intro k;induction hn:`t - k generalizing k with
 |zero=>
  intro hk ha;have e:k=`t:=by lia
  subst e;rw[take_length] at ha;have mt:58∉t:=λh=>by have:=all_eq_true.mp ha 58 h;simp at this
  rw[if_neg mt,show `t+1 - `t=1 by lia];simp
 |succ n ih=>
  intro hk ha;have dl:k < `t:=by lia
  have hc:t[k]?=some t[k]:=List.getElem?_eq_getElem dl;rw[show `t+1 - k=(`t+1 - (k+1))+1 by lia,List.range'_succ,List.find?_cons,hc];by_cases ad:t[k]=58
  .rw[ad];simp only[decide_true];rw[if_pos (by rw[<- ad];exact getElem_mem dl)]
   congr 1
   have ht:t=t.take k++58::t.drop (k+1):=by rw[<- ad,List.getElem_cons_drop,List.take_append_drop]
   unfold ahead;rw[ht,List.takeWhile_append_of_pos (λc BT=>all_eq_true.mp ha c BT),List.takeWhile_cons_of_neg `s];simp;lia
  .rw[show decide (some t[k]=some 58)=false from decide_eq_false (by simpa using ad)];refine ih (k+1) `l `l ?_;rw[take_add_one,hc,List.all_append,ha];simpa using ad
theorem BF (t:Tq):(Txt.partition ⟨t.toArray⟩ ⟨[58].toArray⟩).1=⟨(ahead t).toArray⟩:=by
 have e:Builtin.Str.occurrences (⟨t.toArray⟩:Str) ⟨[58].toArray⟩ 0 (⟨t.toArray⟩:Str).length 1=(if 58∈t then some (ahead t).length else none).toList:=by rw[StrLaws.occ_eq,occ1 _ _ _ _ (λi _=>Nat.zero_le i)];simp only[BD];rw[aN];exact congrArg Option.toList (BE t 0 (Nat.zero_le _) rfl)
 unfold Txt.partition;rw[e];by_cases h:58∈t
 .rw[if_pos h];show Builtin.Str.strSub ⟨t.toArray⟩ 0 (ahead t).length=_;unfold Builtin.Str.strSub;have hp:t.take (ahead t).length=ahead t:=(List.prefix_iff_eq_take.mp (List.takeWhile_prefix _)).symm;rw[<- hp,length_take];have:(ahead t).length<=`t:=(List.takeWhile_prefix _).length_le;rw[show min (ahead t).length `t=(ahead t).length by lia];show (⟨t.toArray.extract 0 (ahead t).length⟩:Str)=_;simp
 .rw[if_neg h];have ad:∀l:Tq,58∉l->ahead l=l:=λl=>by
   induction l with
   |nil=>intro _;rfl
   |cons c l ih=>intro hl;have h1:c≠58:=λz=>hl (by rw[z];exact mem_cons_self ..);unfold ahead;rw[List.takeWhile_cons,if_pos (decide_eq_true h1)];exact congrArg (c::·) (ih λz=>hl (mem_cons_of_mem _ z))
  have:ahead t=t:=ad t h;rw[this];rfl
def Cur (H:Hp)(C p:Addr)(t:Tq)(k:Nat):Prop:=∃dx,H p=some (.ins C dx [("text",.str ⟨t.toArray⟩),("place",.int (k:Int))])
inductive WrT (fr:Tq):Tq->Tq->Prop
 |nil:WrT fr [] []
 |self {c:Nat}{s w:Tq}:(isPl c=true\/c∈fr)->c≠126->WrT fr s w->WrT fr (c::s) (c::w)
 |pair {c a b:Nat}{s w:Tq}:sgO a b=some c->WrT fr s w->WrT fr (c::s) (126::a::b::w)
def Stops (fr r:Tq):Prop:=∀c,r.head?=some c->isPl c=false/\c∉fr/\c≠126
noncomputable def moV:Option Nat->V
 |none=>.non
 |some m=>.int (m:Int)
theorem cn {fr s:Tq}(h:∀c∈s,isSg c=true):WrT fr s (wr s):=by
 induction s with
 |nil=>exact .nil
 |cons c s ih=>
  have hc:=h c `f;have ih:=ih λd hd=>h d (mem_cons_of_mem _ hd);show WrT fr (c::s) (wr1 c++wr s);unfold wr1;by_cases hp:isPl c=true
  .rw[if_pos hp];exact .self (.inl hp) (λz=>by rw[z] at hp;cases hp) ih
  .rw[if_neg hp];exact .pair (Ax hc) ih
theorem oS {a n:Nat}(h:fig a=some n):a < 128/\n < 16/\(n < 10->a=48+n):=by
 unfold fig at h;split at h
 .cases h;lia
 .split at h
  .cases h;lia
  .split at h
   .cases h;lia
   .cases h
theorem oU {a b c:Nat}(h:sgO a b=some c):a∈(ofString "234567").cps.toList/\a < 128/\b < 128/\isSg c=true:=by
 unfold sgO at h;cases ha:fig a with
 |none=>simp[ha] at h
 |some n=>
  cases hb:fig b with
  |none=>simp[ha,hb] at h
  |some m=>
   simp only[ha,hb] at h;split at h
   .next hs=>
    cases h;obtain⟨a1,a2,a3⟩:=oS ha;obtain⟨b1,b2,_⟩:=oS hb;have hr:=hs;simp only[isSg,Bool.and_eq_true,decide_eq_true_eq] at hr;have e:=a3 `l;refine⟨?_,a1,b1,hs⟩;have ad:∀n,n < 8->2<=n->48+n∈(ofString "234567").cps.toList:=by fail "k"
    rw[e];exact ad n `l `l
   .cases h
section
variable {K:`F}{H:Hp}{C p:Addr}{t:Tq}{i:Nat}
theorem BG {v u:V}:List.lookup (ofString "text") [(ofString "text",v),(ofString "place",u)]=some v:=by rw[lookup_cons,beq_self_eq_true]
theorem BH {v u:V}:List.lookup (ofString "place") [(ofString "text",v),(ofString "place",u)]=some u:=by rw[lookup_cons,show (ofString "place" == ofString "text")=false by fail "k",lookup_cons,beq_self_eq_true]
theorem cp {R:V->Prop}(h:Cur H C p t i)(cl:Cls K C)(n:NoAttr K C "text")(r:R (.str ⟨t.toArray⟩)):FldE K (ofString "text") (.ref p) H R:=
 let ⟨dx,hp⟩:=h
 ⟨p,C,dx,_,_,rfl,hp,cl,n,BG,r⟩
theorem b9 {R:V->Prop}(h:Cur H C p t i)(cl:Cls K C)(n:NoAttr K C "place")(r:R (.int (i:Int))):FldE K (ofString "place") (.ref p) H R:=
 let ⟨dx,hp⟩:=h
 ⟨p,C,dx,_,_,rfl,hp,cl,n,BH,r⟩
theorem BI {v u w:V}:putF (ofString "place") w [(ofString "text",v),(ofString "place",u)]=[(ofString "text",v),(ofString "place",w)]:=by
 have h:ofString "text" ≠ ofString "place" := by fail "k"
 simp only[putF,if_neg h,if_true]
theorem oW {N:Hp->Prop}{z:Int}(h:Cur H C p t i)(cl:Cls K C)(n:NoAttr K C "place")(j:Nat)(hz:z=(j:Int))(hN:∀H',SameBut p H H'->Cur H' C p t j->N H') :
  SfE K (ofString "place") (.ref p) (.int z) H N:=by
 obtain⟨dx,hp⟩:=h;refine⟨p,C,dx,_,rfl,hp,cl,n,by show 2 < 1000;decide,?_⟩;rw[BI,hz];exact hN _ b8 ⟨dx,aE⟩
theorem BJ {m:Str}{v u:V}(h1:(m == ofString "text")=false)(h2:(m == ofString "place")=false):List.lookup m [(ofString "text",v),(ofString "place",u)]=none:=by rw[lookup_cons,h1,lookup_cons,h2];rfl
theorem ao {R:Prop}{m:Str}(h:Cur H C p t i)(r:R)(h1:(m == ofString "text")=false:=by fail "k")(h2:(m == ofString "place")=false:=by fail "k") :
  MeE C m (.ref p) H R:=
 let ⟨dx,hp⟩:=h
 ⟨p,dx,_,rfl,hp,BJ h1 h2,r⟩
theorem Cur.same {H':Hp}(h:Cur H C p t i)(s:Same H H'):Cur H' C p t i:=let ⟨dx,hp⟩:=h;⟨dx,s _ _ hp⟩
end
noncomputable def plS:Tq:=(ofString "abcdefghijklmnopqrstuvwxyzABCDEFGHIJKLMNOPQRSTUVWXYZ0123456789-_.").cps.toList
theorem oX:plS.length=65:=`k
theorem oY {c:Nat}(h:c < 128):(c∈plS)↔isPl c=true:=by have:=jk c h;rw[<- this,decide_eq_true_eq];exact Iff.rfl
noncomputable def seesB (t sg:Tq)(i:Nat):Bool:=((t[i]?).map λc=>decide (c∈sg)).getD false
theorem fL {t sg:Tq}{i c:Nat}(h:t[i]?=some c):seesB t sg i=decide (c∈sg):=by unfold seesB;rw[h];rfl
theorem fM {t sg:Tq}{i:Nat}(h:t[i]?=none):seesB t sg i=false:=by unfold seesB;rw[h];rfl
theorem fN {t w:Tq}{i c:Nat}(h:t.drop i=c::w):t[i]?=some c/\i < `t:=by
 have e:t[i]?=some c:=by rw[<- List.head?_drop,h];rfl
 exact⟨e,(List.getElem?_eq_some_iff.mp e).1⟩
theorem gj {fr s w:Tq}(h:WrT fr s w):s.length<=w.length:=by
 induction h with
 |nil=>exact Nat.le_refl _
 |self _ _ _ ih=>simp only[length_cons];lia
 |pair _ _ ih=>simp only[length_cons];lia
noncomputable def frS:Tq:=(ofString "!$'()*,;@&=+").cps.toList
noncomputable def frQ:Tq:=(ofString "!$'()*,;@+/?:").cps.toList
noncomputable def frM:Tq:=(ofString "!$'()*,;@&=+/?:").cps.toList
theorem jz:frS.length<=100:=`k
theorem k6:frQ.length<=100:=`k
theorem BK:frM.length<=100:=`k
theorem fO {fr:Tq}:Stops fr []:=λc h=>by cases h
theorem bY {fr r:Tq}{c:Nat}(h:isPl c=false/\c∉fr/\c≠126):Stops fr (c::r):=λd e=>by cases e;exact h
def MarW (o:Option Tq)(w:Tq):Prop:=match o with
 |none=>w=[]
 |some s=>∃v,w=35::v/\WrT frM s v
def ValW (o:Option Tq)(w:Tq):Prop:=match o with
 |none=>w=[]
 |some s=>∃v,w=61::v/\WrT frQ s v
def HouW (o:Option Tq)(w:Tq):Prop:=match o with
 |none=>w=[]
 |some s=>∃v,w=47::47::v/\WrT [] s v/\s≠[]/\s.length<=60
inductive TlW:List Tq->Bool->Tq->Prop
 |stop:TlW [] false []
 |ends:TlW [] true [47]
 |more {s w:Tq}{ss:List Tq}{e:Bool}{v:Tq}:WrT frS s w->s≠[]->TlW ss e v->TlW (s::ss) e (47::(w++v))
inductive StpW:List Tq->Bool->Tq->Prop
 |none {e:Bool}:StpW [] e []
 |some {s w:Tq}{ss:List Tq}{e:Bool}{v:Tq}:WrT frS s w->s≠[]->TlW ss e v->StpW (s::ss) e (w++v)
theorem k7:(47:Nat)∉frS:=`k
theorem oZ {fr s w:Tq}(h:WrT fr s w)(hs:s≠[]):∃c r,w=c::r/\(isPl c=true\/c∈fr\/c=126):=by
 cases h with
 |nil=>exact absurd rfl hs
 |self a _ _=>exact⟨_,_,rfl,a.elim .inl (λz=>.inr (.inl z))⟩
 |pair _ _=>exact⟨_,_,rfl,.inr (.inr rfl)⟩
theorem oa {ss:List Tq}{e:Bool}{v rest:Tq}(h:TlW ss e v)(hr:Stops frS rest):Stops frS (v++rest):=by
 cases h with
 |stop=>exact hr
 |ends=>exact bY ⟨`d,k7,`d⟩
 |more _ _ _=>exact bY ⟨`d,k7,`d⟩
theorem og {ss:List Tq}{e:Bool}{v rest:Tq}(h:StpW ss e v)(hr:rest.head?≠some 47):(v++rest).head?≠some 47:=by
 cases h with
 |none=>exact hr
 |some hw hs _=>
  obtain⟨c,r,rfl,hc⟩:=oZ hw hs;intro z;have e:c=47:=Option.some.inj z;subst e;rcases hc with z|z|z
  .cases z
  .exact k7 z
  .cases z
inductive PrsW:List (Tq×Option Tq)->Tq->Prop
 |nil:PrsW [] []
 |cons {n w v:Tq}{o:Option Tq}{ps:List (Tq×Option Tq)}{r:Tq}:WrT frQ n w->n≠[]->ValW o v->PrsW ps r->PrsW ((n,o)::ps) (38::(w++(v++r)))
def QueW (q:Option (List (Tq×Option Tq)))(w:Tq):Prop:=match q with
 |none=>w=[]
 |some []=>w=[63]
 |some ((n,o)::ps)=>∃a v r,w=63::(a++(v++r))/\WrT frQ n a/\n≠[]/\ValW o v/\PrsW ps r
theorem k8:(35:Nat)∉frQ/\(38:Nat)∉frQ/\(61:Nat)∉frQ:=`k
theorem k9 {ps:List (Tq×Option Tq)}{r rest:Tq}(h:PrsW ps r)(hr:rest=[]\/∃x,rest=35::x):Stops frQ (r++rest)/\(r++rest).head?≠some 61:=by
 cases h with
 |nil=>
  rcases hr with rfl|⟨x,rfl⟩
  .exact⟨fO,`s⟩
  .exact⟨bY ⟨`d,k8.1,`d⟩,`s⟩
 |cons _ _ _ _=>exact⟨bY ⟨`d,k8.2.1,`d⟩,`s⟩
theorem oh {o:Option Tq}{v r:Tq}(h:ValW o v)(hr:Stops frQ r):Stops frQ (v++r):=by
 cases o with
 |none=>have h:v=[]:=h;subst h;exact hr
 |some s=>obtain⟨x,rfl,_⟩:=h;exact bY ⟨`d,k8.2.2,`d⟩
theorem Cur.toT {H H':Hp}{C p:Addr}{t:Tq}{i:Nat}(h:Cur H C p t i)(s:SameBut p H H'):SameT H H':=λb xs e=>s b _ (by obtain⟨dx,hp⟩:=h;exact bU e hp (by intro z;cases z)) e
noncomputable def pD (a:Tq×Option Tq):PyData:=.tuple [st a.1,oD a.2]
def PrL (H:Hp)(vs:`V)(dn:List (Tq×Option Tq)):Prop:=vs.length=dn.length/\∀(i:Nat) (a:Tq×Option Tq) (y:V),dn[i]?=some a->vs[i]?=some y->IsT H (pD a) y
theorem PrL.mono {H H':Hp}{vs:`V}{dn:List (Tq×Option Tq)}(h:PrL H vs dn)(s:SameT H H'):PrL H' vs dn:=⟨h.1,λi a y e1 e2=>(h.2 i a y e1 e2).mono s⟩
theorem PrL.snoc {H:Hp}{vs:`V}{dn:List (Tq×Option Tq)}{a:Tq×Option Tq}{y:V}(h:PrL H vs dn)(hy:IsT H (pD a) y):PrL H (vs++[y]) (dn++[a]):=by
 refine⟨by simp[h.1],λi b z e1 e2=>?_⟩;by_cases hi:i < dn.length
 .rw[List.getElem?_append_left hi] at e1;rw[List.getElem?_append_left (by rw[h.1];exact hi)] at e2;exact h.2 i b z e1 e2
 .have:=(List.getElem?_eq_some_iff.mp e1).1;rw[length_append,length_singleton] at this;have e:i=dn.length:=by lia
  subst e;rw[List.getElem?_append_right `n,Nat.sub_self] at e1;rw[<- h.1,List.getElem?_append_right `n,Nat.sub_self] at e2;cases e1;cases e2;exact hy
theorem oi {H:Hp}{α:Type}{g:α->PyData}:∀{l:List α}{ys:`V},ys.length=`L->(∀(i:Nat) (a:α) (y:V),l[i]?=some a->ys[i]?=some y->IsT H (g a) y)->IsTAll H (l.map g) ys
 |[],[],_,_=>.nil
 |[],_::_,h,_=>by simp at h
 |_::_,[],h,_=>by simp at h
 |a::l,y::ys,h,k=>.cons (k 0 a y rfl rfl) (oi (by simpa using h) λi b z e1 e2=>k (i+1) b z (by simpa using e1) (by simpa using e2))
noncomputable def fgS:Tq:=(ofString "0123456789").cps.toList
theorem gk {c:Nat}:c∈fgS↔48<=c/\c<=57:=by rw[show fgS=List.range' 48 10 by fail "k",mem_range'_1];lia
noncomputable def valD (ds:Tq):Nat:=ds.foldl (λa c=>a * 10+(c - 48)) 0
theorem fP (ds:Tq)(c:Nat):valD (ds++[c])=valD ds * 10+(c - 48):=by unfold valD;rw[foldl_append];rfl
theorem oj:∀(es ds:Tq),valD ds<=valD (ds++es)
 |[],ds=>by rw[append_nil];exact Nat.le_refl _
 |c::es,ds=>by have h:=oj es (ds++[c]);rw[fP,append_assoc] at h;exact Nat.le_trans `l h
def DooW (o:Option Int)(w:Tq):Prop:=match o with
 |none=>w=[]
 |some n=>∃ds,w=58::ds/\ds≠[]/\(∀c∈ds,48<=c/\c<=57)/\(valD ds:Int)=n/\valD ds<=65535/\(ds=[48]\/ds.head?≠some 48)
theorem om:∀c,c < 58->48<=c->PySem.intText? ⟨#[c]⟩=some (((c - 48:Nat)):Int):=`k
theorem BL {s r:Tq}(h:∀c∈s,c≠58):ahead (s++58::r)=s:=by unfold ahead;rw[List.takeWhile_append_of_pos (λc hc=>decide_eq_true (h c hc)),List.takeWhile_cons_of_neg `s,append_nil]
theorem on (t:Tq):∃r,t=ahead t++r:=⟨t.dropWhile λc=>decide (c≠58),(List.takeWhile_append_dropWhile (p:=λc=>decide (c≠58))).symm⟩
theorem BM (t:Tq):(ahead t).length<=`t:=by obtain⟨r,h⟩:=on t;have:=congrArg List.length h;rw[length_append] at this;lia
theorem oo (t:Tq):t.take (ahead t++[58]).length=ahead t++[58]↔t[(ahead t).length]?=some 58:=by
 obtain⟨r,h⟩:=on t;generalize ahead t=a at h;subst h;rw[length_append,length_singleton,List.getElem?_append_right `n,Nat.sub_self,List.take_append];rw[take_of_length_le `l,show a.length+1 - a.length=1 by lia];constructor
 .intro e;have e:=List.append_cancel_left e;cases r with
  |nil=>simp at e
  |cons c r=>simp at e;rw[e];rfl
 .intro e;cases r with
  |nil=>simp at e
  |cons c r=>simp at e;rw[e];rfl
noncomputable def schM (t:Tq):Tq:=if ahead t≠[]/\schD (.str ⟨(ahead t).toArray⟩)=true/\t[(ahead t).length]?=some 58 then ahead t else []
noncomputable def schP (t:Tq):Nat:=(schT (schM t)).length
theorem kA {t:Tq}(h1:ahead t≠[])(h2:schD (.str ⟨(ahead t).toArray⟩)=true)(h3:t[(ahead t).length]?=some 58):schM t=ahead t/\schP t=(ahead t++[58]).length:=by
 have e:schM t=ahead t:=by unfold schM;rw[if_pos ⟨h1,h2,h3⟩]
 exact⟨e,by unfold schP schT;rw[e,if_neg h1]⟩
theorem fQ {t:Tq}(h:¬ (ahead t≠[]/\schD (.str ⟨(ahead t).toArray⟩)=true/\t[(ahead t).length]?=some 58)):schM t=[]/\schP t=0:=by
 have e:schM t=[]:=by unfold schM;rw[if_neg h]
 exact⟨e,by unfold schP schT;rw[e,if_pos rfl];rfl⟩
def RdW (x:Ad)(t:Tq):Prop:=∃h d w q m,t=schT x.scheme++(h++(d++((if x.rooted then [47] else [])++(w++(q++m)))))/\schM t=x.scheme/\HouW x.house h/\DooW x.door d/\StpW x.steps x.ends w/\QueW x.quest q/\MarW x.mark m
end Wm
namespace L2
open PySem
theorem IsKAll.length {K:`F}{H:Hp}:∀{ds:List PyData}{xs:`V},IsKAll K H ds xs->`x=ds.length
 |_,_,.nil=>rfl
 |_,_,.cons _ r=>by simp[IsKAll.length r]
theorem oq {K:`F}{H:Hp}:∀{ds:List PyData}{xs:`V}{i:Nat}{d:PyData}{x:V},IsKAll K H ds xs->ds[i]?=some d->xs[i]?=some x->IsK K H d x
 |_,_,0,_,_,.cons h _,e1,e2=>by cases e1;cases e2;exact h
 |_,_,i+1,_,_,.cons _ r,e1,e2=>oq r (i:=i) (by simpa using e1) (by simpa using e2)
 |_,_,0,_,_,.nil,e1,_=>by cases e1
 |_,_,_+1,_,_,.nil,e1,_=>by cases e1
end L2
namespace Wm
open PySem L2
theorem ot:∀n:Nat,valD ((Nat.toDigits 10 n).map Char.toNat)=n/\(Nat.toDigits 10 n).map Char.toNat≠[]/\(((Nat.toDigits 10 n).map Char.toNat).head?=some 48->n=0)
 |n=>by
  by_cases h:n < 10
  .rw[Nat.toDigits_of_lt_base h];have key:∀n,n < 10->valD ([Nat.digitChar n].map Char.toNat)=n/\([Nat.digitChar n].map Char.toNat).head?=some (48+n):=by fail "k"
   obtain⟨k1,k2⟩:=key n h;refine⟨k1,`s,λz=>?_⟩;rw[k2] at z;injection z with z;lia
  .have h':10<=n:=by lia
   rw[Nat.toDigits_of_base_le `d h',map_append];obtain⟨i1,i2,i3⟩:=ot (n / 10);have key:∀n,n < 10->([Nat.digitChar n].map Char.toNat)=[48+n]:=by fail "k"
   rw[key (n % 10) `l,fP,i1];refine⟨`l,`s,λz=>?_⟩;cases hh:(Nat.toDigits 10 (n / 10)).map Char.toNat with
   |nil=>exact absurd hh i2
   |cons c r=>rw[hh] at z i3;have:=i3 z;lia
theorem BN {o:Option Int}(h:∀i,o=some i->0<=i/\i<=65535):DooW o (dooT o):=by
 cases o with
 |none=>rfl
 |some i=>
  obtain⟨h1,h2⟩:=h i rfl;obtain⟨n,rfl⟩:=Int.eq_ofNat_of_zero_le h1;have e:dg (n:Int)=(Nat.toDigits 10 n).map Char.toNat:=by unfold dg;rw[PySem.W.KIN.signs_num]
  obtain⟨i1,i2,i3⟩:=ot n;refine⟨dg n,rfl,by rw[e];exact i2,nU h1,by rw[e,i1],by rw[e,i1];lia,?_⟩;by_cases hz:(dg n).head?=some 48
  .rw[e] at hz;have:=i3 hz;subst this;exact .inl (by rw[e];decide)
  .exact .inr hz
theorem BO {o:Option Tq}(h:∀l,o=some l->(0 < `L/\`L<=60)/\∀c∈l,isSg c=true):HouW o (houT o):=by
 cases o with
 |none=>rfl
 |some l=>obtain⟨⟨h1,h2⟩,h3⟩:=h l rfl;exact⟨wr l,rfl,cn h3,(λe=>by rw[e] at h1;cases h1),h2⟩
theorem BP {o:Option Tq}(h:∀l,o=some l->∀c∈l,isSg c=true):MarW o (oT 35 o):=by
 cases o with
 |none=>rfl
 |some l=>exact⟨wr l,rfl,cn (h l rfl)⟩
theorem ou {o:Option Tq}(h:∀l,o=some l->∀c∈l,isSg c=true):ValW o (oT 61 o):=by
 cases o with
 |none=>rfl
 |some l=>exact⟨wr l,rfl,cn (h l rfl)⟩
theorem ow {e:Bool}:∀{ss:List Tq},(∀s∈ss,StepOk s)->TlW ss e (tlT 47 (ss.map wr)++if e then [47] else [])
 |[],_=>by cases e <;> simp[tlT] <;> constructor
 |s::ss,h=>by have h1:=h s `f;have:=TlW.more (cn (fr:=frS) h1.2) (λz=>by rw[z] at h1;cases h1.1) (ow (e:=e) (ss:=ss) λt ht=>h t (mem_cons_of_mem _ ht));simpa [tlT] using this
theorem BQ {ss:List Tq}{e:Bool}(h:∀s∈ss,StepOk s):StpW ss e (stpT ss e):=by
 cases ss with
 |nil=>rw[AO];exact .none
 |cons s ss=>have h1:=h s `f;have:=StpW.some (cn (fr:=frS) h1.2) (λz=>by rw[z] at h1;cases h1.1) (ow (e:=e) (ss:=ss) λt ht=>h t (mem_cons_of_mem _ ht));unfold stpT;simpa [joinT] using this
theorem oy:∀{ps:List (Tq×Option Tq)},(∀p∈ps,PairOk p)->PrsW ps (tlT 38 (ps.map pairT))
 |[],_=>.nil
 | (n,o)::ps,h=>by have h1:=h (n,o) `f;have:=PrsW.cons (cn (fr:=frQ) h1.1.2) (λz=>by have:=h1.1.1;rw[z] at this;cases this) (ou h1.2) (oy (ps:=ps) λt ht=>h t (mem_cons_of_mem _ ht));simpa [tlT,pairT] using this
theorem BR {q:Option (List (Tq×Option Tq))}(h:∀ps,q=some ps->∀p∈ps,PairOk p):QueW q (queT q):=by
 cases q with
 |none=>rfl
 |some ps=>
  cases ps with
  |nil=>rfl
  |cons p ps=>obtain⟨n,o⟩:=p;have h1:=h _ rfl (n,o) `f;exact⟨wr n,oT 61 o,tlT 38 (ps.map pairT),by simp[queT,joinT,pairT],cn h1.1.2,(λz=>by have:=h1.1.1;rw[z] at this;cases this),ou h1.2,oy λt ht=>h _ rfl t (mem_cons_of_mem _ ht)⟩
theorem oz {P:Nat->Prop}(h1:P 63)(h2:P 38)(h3:P 61)(hw:∀c,wch c=true->P c){q:Option (List (Tq×Option Tq))}(h:∀ps,q=some ps->∀p∈ps,PairOk p):∀c∈queT q,P c:=by
 intro c hc;cases q with
 |none=>cases hc
 |some ps=>
  simp only[queT,mem_cons] at hc;rcases hc with rfl|hc
  .exact h1
  .refine ng h2 (λs hs d hd=>?_) c hc;obtain⟨p,hp,rfl⟩:=mem_map.mp hs;exact AN h3 hw (h ps rfl p hp) d hd
theorem Ad.Wf.all {P:Nat->Prop}{x:Ad}(h:x.Wf)(h1:P 47)(h2:P 58)(h3:P 63)(h4:P 38)(h5:P 61)(h6:P 35)(hw:∀c,wch c=true->P c):∀c∈x.shw,P c:=by
 intro c hc;rw[Ad.shw_eq] at hc;rcases mem_append.mp hc with hc|hc
 .rcases mem_append.mp hc with hc|hc
  .exact h.pre_all h1 h2 hw c hc
  .exact oz h3 h4 h5 hw h.que c hc
 .exact jr h6 hw h.mar c hc
theorem BS {c:Nat}(h:wch c=true):c < 128:=by simp only[wch,isPl,Bool.or_eq_true,decide_eq_true_eq] at h;lia
theorem p0 {x:Ad}(h:x.Wf):∀c∈x.shw,c < 128:=h.all `d `d `d `d `d `d λ_=>BS
theorem BU {x:Ad}(h:x.Wf):schM x.shw=x.scheme:=by
 by_cases hs:x.scheme=[]
 .rw[hs];refine (fQ ?_).1;rintro⟨_,z2,z3⟩;cases hh:x.house with
  |some l=>
   obtain⟨r,hr⟩:∃r,x.shw=47::r:=by unfold Ad.shw;rw[hs,hh];exact⟨_,rfl⟩
   rw[hr] at z2;have:(ahead (47::r))=47::ahead r:=by unfold ahead;rw[List.takeWhile_cons_of_pos `d]
   rw[this] at z2;simp[schD,isLet] at z2
  |none=>
   have hd:x.door=none:=by
    cases hd:x.door with
    |none=>rfl
    |some i=>exact absurd hh (h.doo i hd).2
   have hm:(58:Nat)∈x.shw:=mem_of_getElem? z3;unfold Ad.shw at hm;rw[hs,hh,hd] at hm;simp only[schT,if_true,houT,dooT,nil_append] at hm;have ha:∀c,c∈x.wayT++(queT x.quest++oT 35 x.mark)->c≠58:=by
    intro c hc;rcases mem_append.mp hc with hc|hc
    .exact ni (P:=λc=>c≠58) `d (λc hc=>(gc hc).2.2.2.1) h.stp c hc
    .rcases mem_append.mp hc with hc|hc
     .exact oz (P:=λc=>c≠58) `d `d `d (λc hc=>(gc hc).2.2.2.1) h.que c hc
     .exact jr (P:=λc=>c≠58) `d (λc hc=>(gc hc).2.2.2.1) h.mar c hc
   exact ha 58 hm rfl
 .have hc:∀c∈x.scheme,c≠58:=λc hc=>(gc (nX (h.sch.2.1 c hc))).2.2.2.1;obtain⟨r,hr⟩:∃r,x.shw=x.scheme++58::r:=by
   unfold Ad.shw schT;rw[if_neg hs];exact⟨_,by rw[append_assoc];rfl⟩
  have ha:ahead x.shw=x.scheme:=by rw[hr];exact BL hc
  have:=(kA (t:=x.shw) (by rw[ha];exact hs) (by
   rw[ha];simp only[schD,Bool.and_eq_true,all_eq_true,decide_eq_true_eq];exact⟨⟨⟨λc hc=>gY (h.sch.2.1 c hc),by show x.scheme.length<=8;exact h.sch.1⟩,h.sch.2.2⟩,h.sch.2.1⟩) (by
   rw[ha,hr,List.getElem?_append_right `n,Nat.sub_self];rfl)).1
  rw[this,ha]
theorem BV {x:Ad}(h:x.Wf):RdW x x.shw:=
 ⟨houT x.house,dooT x.door,stpT x.steps x.ends,queT x.quest,oT 35 x.mark,by unfold Ad.shw Ad.wayT;rw[nh,append_assoc],BU h,BO h.hou,BN λi e=>(h.doo i e).1,BQ h.stp,BR h.que,BP h.mar⟩
theorem Ad.Tiny.len {x:Ad}(h:x.Wf)(t:x.Tiny)(hn:x.steps.length<=300):x.shw.length<=80000:=by
 have a1:(schT x.scheme).length<=9:=by
  unfold schT;split
  .simp
  .have:=h.sch.1;simp only[length_append,length_cons,length_nil];lia
 have a2:(houT x.house).length<=200:=by
  cases hh:x.house with
  |none=>simp[houT]
  |some l=>have:=(h.hou l hh).1.2;have:=cK l;simp only[houT,length_cons];lia
 have a3:(dooT x.door).length<=6:=by
  cases hh:x.door with
  |none=>simp[dooT]
  |some i=>have b:=(h.doo i hh).1;have:=nV b.1 b.2;simp only[dooT,length_cons];lia
 have a4:x.wayT.length<=9000:=by
  have hj:=o7 (sep:=47) (m:=27) (ys:=x.steps.map wr) λs hs=>by obtain⟨u,hu,rfl⟩:=mem_map.mp hs;have:=cK u;have:=t.stp u hu;lia
  rw[length_map] at hj;have e1:(if x.rooted then [47] else []:Tq).length<=1:=by split <;> simp
  have e2:(if x.ends && !x.steps.isEmpty then [47] else []:Tq).length<=1:=by split <;> simp
  simp only[Ad.wayT,Wm.wayT,length_append];have:x.steps.length * (27+1)<=300 * 28:=Nat.mul_le_mul hn `n;lia
 have a5:(queT x.quest).length<=1000:=by
  cases hq:x.quest with
  |none=>simp[queT]
  |some ps=>
   have hk:=t.que ps hq;have hj:=o7 (sep:=38) (m:=37) (ys:=ps.map pairT) λs hs=>by obtain⟨p,hp,rfl⟩:=mem_map.mp hs;have h1:=(hk.2 p hp).1;have h2:=o8 (sep:=61) (n:=6) (o:=p.2) λv hv=>(hk.2 p hp).2 v hv;have:=cK p.1;simp only[pairT,length_append];lia
   rw[length_map] at hj;have:ps.length * (37+1)<=3 * 38:=Nat.mul_le_mul hk.1 `n;simp only[queT,length_cons];lia
 have a6:=o8 (sep:=35) (n:=60) (o:=x.mark) λl e=>Nat.le_trans (t.mar l e) `d;simp only[Ad.shw,length_append];lia
theorem Ad.Tiny.sz {x:Ad}(h:x.Wf)(t:x.Tiny)(hn:x.steps.length<=300):x.Sz where
 stp:=λs hs=>Nat.le_trans (t.stp s hs) `d
 que:=λps e=>⟨Nat.le_trans (t.que ps e).1 `d,λp hp=>⟨Nat.le_trans ((t.que ps e).2 p hp).1 `d,λv hv=>Nat.le_trans (((t.que ps e).2 p hp).2 v hv) `d⟩⟩
 mar:=λl e=>Nat.le_trans (t.mar l e) `d
 num:=Nat.le_trans hn `d
 all:=Nat.le_trans (Ad.Tiny.len h t hn) `d
def GoodsT (n:Nat)(H:Hp)(vs:`V):Prop:=∀v∈vs,∃x:Ad,(x.Wf/\x.Tiny/\x.steps.length<=n)/\IsT H x.data v
theorem GoodsT.cons {n:Nat}{H:Hp}{v:V}{vs:`V}{x:Ad}(h1:x.Wf/\x.Tiny/\x.steps.length<=n)(h3:IsT H x.data v)(h:GoodsT n H vs):GoodsT n H (v::vs):=λu hu=>by
 rcases mem_cons.mp hu with rfl|hu
 .exact⟨x,h1,h3⟩
 .exact h u hu
theorem Ad.Tiny.local {x:Ad}(h:x.Tiny):({x with scheme:=[],house:=none,door:=none}:Ad).Tiny:=⟨h.stp,h.que,h.mar,λl e=>by cases e⟩
end Wm
namespace L2
open PySem
theorem pE {K:`F}{p a:Addr}{fv:St}{te:TE}{Q:VK}{H1:Hp}{xs:`V}(J:Nat->`V->Hp->Prop)(hlen:`x<=sizeLine)(h0:J 0 [] (upd H1 p (.lst [])))(hS:∀i ys H2,J i ys H2->SqT K H2 a xs)
  (he:∀(i:Nat) (x:V) (ys:`V) (H2:Hp) (T:VK),xs[i]?=some x->J i ys H2->H2 p=some (.lst ys)->(∀y H3,H3 p=some (.lst ys)->J (i+1) (ys++[y]) (upd H3 p (.lst (ys++[y])))->T y H3)->te (some x::fv) H2 T)
  (hQ:∀ys H2,J `x ys H2->H2 p=some (.lst ys)->Q (.ref p) H2):CompI (Itt K a) p fv tYes te Q H1:=by
 refine⟨λi m ys H2=>m=`x - i/\i<=`x/\ys.length=i/\H2 p=some (.lst ys)/\J i ys H2,⟨`x,`s,Nat.zero_le _,rfl,aE,h0⟩,?_⟩;rintro i m ys H2 ⟨rfl,hi,mt,ad,hJ⟩;refine⟨ad,?_⟩;have q:=hS _ _ _ hJ;by_cases dl:i < `x
 .refine .inr ⟨⟨xs,xs[i],q,by simp[dl]⟩,`l,λx H3 y=>?_⟩;obtain⟨rfl,y⟩:=y;have hc:=y xs q;unfold tYes;dsimp only;rw[if_pos rfl];exact he i x ys _ _ hc hJ ad λy H5 BT Cl=>⟨BT,`x - (i+1),`l,rfl,dl,by rw[length_append,mt];rfl,aE,Cl⟩
 .have e:i=`x:=by lia
  subst e;exact .inl ⟨⟨xs,q,Nat.le_refl _⟩,hQ ys H2 hJ ad⟩
end L2
namespace L2
open PySem PySem.Spec PyProof.Rows
section
variable {X:Cx}{pins:`O}{Z:St}{H:Hp}{s:Shared}{h':Heap}
theorem Inv.walked {t':Nat}{wr:List Addr}{T:Addr}{o:HO}(I:Inv X pins Z H s)(hf:∀b∈wr,FpOk X pins H b)(k:∀b u,b∉wr->s.heap.get? b=some u->h'.get? b=some u)(hT:`z<=T)
  (new:ObjOk X.prog X.w (upd H T o) h' T o):Inv X pins Z (upd H T o) {s with heap:=h',toks:=t' }:=by
 have hn:H T=none:=I.hok.fresh hT;have nw:∀b u,H b=some u->b∉wr:=λb u e z=>by rw[(hf b z).1] at e;cases e
 refine I.step (g':=s.gens) (d':=s.drawn) (ch:=wr) (λb hb=>?_) (λb u _ _ hc e _=>k b u hc e) (λb u _ _ hc e _=>⟨u.slots,k b u hc e⟩) (λb u _ q n=>?_)
  (λb u hc e=>⟨u,k b u hc e⟩) (λb xs q=>?_) (λb u xs q=>?_) (λb ps q=>?_) (λm hm=>?_) (λb u e=>?_) I.bare
 .obtain⟨f0,f1,f2,f3,f4,f5⟩:=hf b hb;exact⟨f3,f1,f4,f5⟩
 .rw[aD (Nat.ne_of_lt (Nat.lt_of_lt_of_le (Heap.lt_size q) hT))];exact n
 .rw[aD (aJ q hn)];exact q
 .rw[aD (aJ q hn)];exact q
 .exact⟨#[],by rw[aD (aJ q hn),q];simp⟩
 .obtain⟨u,es,ep,ho,r⟩:=hm;refine⟨u,es,ep,k _ u (λz=>?_) ho,r⟩;exact (hf _ z).2.1 rfl
 .by_cases hb:b=T
  .subst hb;rw[aE] at e;cases e;exact new
  .rw[aD hb] at e;refine (I.hok b u e).stay (λc v hc q=>k c v ?_ q) (λc q=>by rw[aD (aJ q hn)];exact q) λc xs q=>by rw[aD (aJ q hn)];exact q
   rcases hc with z|z
   .rw[z];exact nw b u e
   .exact nw c _ z
theorem Inv.turnedL {t':Nat}{wr:List Addr}(I:Inv X pins Z H s)(hf:∀b∈wr,FpOk X pins H b)(k:∀b u,b∉wr->s.heap.get? b=some u->h'.get? b=some u):Inv X pins Z H {s with heap:=h',toks:=t' }:=by
 have nw:∀b u,H b=some u->b∉wr:=λb u e z=>by rw[(hf b z).1] at e;cases e
 refine I.step (g':=s.gens) (d':=s.drawn) (ch:=wr) (λb hb=>?_) (λb u _ _ hc e _=>k b u hc e) (λb u _ _ hc e _=>⟨u.slots,k b u hc e⟩) (λ_ _ _ _ n=>n)
  (λb u hc e=>⟨u,k b u hc e⟩) (λ_ _ e=>e) (λ_ _ _ e=>e) (λb ps e=>⟨#[],by rw[e];simp⟩) (λm hm=>?_) (λb u e=>?_) I.bare
 .obtain⟨f0,f1,f2,f3,f4,f5⟩:=hf b hb;exact⟨f3,f1,f4,f5⟩
 .obtain⟨u,es,ep,ho,r⟩:=hm;refine⟨u,es,ep,k _ u (λz=>?_) ho,r⟩;exact (hf _ z).2.1 rfl
 .refine (I.hok b u e).stay (λc v hc q=>k c v ?_ q) (λ_ q=>q) λ_ _ q=>q;rcases hc with z|z
  .rw[z];exact nw b u e
  .exact nw c _ z
end
noncomputable def ItW (n:Nat)(ok:Hp->Prop)(pt:Nat->Hp->`V->Prop):It:=
 ⟨λi H=>i < n/\ok H,λi H x H'=>∃T xs,x=.ref T/\H T=none/\H'=upd H T (.tup xs)/\pt i H xs,λi H=>i=n/\ok H⟩
theorem pF {P:Program}{w:World}{K:`F}{elts:List Expr}{k:Nat}{pos:Pos}{I:Addr}{fp wr fq:List Addr}{n:Nat}{α:Type}{Pt:α->Nat->Array Value->Prop}{Sn:α->Nat->Heap->Prop}{Mid:α->Nat->Addr->Heap->Prop}{tn:Nat->Heap->Prop}{ok:Hp->Prop}{pt:Nat->Hp->`V->Prop}
  (hI:I∈fq) (hq:∀b∈wr,b∈fq) (hW:∀(A:Around) (a:α),A.handled=none->WalksT P w A I fp wr n (Pt a) (Sn a) (Mid a))
  (hself:∀(A:Around) (i:Nat) (s:Shared) (Q:`T) (E:`T),tn i s.heap->Q (.ref I) s->wpAny (model P w) A (pyIter (.ref I)) Q E s)
  (hobj:∀i h,tn i h->∀b∈fq,∃o,h.get? b=some o/\∀v,o.data≠.cell v)
  (hkeep:∀i h h',tn i h->(∀b∈fq,∀o,h.get? b=some o->h'.get? b=some o)->tn i h')
  (hin:∀(X:Cx),X.prog=P->X.w=w->X.K=K->∀(i:Nat) (pins:`O) (s:Shared) (Z:St) (H:Hp),Inv X pins Z H s->(∀b∈fq,FpOk X pins H b)->tn i s.heap->ok H->∃a,Sn a i s.heap/\∀vals,Pt a i vals->∃xs,`x<=sizeLine/\Vals xs vals.toList/\pt i H xs)
  (hout:∀a i h,Sn a i h->tn i h) :
  Turn P w K (.Tuple elts k pos) (ItW n ok pt) fq I tn where
 mem:=hI
 obj:=hobj
 keep:=hkeep
 item:=by
  intro X hP hw hK hc i pins s Z H E J hf st hg;obtain⟨hi,mt⟩:=hg;have BT:∀b∈wr,FpOk X pins H b:=λb hb=>hf b (hq b hb);obtain⟨a,dl,hv⟩:=hin X hP hw hK i pins s Z H J hf st mt;obtain⟨HK,HJ,HA,GT,GE,Fr,HI⟩:=hW X.A a (J.ok.hd hc);refine HA i s _ E hi dl λT vals h1 tk HP hT Cl ad hk=>?_;refine⟨.ref T,rfl,?_⟩;refine GT elts k pos i T _ _ E ad λh2 HB Fn=>?_;obtain⟨xs,HC,HD,HE⟩:=hv vals HP;have HL:T∉wr:=GE i T h1 ad;have HM:H T=none:=J.hok.fresh hT;have HF:∀b u,b∉wr->s.heap.get? b=some u->h2.get? b=some u:=λb u hb e=>Fn b u hb (hk b u hb e);obtain⟨o,ho,HG,m,hd⟩:=Cl;have HN:IsTup h2 T vals.toList.toArray:=by refine⟨o,Fn T o HL ho,HG,m,?_⟩;rw[hd]
  refine⟨.ref T,upd H T (.tup xs),J.walked (t':=tk) BT HF hT ⟨HC,vals.toList,HD,HN⟩,rfl,⟨T,xs,rfl,HM,rfl,HE⟩,hout a _ _ HB,λb hb=>?_⟩;have:b≠T:=λz=>by obtain⟨o,e,_⟩:=hobj i _ st b hb;exact absurd (Heap.lt_size e) (by rw[z];exact Nat.not_lt.mpr hT)
  rw[aD this];exact (hf b hb).1
 done:=by intro X hP hw hK hc i pins s Z H E J hf st hg;obtain⟨hi,mt⟩:=hg;subst hi;have BT:∀b∈wr,FpOk X pins H b:=λb hb=>hf b (hq b hb);obtain⟨a,dl,_⟩:=hin X hP hw hK i pins s Z H J hf st mt;obtain⟨HK,HJ,HA,GT,GE,Fr,HI⟩:=hW X.A a (J.ok.hd hc);exact Fr s _ E dl λh1 tk hk=>⟨rfl,J.turnedL BT hk⟩
 self:=hself
section
variable {Z:St}{H:Hp}{D:Ends}{g:TG}{tb:TS}
theorem pG {n:Nat}{ok:Hp->Prop}{pt:Nat->Hp->`V->Prop}(Pv:Nat->St->Hp->Prop)(h0:Pv 0 Z H)(hl:∀i Z H,i<=n->Pv i Z H->ok H)
  (hs:∀i Z H T xs,i < n->Pv i Z H->H T=none->pt i H xs->g (.ref T) Z (upd H T (.tup xs)) λZ2 H2=>tb {D with nx:=Pv (i+1),ct:=Pv (i+1),bk:=D.nx} Z2 H2) (hd:∀Z H,Pv n Z H->D.nx Z H):LoopI (ItW n ok pt) g tb D Z H:=by
 refine⟨λi m Z H=>m=n - i/\i<=n/\Pv i Z H,⟨n,`s,Nat.zero_le _,h0⟩,?_⟩;rintro i m Z H ⟨rfl,hi,p⟩;have hq:=hl i Z H hi p;by_cases ad:i < n
 .refine .inr ⟨⟨ad,hq⟩,Pv (i+1),λZ' H' p'=>⟨n - (i+1),`l,rfl,ad,p'⟩,λx H' y=>?_⟩;obtain⟨T,xs,rfl,hT,rfl,hp⟩:=y;exact hs i Z _ T xs ad p hT hp
 .have e:i=n:=by lia
  subst e;exact .inl ⟨⟨rfl,hq⟩,hd Z H p⟩
end
section
variable {prog:Program}{w:World}{A:Around}{E:`T}{s:Shared}
theorem BW {it a:Addr}{i:Nat}{its:Array Value}{x:Value}{Q:`T}(hi:s.heap.IsTupleIter it a i)(ha:s.heap.IsTuple a its)(hx:its[i]?=some x)
  (q:∀h',h'.IsTupleIter it a (i+1)->Heap.SameBut it s.heap h'->Q x {s with heap:=h' }):wpAny `M A (Builtin.SmallTypes.nextOf (.ref it)) Q E s:=by
 obtain⟨u,hu,mt,ad⟩:=id hi;obtain⟨v,hv,_,m,dl⟩:=ha;unfold Builtin.SmallTypes.nextOf;refine wpAny_bind (wpAny_callSpecial?_slot (name:=ofString "__next__") hi.typeIs F.slot_tuple_iterator_next (wpAny_call_entry F.slot_tuple_iterator_next hi.typeIs F.entry_tuple_iterator_next ?_ (F.args_tuple_iterator_next_1 _)));show wpAny _ _ (field (.ref it) 0 >>= _) _ _ _;refine wpAny_bind (wpAny_field hu ad (x:=.ref a) rfl ?_);show wpAny _ _ (if (Value.ref a == Value.none)=true then _ else _) _ _ _;rw[if_neg (by exact Bool.false_ne_true)];show wpAny _ _ (field (.ref it) 1 >>= _) _ _ _;refine wpAny_bind (wpAny_field hu ad (x:=.int i 0) rfl ?_);show wpAny _ _ (seqItems? (.ref a) >>= _) _ _ _;refine wpAny_bind (wpAny_seqItems hv dl ?_);simp only[Int.toNat_natCast,hx];refine wpAny_bind (wpAny_setField hu ad `s (wpAny_pure ⟨x,rfl,wpAny_pure (q _ ⟨_,Heap.get?_update_self _ hu (Obj.isFreed_of_fields (Obj.data_mapFields ad _)),(Obj.cls_mapFields ..).trans mt,?_⟩ (Heap.SameBut.update ..))⟩));rw[Obj.data_mapFields ad];simp[rawInt]
theorem BX {it a:Addr}{i:Nat}{its:Array Value}{Q:`T}(hh:A.handled=none)(hi:s.heap.IsTupleIter it a i)(ha:s.heap.IsTuple a its)(hx:its[i]?=none)
  (q:∀h' e,Heap.ExtBut it s.heap h'->(∃o,h'.get? e=some o/\o.cls=.type "StopIteration")->E (.ref e) {s with heap:=h' }):wpAny `M A (Builtin.SmallTypes.nextOf (.ref it)) Q E s:=by
 obtain⟨u,hu,mt,ad⟩:=id hi;obtain⟨v,hv,_,m,dl⟩:=ha;unfold Builtin.SmallTypes.nextOf;refine wpAny_bind (wpAny_callSpecial?_slot (name:=ofString "__next__") hi.typeIs F.slot_tuple_iterator_next (wpAny_call_entry F.slot_tuple_iterator_next hi.typeIs F.entry_tuple_iterator_next ?_ (F.args_tuple_iterator_next_1 _)));show wpAny _ _ (field (.ref it) 0 >>= _) _ _ _;refine wpAny_bind (wpAny_field hu ad (x:=.ref a) rfl ?_);show wpAny _ _ (if (Value.ref a == Value.none)=true then _ else _) _ _ _;rw[if_neg (by exact Bool.false_ne_true)];show wpAny _ _ (field (.ref it) 1 >>= _) _ _ _;refine wpAny_bind (wpAny_field hu ad (x:=.int i 0) rfl ?_);show wpAny _ _ (seqItems? (.ref a) >>= _) _ _ _;refine wpAny_bind (wpAny_seqItems hv dl ?_);simp only[Int.toNat_natCast,hx];refine wpAny_bind (wpAny_rule (wpAny_bind (wpAny_setField hu ad `s ?_)));show wpAny _ A.in1 (newExc (.type "StopIteration") [] >>= _) _ _ _;unfold newExc newTuple;refine wpAny_bind (wpAny_bind (wpAny_newObj_type (wpAny_bind (m:=firstArgMember _ _) (wpAny_of_eq (a:=Value.none) (by first|rfl|(simp only[firstArgMember];rfl)) (wpAny_newObj_type ?_ (by size_fits)))) (by size_fits)));unfold raiseNew;refine wpAny_bind (wpAny_handled ?_);rw[show A.in1.handled=none from hh];exact wpAny_bind (wpAny_pure (wpAny_throw (q _ _ (((Heap.SameBut.update ..).extBut.push _).push _) ⟨_,Heap.get?_push_size _ rfl,rfl⟩)))
theorem kC (hh:A.handled=none)(it a:Addr)(hne:a≠it)(its:Array Value):Draws prog w A it [it,a] its.size (λi v=>its[i]?=some v) (λi h=>h.IsTupleIter it a i/\h.IsTuple a its) where
 live:=λ_ _ st=>let ⟨o,ho,_⟩:=st.1;⟨o,ho⟩
 frame:=λ_ _ _ st hk=>⟨let ⟨o,ho,r⟩:=st.1;⟨o,hk it `s o ho,r⟩,let ⟨o,ho,r⟩:=st.2;⟨o,hk a `s o ho,r⟩⟩
 item:=λi s Q E hi st hQ=>BW st.1 st.2 (x:=its[i]) (by simp[hi]) λh' hit' hs'=>hQ _ h' s.toks (by simp[hi]) ⟨hit',st.2.extBut hs'.extBut hne⟩ hs'
 done:=λs Q E st hE=>BX hh st.1 st.2 `s hE
end
noncomputable abbrev titO (t:Addr):Obj:={ cls:=.type "tuple_iterator",data:=.fields #[.ref t,.int 0 0]}
noncomputable abbrev enuO (it:Addr):Obj:={ cls:=.type "enumerate",data:=.fields #[.none,.bool false,.ref it,rawInt 0,.none,.none]}
theorem BY (t:Addr)(its:Array Value):Meets (Builtin.«enumerate.__new__» ⟨[.type "enumerate",.ref t],[]⟩) (λ_ R s=>s.heap.IsTuple t its/\
  R (.ok (.ret (.ref (s.heap.push (titO t)).objs.size))) {s with heap:=(s.heap.push (titO t)).push (enuO `z)}):=
 .of_wp λprog w A R s h=>by
  obtain⟨hp,g,d,tk,os⟩:=s;obtain⟨hl,h⟩:=h;have hsub:=sub_enumerate
  wp_walk using wpAny_pyIter_tuple hl
  refine wpAny_stack_any λ_=>wpAny_pure ?_;split
  .rename_i z _ _ _ _ _;cases (z == Value.type "enumerate") <;> (wp_walk using wpAny_pyIter_tuple hl) <;> exact⟨_,rfl,h⟩
  .wp_walk using wpAny_pyIter_tuple hl
   exact⟨_,rfl,h⟩
section
variable {prog:Program}{w:World}{A:Around}{E:`T}{s:Shared}
theorem BZ {t:Addr}{its:Array Value}{Q:`T}(ht:s.heap.IsTuple t its)
  (h:∀h',IsEnum h' (`z+1) `z 0 .none->h'.IsTupleIter `z t 0->(∀b o,s.heap.get? b=some o->h'.get? b=some o)->Q (.ref (`z+1)) {s with heap:=h' }) :
  wpAny `M A (call (.type "enumerate") [.ref t]) Q E s:=by
 refine callType_new F.called_enumerate `d (F.typeCall_enumerate_1 _) (F.newCall_enumerate_1 _) (λad=>F.args_object_init_2 ad _) F.entry_enumerate_new (BY t its) ⟨ht,?_⟩;have hz:(s.heap.push (titO t)).objs.size=`z+1:=Heap.size_push ..;show _/\_;rw[hz];have he:IsEnum ((s.heap.push (titO t)).push (enuO `z)) (`z+1) `z 0 .none:=by have:=Heap.get?_push_size (s.heap.push (titO t)) (o:=enuO `z) rfl;rw[hz] at this;exact this
 exact⟨⟨_,he,rfl⟩,h _ he ⟨_,Heap.get?_push_of_some _ (Heap.get?_push_size _ rfl),rfl,rfl⟩ λb o x=>Heap.get?_push_of_some _ (Heap.get?_push_of_some _ x)⟩
end
noncomputable def ItE (K:`F)(a:Addr)(xs:`V):It:=ItW `x (λH=>SqT K H a xs) λi _ ys=>∃v,xs[i]?=some v/\ys=[.int (i:Int),v]
theorem C0 {P:Program}{w:World}{K:`F}{elts:List Expr}{k:Nat}{pos:Pos}(a it e:Addr)(xs:`V)(h1:a≠it)(h2:e≠it)(h3:e≠a) :
  Turn P w K (.Tuple elts k pos) (ItE K a xs) [e,it] e (λi h=>(∃old,IsEnum h e it i old)/\h.IsTupleIter it a i):=by
 refine pF (fp:=e::[it,a]) (α:={ dl:Array Value // dl.size=`x}) (Pt:=λz i ad=>∃t x,z.1[i]?=some x/\ad=#[.int i t,x])
  (Sn:=λz i h=>(∃old,IsEnum h e it i old)/\(h.IsTupleIter it a i/\h.IsTuple a z.1)) (Mid:=λz i T h=>(∃x,IsEnumOut h e it ((i:Int)+1) x T)/\(h.IsTupleIter it a (i+1)/\h.IsTuple a z.1)/\T≠e/\T≠it)
  `s (λ_ z=>z) (λA z hh=>?_) (λA i s Q E st q=>?_) (λi h st b hb=>?_) (λi h h' st kp=>?_) ?_ (λz i h st=>⟨st.1,st.2.1⟩)
 .have:=WalksT.enumerateD (kC (prog:=P) (w:=w) (A:=A.in1) hh it a h1 z.1) e h2 (by simp[h2,h3]) `s;rw[z.2] at this;exact this
 .obtain⟨⟨old,he⟩,_⟩:=st;exact wpAny_pyIter_enum he q
 .obtain⟨⟨old,he⟩,o,ho,hc,hd⟩:=st;rcases mem_cons.mp hb with rfl|hb
  .exact⟨_,he,λv z=>by cases z⟩
  .rw[mem_singleton.mp hb];exact⟨o,ho,λv z=>by rw[hd] at z;cases z⟩
 .obtain⟨⟨old,he⟩,o,ho,r⟩:=st;exact⟨⟨old,kp e `s _ he⟩,o,kp it `s o ho,r⟩
 .intro X hP hw hK i BT s Z H J hf st Cl;subst hP hw hK;obtain⟨dl,rv,p,hz⟩:=J.tuple Cl;refine⟨⟨dl.toArray,by have:=rv.length;simp;lia⟩,⟨st.1,st.2,p⟩,?_⟩;rintro ad ⟨t,x,hx,rfl⟩;have mt:dl[i]?=some x:=by simpa using hx
  have hi:i < `x:=by have:=rv.length;have:=(List.getElem?_eq_some_iff.mp mt).1;lia
  obtain⟨u,hu,ru⟩:=rv.get (List.getElem?_eq_getElem hi);rw[mt] at hu;cases hu;exact⟨[.int (i:Int),xs[i]],(show 2<=sizeLine by decide),.cons ⟨t,rfl⟩ (.cons ru .nil),xs[i],List.getElem?_eq_getElem hi,rfl⟩
section
variable {X:Cx}{K:`F}{elts:List Expr}{kk:Nat}{tpos:Pos}
def iEnum (K:`F)(ta:TA):TI:=λZ H R=>ta Z H λvs H1=>∃a xs,vs=[.ref a]/\SqT K H1 a xs/\R (ItE K a xs) H1
theorem pH {a:Expr}{ta:TA}{p pos:Pos}(h:X.K=K)(hg:Gl X "enumerate")(hm:X.mg "enumerate"=none)(ha:PA X [a] ta)(hs:starEach [a] X.env=[(false,eval a X.env)]:=by rfl):PI X (.Tuple elts kk tpos) (.Call (.Name "enumerate" p) [a] [] pos) (iEnum K ta):=by
 subst h;intro ad s Z H R I q;refine Call_ (cD I hg hm boot_enumerate (PyProof.Rows.callWith_type1 (thn (ha pos ad s Z H _ I q) λus s1 W'=>?_) hs rfl));obtain⟨vs,H1,I1,r1,q1⟩:=W';obtain⟨a,xs,e,hq,q⟩:=q1;subst e;obtain⟨u,rfl,ru⟩:=vals1 r1;cases ru;obtain⟨Cl,rv,pt,hz⟩:=I1.tuple hq;refine BZ (show s1.heap.IsTuple a Cl.toArray from pt) λh' he hi hk=>?_;refine wpAny_pyIter_enum (s:={ s1 with heap:=h' }) he ?_;have BT:a < `y:=by obtain⟨o,ho,_⟩:=pt;exact Heap.lt_size ho
 have dl:Inv X ad Z H1 {s1 with heap:=h' }:=I1.kept (t':=s1.toks) hk;refine⟨`y+1,[`y+1,`y],_,_,H1,rfl,dl,C0 a `y (`y+1) xs (Nat.ne_of_lt BT) (Nat.succ_ne_self _) (Nat.ne_of_gt (Nat.lt_succ_of_lt BT)),⟨⟨_,he⟩,hi⟩,λb hb=>?_,q⟩;simp only[mem_cons,not_mem_nil,or_false] at hb;have mt:`y<=b:=by
  rcases hb with rfl|rfl
  .exact Nat.le_succ _
  .exact Nat.le_refl _
 exact I1.fpOk mt (I1.hok.fresh mt)
variable {Z:St}{H:Hp}{D:Ends}{g:TG}{tb:TS}{aa:TA}
theorem C1:(tFor (iEnum K aa) g tb D Z H)=(aa Z H λvs H1=>∃a xs,vs=[.ref a]/\SqT K H1 a xs/\LoopI (ItE K a xs) g tb D Z H1):=rfl
theorem C2 {a:Addr}{xs:`V}(Pv:Nat->St->Hp->Prop)(h0:Pv 0 Z H)(hl:∀i Z H,i<=`x->Pv i Z H->SqT K H a xs)
  (hs:∀i v Z H T,xs[i]?=some v->Pv i Z H->H T=none->g (.ref T) Z (upd H T (.tup [.int (i:Int),v])) λZ2 H2=>tb {D with nx:=Pv (i+1),ct:=Pv (i+1),bk:=D.nx} Z2 H2) (hd:∀Z H,Pv `x Z H->D.nx Z H):LoopI (ItE K a xs) g tb D Z H:=
 pG Pv h0 hl (λi Z H T ys _ p hT hy=>by obtain⟨v,hv,rfl⟩:=hy;exact hs i v Z H T hv p hT) hd
end
structure Zap (z TI TO i1 i2 l1 l2:Addr):Prop where
 a1:TI≠z/\TO≠z/\i1≠z/\i2≠z/\l1≠z/\l2≠z
 a2:TI≠TO/\TI≠i1/\TI≠i2/\TO≠i1/\TO≠i2/\i1≠i2
 a3:l1≠TO/\l2≠TO/\l1≠i2/\l2≠i1
section
variable {prog:Program}{w:World}{A:Around}{E:`T}{s:Shared}
variable {z TI TO i1 i2 l1 l2:Addr}{n1 n2 k:Nat}{P1 P2:Nat->Value->Prop}{S1 S2:Nat->Heap->Prop}
theorem still {it l b:Addr}{n i:Nat}{P:Nat->Value->Prop}{S:Nat->Heap->Prop}{h h':Heap}(D:Draws prog w A it [it,l] n P S)(st:S i h)(e:Heap.ExtBut b h h')(h1:it≠b)(h2:l≠b):S i h':=
 D.frame i h h' st λc hc o q=>e c o (by rcases mem_cons.mp hc with rfl|hc;exact h1;rw[mem_singleton.mp hc];exact h2) q
theorem C3 (hh:A.handled=none)(d1:∀A:Around,A.handled=none->Draws prog w A i1 [i1,l1] n1 P1 S1)(d2:∀A:Around,A.handled=none->Draws prog w A i2 [i2,l2] n2 P2 S2)(ap:Zap z TI TO i1 i2 l1 l2){a b:Value}{Q:`T}
  (hz:IsZip s.heap z TI TO .none) (hTI:IsPair s.heap TI (.ref i1) (.ref i2)) (hTO:IsPair s.heap TO a b) (t1:S1 k s.heap) (t2:S2 k s.heap) (k1:k < n1) (k2:k < n2)
  (q:∀x y h' tk,P1 k x->P2 k y->IsZip h' z TI TO (rawInt `z)->IsPair h' TO x y->S1 (k+1) h'->S2 (k+1) h'->IsPair h' `z x y ->
   (∀c o,c≠z->c≠TO->c≠i1->c≠i2->s.heap.get? c=some o->h'.get? c=some o)->Q (.ref `z) {s with heap:=h',toks:=tk}) :
  wpAny `M A (Builtin.«zip.__next__» ⟨[.ref z],[]⟩) (λfin s'=>∃v,fin=.done (.ret v)/\Q v s') E s:=by
 obtain⟨⟨p1,p2,p3,p4,p5,p6⟩,⟨q1,q2,q3,q4,q5,q6⟩,r1,r2,r3,r4⟩:=ap;show wpAny _ _ (field (.ref z) 2 >>= _) _ _ s;refine wpAny_bind (wpAny_field (s:=s) hz rfl (x:=.bool false) rfl ?_);show wpAny _ _ (field (.ref z) 3 >>= _) _ _ s;refine wpAny_bind (wpAny_field (s:=s) hz rfl (x:=.ref TI) rfl (wpAny_bind (wpAny_seqItems hTI rfl ?_)));show wpAny _ _ (Builtin.SmallTypes.ownedTupleIsFree (.ref z) >>= _) _ _ s;unfold Builtin.SmallTypes.ownedTupleIsFree;refine wpAny_bind (wpAny_bind (wpAny_field (s:=s) hz rfl (x:=.none) rfl (wpAny_pure ?_)));simp only[if_true];refine wpAny_bind (wpAny_rule (wpAny_bind (wpAny_field (s:=s) hz rfl (x:=.ref TO) rfl (wpAny_bind (wpAny_setField_rec hz `s λha za sa=>?_)))));replace za:IsZip ha z TI TO .ellipsis:=za;simp only[List.zipIdx_cons,List.zipIdx_nil,forIn_cons,forIn_nil];refine wpAny_bind (wpAny_bind (wpAny_bind (wpAny_onRaise ?_)));show wpAny _ _ (Builtin.SmallTypes.nextOf (.ref i1) >>= _) _ _ _;refine wpAny_bind ((d1 A hh).item k _ _ _ k1 (still (d1 A hh) t1 sa.extBut p3 p5) λx hb tb px Fn sb=>wpAny_pure ?_);have ob:IsPair hb TO a b:=sb.extBut _ _ q4 (sa.extBut _ _ p2 hTO);refine wpAny_bind (wpAny_seqItems ob rfl (wpAny_bind (wpAny_updateSeq_pair ob λhc oc sc=>wpAny_bind (wpAny_letGo (wpAny_pure ?_)))));replace oc:IsPair hc TO x b:=oc;refine wpAny_bind (wpAny_bind (wpAny_onRaise ?_));show wpAny _ _ (Builtin.SmallTypes.nextOf (.ref i2) >>= _) _ _ _;have dl:S2 k hc:=still (d2 A hh) (still (d2 A hh) (still (d2 A hh) t2 sa.extBut p4 p6) sb.extBut q6.symm r4) sc.extBut q5.symm r2;refine wpAny_bind ((d2 A hh).item k _ _ _ k2 dl λy hd td py BT sd=>wpAny_pure ?_);have od:IsPair hd TO x b:=sd.extBut _ _ q5 oc;refine wpAny_bind (wpAny_seqItems od rfl (wpAny_bind (wpAny_updateSeq_pair od λhe oe se=>wpAny_bind (wpAny_letGo (wpAny_pure (wpAny_pure ?_))))));replace oe:IsPair he TO x y:=oe;refine wpAny_bind (wpAny_seqItems oe rfl (wpAny_bind (wpAny_newTuple ?_)));have ze:IsZip he z TI TO .ellipsis:=se.extBut _ _ p2.symm (sd.extBut _ _ p4.symm (sc.extBut _ _ p2.symm (sb.extBut _ _ p3.symm za)));have ad:he.objs.size=`z:=by rw[se.1,sd.1,sc.1,sb.1,sa.1]
 have ke:∀c o,c≠z->c≠TO->c≠i1->c≠i2->s.heap.get? c=some o->he.get? c=some o:=λc o c1 c2 c3 c4 e=>se.extBut _ _ c2 (sd.extBut _ _ c4 (sc.extBut _ _ c2 (sb.extBut _ _ c3 (sa.extBut _ _ c1 e))));have Cl:S1 (k+1) he:=still (d1 A hh) (still (d1 A hh) (still (d1 A hh) Fn sc.extBut q4.symm r1) sd.extBut q6 r3) se.extBut q4.symm r1;have mt:S2 (k+1) he:=still (d2 A hh) BT se.extBut q5.symm r2;have zl:z < he.objs.size:=Heap.lt_size ze;show wpAny _ _ (Builtin.SmallTypes.ownedTupleHandOut (.ref z) (.ref he.objs.size) >>= _) _ _ _;unfold Builtin.SmallTypes.ownedTupleHandOut;have zf:IsZip (he.push {cls:=.type "tuple",data:=.seq #[x,y]}) z TI TO .ellipsis:=Heap.get?_push_of_some _ ze;refine wpAny_bind (wpAny_bind (wpAny_setField_rec zf `s λhf zg sf=>?_));replace zg:IsZip hf z TI TO (rawInt he.objs.size):=zg;refine wpAny_setField_rec zg `s λhg zh sg=>?_;replace zh:IsZip hg z TI TO (rawInt he.objs.size):=zh;have up:∀c o,c≠z->he.get? c=some o->hg.get? c=some o:=λc o c1 e=>sg.extBut _ _ c1 (sf.extBut _ _ c1 (Heap.get?_push_of_some _ e));have tg:IsPair hg he.objs.size x y:=sg.extBut _ _ (Nat.ne_of_gt zl) (sf.extBut _ _ (Nat.ne_of_gt zl) (Heap.get?_push_size _ rfl));rw[ad] at zh tg;refine wpAny_pure ⟨_,rfl,?_⟩;show Q (.ref he.objs.size) _;rw[ad];exact q x y hg td px py zh (up _ _ p2 oe) ((d1 A hh).frame _ _ _ Cl λc hc o e=>up c o (by rcases mem_cons.mp hc with rfl|hc;exact p3;rw[mem_singleton.mp hc];exact p5) e) ((d2 A hh).frame _ _ _ mt λc hc o e=>up c o (by rcases mem_cons.mp hc with rfl|hc;exact p4;rw[mem_singleton.mp hc];exact p6) e) tg λc o c1 c2 c3 c4 e=>up c o c1 (ke c o c1 c2 c3 c4 e)
theorem C4 (hh:A.handled=none)(d1:∀A:Around,A.handled=none->Draws prog w A i1 [i1,l1] n1 P1 S1)(d2:∀A:Around,A.handled=none->Draws prog w A i2 [i2,l2] n2 P2 S2)(ap:Zap z TI TO i1 i2 l1 l2){a b:Value}{Q:Fin->Shared->Prop}
  (hz:IsZip s.heap z TI TO .none) (hTI:IsPair s.heap TI (.ref i1) (.ref i2)) (hTO:IsPair s.heap TO a b) (t1:S1 k s.heap) (t2:S2 k s.heap) (hk:k=n1\/(k < n1/\k=n2))
  (q:∀h' e tk,(∀c o,c≠z->c≠TO->c≠i1->c≠i2->s.heap.get? c=some o->h'.get? c=some o)->(∃o,h'.get? e=some o/\o.cls=.type "StopIteration")->E (.ref e) {s with heap:=h',toks:=tk}) :
  wpAny `M A (Builtin.«zip.__next__» ⟨[.ref z],[]⟩) Q E s:=by
 obtain⟨⟨p1,p2,p3,p4,p5,p6⟩,⟨q1,q2,q3,q4,q5,q6⟩,r1,r2,r3,r4⟩:=ap;show wpAny _ _ (field (.ref z) 2 >>= _) _ _ s;refine wpAny_bind (wpAny_field (s:=s) hz rfl (x:=.bool false) rfl ?_);show wpAny _ _ (field (.ref z) 3 >>= _) _ _ s;refine wpAny_bind (wpAny_field (s:=s) hz rfl (x:=.ref TI) rfl (wpAny_bind (wpAny_seqItems hTI rfl ?_)));show wpAny _ _ (Builtin.SmallTypes.ownedTupleIsFree (.ref z) >>= _) _ _ s;unfold Builtin.SmallTypes.ownedTupleIsFree;refine wpAny_bind (wpAny_bind (wpAny_field (s:=s) hz rfl (x:=.none) rfl (wpAny_pure ?_)));simp only[if_true];refine wpAny_bind (wpAny_rule (wpAny_bind (wpAny_field (s:=s) hz rfl (x:=.ref TO) rfl (wpAny_bind (wpAny_setField_rec hz `s λha za sa=>?_)))));replace za:IsZip ha z TI TO .ellipsis:=za;simp only[List.zipIdx_cons,List.zipIdx_nil,forIn_cons,forIn_nil];refine wpAny_bind (wpAny_bind (wpAny_bind (wpAny_onRaise ?_)));show wpAny _ _ (Builtin.SmallTypes.nextOf (.ref i1) >>= _) _ _ _;rcases hk with rfl|⟨k1,rfl⟩
 .refine wpAny_bind ((d1 A hh).done _ _ _ (still (d1 A hh) t1 sa.extBut p3 p5) λhb e sb W'=>?_);obtain⟨oe,ho,hc⟩:=W';have zb:IsZip hb z TI TO .ellipsis:=sb _ _ p3.symm za;have ez:e≠z:=λy=>by subst y;rw[zb] at ho;cases ho;simp at hc
  exact wpAny_setField_rec zb `s λhd _ sd=>q hd e _ (λc o c1 _ c3 _ y=>sd.extBut _ _ c1 (sb _ _ c3 (sa.extBut _ _ c1 y))) ⟨oe,sd.extBut _ _ ez ho,hc⟩
 refine wpAny_bind ((d1 A hh).item _ _ _ _ k1 (still (d1 A hh) t1 sa.extBut p3 p5) λx hb tb px mt sb=>wpAny_pure ?_);have ob:IsPair hb TO a b:=sb.extBut _ _ q4 (sa.extBut _ _ p2 hTO);refine wpAny_bind (wpAny_seqItems ob rfl (wpAny_bind (wpAny_updateSeq_pair ob λhc oc sc=>wpAny_bind (wpAny_letGo (wpAny_pure ?_)))));refine wpAny_bind (wpAny_bind (wpAny_onRaise ?_));show wpAny _ _ (Builtin.SmallTypes.nextOf (.ref i2) >>= _) _ _ _;have dl:=still (d2 A hh) (still (d2 A hh) (still (d2 A hh) t2 sa.extBut p4 p6) sb.extBut q6.symm r4) sc.extBut q5.symm r2;refine wpAny_bind ((d2 A hh).done _ _ _ dl λhd e sd W'=>?_);obtain⟨oe,ho,ad⟩:=W';have zd:IsZip hd z TI TO .ellipsis:=sd _ _ p4.symm (sc.extBut _ _ p2.symm (sb.extBut _ _ p3.symm za));have ez:e≠z:=λy=>by subst y;rw[zd] at ho;cases ho;simp at ad
 exact wpAny_setField_rec zd `s λhf _ sf=>q hf e _ (λc o c1 c2 c3 c4 y=>sf.extBut _ _ c1 (sd _ _ c4 (sc.extBut _ _ c2 (sb.extBut _ _ c3 (sa.extBut _ _ c1 y))))) ⟨oe,sf.extBut _ _ ez ho,ad⟩
theorem C5 (hh:A.handled=none)(d1:∀A:Around,A.handled=none->Draws prog w A i1 [i1,l1] n1 P1 S1)(d2:∀A:Around,A.handled=none->Draws prog w A i2 [i2,l2] n2 P2 S2)(ap:Zap z TI TO i1 i2 l1 l2) :
  WalksT prog w A z [z,TI,TO,i1,i2,l1,l2] [z,TO,i1,i2] (min n1 n2) (λi vals=>∃x y,P1 i x/\P2 i y/\vals=#[x,y])
   (λi h=>IsZip h z TI TO .none/\IsPair h TI (.ref i1) (.ref i2)/\(∃a b,IsPair h TO a b)/\S1 i h/\S2 i h)
   (λi T h=>IsZip h z TI TO (rawInt T)/\IsPair h TI (.ref i1) (.ref i2)/\(∃a b,IsPair h TO a b)/\S1 (i+1) h/\S2 (i+1) h/\T≠z/\T≠TO/\T≠i1/\T≠i2) where
 sub:=λc hc=>by simp at hc ⊢;rcases hc with rfl|rfl|rfl|rfl <;> simp
 frame:=λi h h' st hk=>by obtain⟨hz,hTI,⟨a,b,hTO⟩,t1,t2⟩:=st;exact⟨hk z `s _ hz,hk TI `s _ hTI,⟨a,b,hk TO `s _ hTO⟩,(d1 A hh).frame _ _ _ t1 λc hc o e=>hk c (by simp at hc ⊢;rcases hc with rfl|rfl <;> simp) o e,(d2 A hh).frame _ _ _ t2 λc hc o e=>hk c (by simp at hc ⊢;rcases hc with rfl|rfl <;> simp) o e⟩
 item:=λi s Q E hi st hQ=>by
  obtain⟨hz,hTI,⟨a,b,hTO⟩,t1,t2⟩:=st;have hT:s.TypeIs (.ref z) "zip" := ⟨_,hz,rfl⟩;have lt:∀{c o},s.heap.get? c=some o->`z≠c:=λe=>Nat.ne_of_gt (Heap.lt_size e);unfold pyNext;refine wpAny_bind (wpAny_attempt (wpAny_callSpecial?_slot (name:=ofString "__next__") hT F.slot_zip_next (wpAny_call_entry F.slot_zip_next hT F.entry_zip_next ?_ (F.args_zip_next_1 _))));refine C3 (A:=A.in1) hh d1 d2 ap hz hTI hTO t1 t2 (Nat.lt_of_lt_of_le hi (Nat.min_le_left ..)) (Nat.lt_of_lt_of_le hi (Nat.min_le_right ..)) λx y h' tk px py z' o' s1 s2 T' hk=>wpAny_pure ?_;obtain⟨o1,e1⟩:=(d1 A hh).live _ _ t1;obtain⟨o2,e2⟩:=(d2 A hh).live _ _ t2;exact hQ `z #[x,y] h' tk ⟨x,y,px,py,rfl⟩ `n ⟨_,T',rfl,_,rfl⟩
   ⟨z',hk _ _ ap.a1.1 ap.a2.1 ap.a2.2.1 ap.a2.2.2.1 hTI,⟨_,_,o'⟩,s1,s2,lt hz,lt hTO,lt e1,lt e2⟩
   λc o hc e=>hk c o (λy=>hc (by simp[y])) (λy=>hc (by simp[y])) (λy=>hc (by simp[y])) (λy=>hc (by simp[y])) e
 go:=λelts k pos i T s Q E hm hQ=>by obtain⟨hz,hTI,⟨a,b,hTO⟩,t1,t2,_⟩:=hm;obtain⟨⟨p1,p2,p3,p4,p5,p6⟩,_⟩:=ap;exact wpAny_letOwnedTupleGo_zip hz λh' z' s'=>hQ h' ⟨z',s'.extBut _ _ p1 hTI,⟨a,b,s'.extBut _ _ p2 hTO⟩,still (d1 A hh) t1 s'.extBut p3 p5,still (d2 A hh) t2 s'.extBut p4 p6⟩ λc o hc e=>s'.extBut _ _ (λy=>hc (by simp[y])) e
 apart:=λi T h hm hT=>by
  obtain⟨_,_,_,_,_,t1,t2,t3,t4⟩:=hm;simp only[mem_cons,not_mem_nil,or_false] at hT;rcases hT with h|h|h|h
  .exact t1 h
  .exact t2 h
  .exact t3 h
  .exact t4 h
 done:=λs Q E st hQ=>by obtain⟨hz,hTI,⟨a,b,hTO⟩,t1,t2⟩:=st;have hT:s.TypeIs (.ref z) "zip" := ⟨_,hz,rfl⟩;unfold pyNext;refine wpAny_bind (wpAny_attempt (wpAny_callSpecial?_slot (name:=ofString "__next__") hT F.slot_zip_next (wpAny_call_entry F.slot_zip_next hT F.entry_zip_next ?_ (F.args_zip_next_1 _))));refine C4 (A:=A.in1) hh d1 d2 ap hz hTI hTO t1 t2 `l λh' e tk hk W'=>?_;obtain⟨o,ho,hc⟩:=W';refine wpAny_bind (wpAny_isInstance (T := "StopIteration") (b:=true) ⟨o,ho,hc⟩ isSubtype_stop (wpAny_pure (hQ h' tk λc o hc e=>?_)));exact hk c o (λy=>hc (by simp[y])) (λy=>hc (by simp[y])) (λy=>hc (by simp[y])) (λy=>hc (by simp[y])) e
 self:=λi s Q E st hQ=>wpAny_pyIter_zip st.1 hQ
end
noncomputable abbrev zA (h:Heap)(a:Addr):Heap:=h.push (titO a)
noncomputable abbrev zB (h:Heap)(a b:Addr):Heap:=(zA h a).push (titO b)
noncomputable abbrev zC (h:Heap)(a b:Addr):Heap:=(zB h a b).push {cls:=.type "tuple",data:=.seq #[.ref h.objs.size,.ref (zA h a).objs.size]}
noncomputable abbrev zD (h:Heap)(a b:Addr):Heap:=(zC h a b).push {cls:=.type "tuple",data:=.seq #[.none,.none]}
noncomputable abbrev zE (h:Heap)(a b:Addr):Heap:=(zD h a b).push {cls:=.type "zip",data:=.fields #[.none,.bool false,.bool false,.ref (zB h a b).objs.size,.ref (zC h a b).objs.size]}
theorem C6 (a b:Addr)(xs ys:Array Value):Meets (Builtin.«zip.__new__» ⟨[.type "zip",.ref a,.ref b],[]⟩) (λ_ R s=>s.heap.IsTuple a xs/\s.heap.IsTuple b ys/\R (.ok (.ret (.ref (zD s.heap a b).objs.size))) {s with heap:=zE s.heap a b}):=
 .of_wp λprog w A R s h=>by
  obtain⟨hp,g,d,tk,os⟩:=s;obtain⟨ha,hb,h⟩:=h;have hsub:=sub_zip;have h1:Heap.IsTuple (Shared.heap ⟨hp,g,d,tk,os⟩) a xs:=ha;have h2:Heap.IsTuple (Shared.heap ⟨hp.push (titO a),g,d,tk,os⟩) b ys:=Heap.IsTuple.push hb _
  wp_walk using wpAny_pyIter_tuple h1,wpAny_pyIter_tuple h2
  exact⟨_,rfl,h⟩
section
variable {prog:Program}{w:World}{A:Around}{E:`T}{s:Shared}
theorem C7 {a b:Addr}{xs ys:Array Value}{Q:`T}(ha:s.heap.IsTuple a xs)(hb:s.heap.IsTuple b ys)
  (h:∀h',IsZip h' (`z+4) (`z+2) (`z+3) .none->IsPair h' (`z+2) (.ref `z) (.ref (`z+1))->IsPair h' (`z+3) .none .none ->
   h'.IsTupleIter `z a 0->h'.IsTupleIter (`z+1) b 0->(∀c o,s.heap.get? c=some o->h'.get? c=some o)->Q (.ref (`z+4)) {s with heap:=h' }) :
  wpAny `M A (call (.type "zip") [.ref a,.ref b]) Q E s:=by
 refine callType_new F.called_zip `d (F.typeCall_zip_2 _ _) (F.newCall_zip_2 _ _) (λad=>F.args_object_init_3 ad _ _) F.entry_zip_new (C6 a b xs ys) ⟨ha,hb,?_⟩;have y1:(zA s.heap a).objs.size=`z+1:=Heap.size_push ..;have y2:(zB s.heap a b).objs.size=`z+2:=by rw[Heap.size_push,y1]
 have y3:(zC s.heap a b).objs.size=`z+3:=by rw[Heap.size_push,y2]
 have y4:(zD s.heap a b).objs.size=`z+4:=by rw[Heap.size_push,y3]
 have up:∀{h:Heap}{o:Obj}{c:Addr}{u:Obj},h.get? c=some u->(h.push o).get? c=some u:=λe=>Heap.get?_push_of_some _ e;have e5:(zE s.heap a b).get? (zD s.heap a b).objs.size=some _:=Heap.get?_push_size _ rfl;have e4:(zE s.heap a b).get? (zC s.heap a b).objs.size=some _:=up (Heap.get?_push_size _ rfl);have e3:(zE s.heap a b).get? (zB s.heap a b).objs.size=some _:=up (up (Heap.get?_push_size _ rfl));have e2:(zE s.heap a b).get? (zA s.heap a).objs.size=some _:=up (up (up (Heap.get?_push_size _ rfl)));have e1:(zE s.heap a b).get? `z=some _:=up (up (up (up (Heap.get?_push_size _ rfl))));show _/\_;rw[y2,y3,y4] at e5;rw[y1,y2] at e3;rw[y3] at e4;rw[y1] at e2;rw[y4];exact⟨⟨_,e5,rfl⟩,h _ e5 e3 e4 ⟨_,e1,rfl,rfl⟩ ⟨_,e2,rfl,rfl⟩ λc o x=>up (up (up (up (up x))))⟩
end
noncomputable def ItZ (K:`F)(a b:Addr)(xs ys:`V):It:=ItW (min `x ys.length) (λH=>SqT K H a xs/\SqT K H b ys) λi _ vs=>∃x y,xs[i]?=some x/\ys[i]?=some y/\vs=[x,y]
theorem C8 {P:Program}{w:World}{K:`F}{elts:List Expr}{k:Nat}{pos:Pos}{z TI TO i1 i2 a b:Addr}(xs ys:`V)(ap:Zap z TI TO i1 i2 a b)(h1:a≠i1)(h2:b≠i2) :
  Turn P w K (.Tuple elts k pos) (ItZ K a b xs ys) [z,TO,i1,i2,TI] z (λi h=>IsZip h z TI TO .none/\IsPair h TI (.ref i1) (.ref i2)/\(∃u v,IsPair h TO u v)/\h.IsTupleIter i1 a i/\h.IsTupleIter i2 b i):=by
 refine pF (fp:=[z,TI,TO,i1,i2,a,b]) (wr:=[z,TO,i1,i2]) (α:={ q:Array Value×Array Value // q.1.size=`x/\q.2.size=ys.length}) (Pt:=λq i ad=>∃x y,q.1.1[i]?=some x/\q.1.2[i]?=some y/\ad=#[x,y])
  (Sn:=λq i h=>IsZip h z TI TO .none/\IsPair h TI (.ref i1) (.ref i2)/\(∃a b,IsPair h TO a b)/\(h.IsTupleIter i1 a i/\h.IsTuple a q.1.1)/\(h.IsTupleIter i2 b i/\h.IsTuple b q.1.2))
  (Mid:=λq i T h=>IsZip h z TI TO (rawInt T)/\IsPair h TI (.ref i1) (.ref i2)/\(∃a b,IsPair h TO a b)/\(h.IsTupleIter i1 a (i+1)/\h.IsTuple a q.1.1)/\(h.IsTupleIter i2 b (i+1)/\h.IsTuple b q.1.2)/\T≠z/\T≠TO/\T≠i1/\T≠i2)
  `s (λb hb=>by simp at hb ⊢;rcases hb with rfl|rfl|rfl|rfl <;> simp) (λA q hh=>?_) (λA i s Q E st q=>wpAny_pyIter_zip st.1 q) (λi h st b hb=>?_) (λi h h' st kp=>?_) ?_ (λq i h st=>⟨st.1,st.2.1,st.2.2.1,st.2.2.2.1.1,st.2.2.2.2.1⟩)
 .have:=C5 (prog:=P) (w:=w) (A:=A) hh (λB hB=>kC (prog:=P) (w:=w) (A:=B) hB i1 a h1 q.1.1) (λB hB=>kC (prog:=P) (w:=w) (A:=B) hB i2 b h2 q.1.2) ap;rw[q.2.1,q.2.2] at this;exact this
 .obtain⟨hz,hI,⟨u,v,hO⟩,⟨o1,e1,c1,d1⟩,o2,e2,c2,d2⟩:=st;simp only[mem_cons,not_mem_nil,or_false] at hb;rcases hb with rfl|rfl|rfl|rfl|rfl
  .exact⟨_,hz,λv z=>by cases z⟩
  .exact⟨_,hO,λv z=>by cases z⟩
  .exact⟨o1,e1,λv z=>by rw[d1] at z;cases z⟩
  .exact⟨o2,e2,λv z=>by rw[d2] at z;cases z⟩
  .exact⟨_,hI,λv z=>by cases z⟩
 .obtain⟨hz,hI,⟨u,v,hO⟩,⟨o1,e1,r1⟩,o2,e2,r2⟩:=st;exact⟨kp z `s _ hz,kp TI `s _ hI,⟨u,v,kp TO `s _ hO⟩,⟨o1,kp i1 `s _ e1,r1⟩,o2,kp i2 `s _ e2,r2⟩
 .intro X hP hw hK i Fr s Z H J hf st Fn;subst hP hw hK;obtain⟨l1,mt,p1,GT⟩:=J.tuple Fn.1;obtain⟨l2,dl,p2,GE⟩:=J.tuple Fn.2;refine⟨⟨(l1.toArray,l2.toArray),by have:=mt.length;simp;lia,by have:=dl.length;simp;lia⟩,⟨st.1,st.2.1,st.2.2.1,⟨st.2.2.2.1,p1⟩,st.2.2.2.2,p2⟩,?_⟩;rintro ad ⟨x,y,hx,hy,rfl⟩;have Cl:l1[i]?=some x:=by simpa using hx
  have BT:l2[i]?=some y:=by simpa using hy
  have hi:i < `x:=by have:=mt.length;have:=(List.getElem?_eq_some_iff.mp Cl).1;lia
  have hj:i < ys.length:=by have:=dl.length;have:=(List.getElem?_eq_some_iff.mp BT).1;lia
  obtain⟨u,hu,ru⟩:=mt.get (List.getElem?_eq_getElem hi);obtain⟨v,hv,rv⟩:=dl.get (List.getElem?_eq_getElem hj);rw[Cl] at hu;rw[BT] at hv;cases hu;cases hv;exact⟨[xs[i],ys[i]],(show 2<=sizeLine by decide),.cons ru (.cons rv .nil),xs[i],ys[i],List.getElem?_eq_getElem hi,List.getElem?_eq_getElem hj,rfl⟩
section
variable {X:Cx}{K:`F}{elts:List Expr}{kk:Nat}{tpos:Pos}
theorem C9 {n a b:Nat}(ha:a < n)(hb:b < n):Zap (n+4) (n+2) (n+3) n (n+1) a b:=by refine⟨⟨?_,?_,?_,?_,?_,?_⟩,⟨?_,?_,?_,?_,?_,?_⟩,?_,?_,?_,?_⟩ <;> (show ¬ ((_:Nat)=_)) <;> lia
def iZip (K:`F)(ta:TA):TI:=λZ H R=>ta Z H λvs H1=>∃a b xs ys,vs=[.ref a,.ref b]/\SqT K H1 a xs/\SqT K H1 b ys/\R (ItZ K a b xs ys) H1
theorem kD {a b:Expr}{ta:TA}{p pos:Pos}(h:X.K=K)(hg:Gl X "zip")(hm:X.mg "zip"=none)(ha:PA X [a,b] ta)(hs:starEach [a,b] X.env=[(false,eval a X.env),(false,eval b X.env)]:=by rfl)(hs2:starEach [b] X.env=[(false,eval b X.env)]:=by rfl):PI X (.Tuple elts kk tpos) (.Call (.Name "zip" p) [a,b] [] pos) (iZip K ta):=by
 subst h;intro ad s Z H R I q;refine Call_ (cD I hg hm boot_zip (PyProof.Rows.callWith_type1 (thn (ha pos ad s Z H _ I q) λus s1 W'=>?_) (by rw[hs,hs2]) (by rw[hs2];rfl)));obtain⟨vs,H1,I1,r1,q1⟩:=W';obtain⟨a,b,xs,ys,e,Fr,Fn,q⟩:=q1;subst e;obtain⟨u,v,rfl,ru,rv⟩:=vals2 r1;cases ru;cases rv;obtain⟨l1,GT,p1,HB⟩:=I1.tuple Fr;obtain⟨l2,GE,p2,HA⟩:=I1.tuple Fn;refine C7 (show s1.heap.IsTuple a l1.toArray from p1) (show s1.heap.IsTuple b l2.toArray from p2) λh' he hI hO hi hj hk=>?_;refine wpAny_pyIter_zip (s:={ s1 with heap:=h' }) he ?_;have Cl:a < `y:=by obtain⟨o,ho,_⟩:=p1;exact Heap.lt_size ho
 have mt:b < `y:=by obtain⟨o,ho,_⟩:=p2;exact Heap.lt_size ho
 have dl:Inv X ad Z H1 {s1 with heap:=h' }:=I1.kept (t':=s1.toks) hk;refine⟨`y+4,[`y+4,`y+3,`y,`y+1,`y+2],_,_,H1,rfl,dl,C8 xs ys (C9 Cl mt) (Nat.ne_of_lt Cl) (Nat.ne_of_lt (Nat.lt_succ_of_lt mt)),⟨he,hI,⟨_,_,hO⟩,hi,hj⟩,λb hb=>?_,q⟩;simp only[mem_cons,not_mem_nil,or_false] at hb;have BT:`y<=b:=by
  rcases hb with rfl|rfl|rfl|rfl|rfl
  .exact Nat.le_add_right _ _
  .exact Nat.le_add_right _ _
  .exact Nat.le_refl _
  .exact Nat.le_add_right _ _
  .exact Nat.le_add_right _ _
 exact I1.fpOk BT (I1.hok.fresh BT)
variable {Z:St}{H:Hp}{D:Ends}{g:TG}{tb:TS}{aa:TA}
theorem Ca:(tFor (iZip K aa) g tb D Z H)=(aa Z H λvs H1=>∃a b xs ys,vs=[.ref a,.ref b]/\SqT K H1 a xs/\SqT K H1 b ys/\LoopI (ItZ K a b xs ys) g tb D Z H1):=rfl
theorem Cb {a b:Addr}{xs ys:`V}(Pv:Nat->St->Hp->Prop)(h0:Pv 0 Z H)(hl:∀i Z H,i<=min `x ys.length->Pv i Z H->SqT K H a xs/\SqT K H b ys)
  (hs:∀i x y Z H T,xs[i]?=some x->ys[i]?=some y->Pv i Z H->H T=none->g (.ref T) Z (upd H T (.tup [x,y])) λZ2 H2=>tb {D with nx:=Pv (i+1),ct:=Pv (i+1),bk:=D.nx} Z2 H2) (hd:∀Z H,Pv (min `x ys.length) Z H->D.nx Z H):LoopI (ItZ K a b xs ys) g tb D Z H:=
 pG Pv h0 hl (λi Z H T zs _ p hT hy=>by obtain⟨x,y,hx,hy,rfl⟩:=hy;exact hs i x y Z H T hx hy p hT) hd
variable {p:Addr}{fv:St}{tt:TT}{te:TE}{Q:VK}{H1:Hp}{fr:Tq}
theorem Cc:(tComp2 K (iZip K aa) fr tt te Z H Q)=(aa Z H λvs H1=>∃a b xs ys,vs=[.ref a,.ref b]/\SqT K H1 a xs/\SqT K H1 b ys/\∀p,H1 p=none->CompI2 K (ItZ K a b xs ys) p (frV Z fr) tt te Q H1):=rfl
theorem pI {a b:Addr}{xs ys zs:`V}(hxs:SqT K H1 a xs)(hys:SqT K H1 b ys)(hlen:zs.length<=sizeLine)(hp:H1 p=none)(hz:zs.length=min `x ys.length)
  (he:∀(i:Nat) (x y z:V),xs[i]?=some x->ys[i]?=some y->zs[i]?=some z->∀(H':Hp) (T:VK),Same H1 H'->(∀H'',Same H' H''->T z H'')->te (some x::some y::fv) H' T)
  (hQ:∀H',Same H1 H'->H' p=some (.lst zs)->Q (.ref p) H'):CompI2 K (ItZ K a b xs ys) p fv tYes te Q H1:=by
 refine⟨λi m ws H2=>m=zs.length - i/\i<=zs.length/\ws=zs.take i/\H2 p=some (.lst ws)/\Same H1 H2,⟨zs.length,`s,Nat.zero_le _,`s,aE,λb o e=>by rw[aD (aJ e hp)];exact e⟩,?_⟩;rintro i m ws H2 ⟨rfl,hi,rfl,ad,sm⟩;refine⟨ad,?_⟩;have qx:=sm.tup hxs;have qy:=sm.tup hys;by_cases dl:i < zs.length
 .refine .inr ⟨⟨by rw[<- hz];exact dl,qx,qy⟩,by rw[length_take];lia,λx H3 y=>?_⟩;obtain⟨T,vs,rfl,hT,rfl,x,y,hx,hy,rfl⟩:=y;have s3:Same H2 (upd H2 T (.tup [x,y])):=λb o e=>by rw[aD (aJ e hT)];exact e
  refine⟨T,x,y,rfl,.inl (.inl aE),?_⟩;unfold tYes;dsimp only;rw[if_pos rfl];have mt:zs[i]?=some zs[i]:=by simp[dl]
  refine he i x y _ hx hy mt _ _ (sm.trans s3) λH5 s5=>⟨s5 _ _ (s3 _ _ ad),zs.length - (i+1),`l,rfl,dl,?_,aE,λb o e=>?_⟩
  .rw[take_add_one,mt];rfl
  .rw[aD (aJ e hp)];exact s5 _ _ (s3 _ _ (sm _ _ e))
 .have e:i=zs.length:=by lia
  subst e;refine .inl ⟨⟨hz,qx,qy⟩,hQ H2 sm ?_⟩;rw[ad,take_length]
end
section
variable {p:Addr}{fv:St}{tt:TT}{te:TE}{Q:VK}{H1 H:Hp}{fr:Tq}{aa:TA}{Z:St}
theorem Cd:(tComp (iRng1 aa) fr tt te Z H Q)=(aa Z H λvs H1=>∃j:Int,vs=[.int j]/\-(2 ^ 62)<=j/\j < 2 ^ 62/\∀p,H1 p=none->CompI (Itr 0 j.toNat) p (frV Z fr) tt te Q H1):=rfl
theorem pJ {n:Nat}(J:Nat->`V->Hp->Prop)(hlen:n<=sizeLine)(h0:J 0 [] (upd H1 p (.lst [])))
  (he:∀(i:Nat) (ys:`V) (H2:Hp) (T:VK),i < n->J i ys H2->H2 p=some (.lst ys)->(∀y H3,H3 p=some (.lst ys)->J (i+1) (ys++[y]) (upd H3 p (.lst (ys++[y])))->T y H3)->te (some (.int (0+(i:Int)))::fv) H2 T)
  (hQ:∀ys H2,J n ys H2->H2 p=some (.lst ys)->Q (.ref p) H2):CompI (Itr 0 n) p fv tYes te Q H1:=by
 refine⟨λi m ys H2=>m=n - i/\i<=n/\ys.length=i/\H2 p=some (.lst ys)/\J i ys H2,⟨n,`s,Nat.zero_le _,rfl,aE,h0⟩,?_⟩;rintro i m ys H2 ⟨rfl,hi,mt,ad,hJ⟩;refine⟨ad,?_⟩;by_cases dl:i < n
 .refine .inr ⟨dl,`l,λx H3 y=>?_⟩;obtain⟨rfl,rfl⟩:=y;unfold tYes;dsimp only;rw[if_pos rfl];exact he i ys _ _ dl hJ ad λy H5 BT Cl=>⟨BT,n - (i+1),`l,rfl,dl,by rw[length_append,mt];rfl,aE,Cl⟩
 .have e:i=n:=by lia
  subst e;exact .inl ⟨Nat.le_refl _,hQ ys H2 hJ ad⟩
end
end L2
namespace L2
open PySem PySem.Spec PySem.W PyProof.Rows
def SameD (h h':Heap):Prop:=∀(b:Nat) (o:Obj),h.objs[b]?=some o->∃o',h'.objs[b]?=some o'/\o'.dict=o.dict
theorem SameD.refl (h:Heap):SameD h h:=λ_ o e=>⟨o,e,rfl⟩
theorem SameD.trans {a b c:Heap}(x:SameD a b)(y:SameD b c):SameD a c:=λd o e=>by obtain⟨o1,e1,q1⟩:=x d o e;obtain⟨o2,e2,q2⟩:=y d o1 e1;exact⟨o2,e2,q2.trans q1⟩
theorem SameD.push (h:Heap)(o:Obj):SameD h (h.push o):=λb u e=>by refine⟨u,?_,rfl⟩;have hb:b < h.objs.size:=(Array.getElem?_eq_some_iff.mp e).1;show (h.objs.push o)[b]?=some u;rw[Array.getElem?_push,if_neg (Nat.ne_of_lt hb)];exact e
theorem SameD.upd (h:Heap)(a:Addr){f:Obj->Obj}(hf:∀o,(f o).dict=o.dict):SameD h (h.update a f):=λb u e=>by
 show ∃o',(h.objs.modify a f)[b]?=some o'/\_;rw[Array.getElem?_modify];by_cases q:a=b
 .rw[if_pos q,e];exact⟨f u,rfl,hf u⟩
 .rw[if_neg q,e];exact⟨u,rfl,rfl⟩
theorem SameD.get {h h':Heap}(x:SameD h h'){b:Addr}{o o':Obj}(e:h.get? b=some o)(e':h'.get? b=some o'):o'.dict=o.dict:=by obtain⟨o1,q,r⟩:=x b o (Heap.get?_some_iff.mp e).1;have:=(Heap.get?_some_iff.mp e').1;rw[q] at this;cases this;exact r
def kd {α:Type}:Sem α->Prop
 |.pure _=>True
 |.raise _=>False
 |.unsupported _=>True
 |.finish _=>True
 |.rule _ k=>kd (k ())
 |.at _ k=>kd (k ())
 |.load _ _ k=>∀o,kd (k o)
 |.update _ _ f k=>(∀o,(f o).dict=o.dict)/\kd (k ())
 |.alloc _ k=>∀a,kd (k a)
 |.loadIfAlive _ k=>∀o,kd (k o)
 |.point _ k=>kd (k ())
 |.register _ _=>True
 |.fresh k=>∀t,kd (k t)
 |.ask k=>∀t,kd (k t)
 |.choose _ _ k=>∀t,kd (k t)
 |.os _ _ _=>False
 |.call _ _ _ _ _=>False
 |.handled _ k=>∀t,kd (k t)
 |.newGen _ _=>False
 |.genState _ _=>False
 |.resume _ _ _ _=>False
 |.yield _ _ _ _=>True
 |.stack k=>∀t,kd (k t)
 |.fork _ _=>True
 |.thread k=>∀t,kd (k t)
 |.await _ _ _ _ _=>True
theorem al {α β:Type}{m:Sem α}{f:α->Sem β}(a:kd m)(b:∀x,kd (f x)):kd (m >>= f):=by
 show kd (Sem.bind m f);induction m with
 |pure x=>exact b x
 |raise _=>exact a.elim
 |unsupported _=>exact True.intro
 |finish _=>exact True.intro
 |rule _ k ih=>exact ih () a
 |«at» _ k ih=>exact ih () a
 |load _ _ k ih=>exact λo=>ih o (a o)
 |update _ _ g k ih=>exact⟨a.1,ih () a.2⟩
 |alloc _ k ih=>exact λo=>ih o (a o)
 |loadIfAlive _ k ih=>exact λo=>ih o (a o)
 |point _ k ih=>exact ih () a
 |register _ k ih=>exact True.intro
 |fresh k ih=>exact λo=>ih o (a o)
 |ask k ih=>exact λo=>ih o (a o)
 |choose _ _ k ih=>exact λo=>ih o (a o)
 |os _ _ k ih=>exact a.elim
 |call _ _ _ _ k ih=>exact a.elim
 |handled _ k ih=>exact λo=>ih o (a o)
 |newGen _ k ih=>exact a.elim
 |genState _ k ih=>exact a.elim
 |resume _ _ _ k ih=>exact a.elim
 |yield _ _ _ k ih=>exact True.intro
 |stack k ih=>exact λo=>ih o (a o)
 |fork _ k ih=>exact True.intro
 |thread k ih=>exact λo=>ih o (a o)
 |await _ _ _ _ k ih=>exact True.intro
theorem Ce {α:Type}{M:Model}{Γ:PySem.Ctx}(t:Sem α):∀{Q:α->Pos->Shared->Prop}{E:Value->Pos->Shared->Prop}{p:Pos}{s:Shared},kd t->Sem.wp M Γ t Q E p s ->
  Sem.wp M Γ t (λa p' s'=>Q a p' s'/\SameD s.heap s'.heap) (λ_ _ _=>False) p s:=by
 induction t with
 |pure x=>intro Q E p s _ h;exact⟨h,.refl _⟩
 |raise _=>intro Q E p s a h;exact a.elim
 |unsupported _=>intro Q E p s _ h;exact h.elim
 |finish _=>intro Q E p s _ h;exact h.elim
 |rule _ k ih=>intro Q E p s a h;exact ih () a h
 |«at» _ k ih=>intro Q E p s a h;exact ih () a h
 |load _ _ k ih=>intro Q E p s a h;obtain⟨o,e,h⟩:=h;exact⟨o,e,ih o (a o) h⟩
 |update x _ g k ih=>intro Q E p s a h;obtain⟨e,h⟩:=h;exact⟨e,Sem.wp_mono M Γ (k ()) (λ_ _ _ z=>⟨z.1,(SameD.upd _ _ a.1).trans z.2⟩) (λ_ _ _ z=>z) _ _ (ih () a.2 h)⟩
 |alloc o k ih=>intro Q E p s a h;exact Sem.wp_mono M Γ (k _) (λ_ _ _ z=>⟨z.1,(SameD.push _ _).trans z.2⟩) (λ_ _ _ z=>z) _ _ (ih _ (a _) h)
 |loadIfAlive _ k ih=>intro Q E p s a h;exact ih _ (a _) h
 |point _ k ih=>intro Q E p s a h;exact ih () a h
 |register _ k ih=>intro Q E p s _ h;exact h.elim
 |fresh k ih=>intro Q E p s a h;exact ih _ (a _) h
 |ask k ih=>intro Q E p s a h;exact ih _ (a _) h
 |choose _ _ k ih=>intro Q E p s a h;exact⟨h.1,ih _ (a _) h.2⟩
 |os _ _ k ih=>intro Q E p s a h;exact a.elim
 |call _ _ _ _ k ih=>intro Q E p s a h;exact a.elim
 |handled _ k ih=>intro Q E p s a h;exact ih _ (a _) h
 |newGen _ k ih=>intro Q E p s a h;exact a.elim
 |genState _ k ih=>intro Q E p s a h;exact a.elim
 |resume _ _ _ k ih=>intro Q E p s a h;exact a.elim
 |yield _ _ _ k ih=>intro Q E p s a h;exact h.elim
 |stack k ih=>intro Q E p s a h;exact ih _ (a _) h
 |fork _ k ih=>intro Q E p s a h;exact h.elim
 |thread k ih=>intro Q E p s a h;exact ih _ (a _) h
 |await _ _ _ _ k ih=>intro Q E p s a h;exact h.elim
theorem db {α:Type}{M:Model}{A:Around}{t:Sem α}{Q:α->Shared->Prop}{E:`T}{s:Shared}(k:kd t)(h:wpAny M A t Q E s):wpAny M A t (λa s'=>Q a s'/\SameD s.heap s'.heap) (λ_ _=>False) s:=
 λΓ p hΓ=>Ce t k (h Γ p hΓ)
theorem Cf (v:Value):kd (fieldsOf v):=by cases v <;> first|exact True.intro|(refine al (λ_=>True.intro) λo=>?_;split <;> exact True.intro)
theorem gl (v:Value)(i:Nat):kd (field v i):=by refine al (Cf v) λx=>?_;split <;> exact True.intro
theorem kF (v:Value)(i:Nat)(x:Value):kd (setField v i x):=by
 cases v <;> first|exact True.intro|skip
 refine al (λ_=>True.intro) λo=>?_;split
 .split
  .refine⟨λo=>?_,True.intro⟩;unfold Obj.mapFields;first|rfl|(split <;> rfl)|(cases o;rename_i d _;cases d <;> rfl)
  .exact True.intro
 .exact True.intro
theorem kG (e:Value)(f:Option Addr):kd (setFlight e f):=by
 refine al (gl e 1) λtb=>?_;try dsimp only
 split
 .exact kF _ _ _
 .exact True.intro
theorem pK:∀l:List Env,kd (readyFrames l)
 |[]=>True.intro
 |env::outer=>by
  unfold readyFrames;split
  .refine al (λ_=>True.intro) λo=>?_;try dsimp only
   split
   .exact True.intro
   .refine al ?_ λim=>?_
    .unfold behindIsImport;try dsimp only
     split
     .exact True.intro
     .split
      .exact True.intro
      .exact al (gl _ _) λ_=>True.intro
    .refine al ?_ λbk=>?_
     .unfold keptBack;split
      .split
       .exact True.intro
       .exact al (al (λ_=>True.intro) λ_=>True.intro) λ_=>by split <;> exact True.intro
      .exact True.intro
     .exact al ⟨λ_=>rfl,True.intro⟩ λ_=>pK outer
  .exact True.intro
theorem Cg (env:Env):kd (PySem.frameOf env):=by
 unfold PySem.frameOf;refine al (al (λ_=>True.intro) λ_=>True.intro) λl=>al ?_ λr=>?_
 .unfold frameObject;split
  .exact True.intro
  .exact al (pK _) λ_=>True.intro
 .split <;> exact True.intro
theorem Ch (ty:String)(vs:List Value):kd (newFields ty vs):=by
 unfold newFields newObj newObjAsIs;try dsimp only
 split
 .exact True.intro
 .exact λ_=>True.intro
theorem pL (e:Value)(env:Env):kd (noteFrame e env):=by
 unfold noteFrame;split
 .refine al (gl e 1) λhd=>?_;try dsimp only
  have rest:∀(x:Unit) (f:Addr) (hd:Value),kd (do setField e 1 (<- EntryCells.newEntry hd (<- PySem.frameOf env) .none (rawInt f) .none (<- entryPlaceOf f (hd != .none))):Sem Unit):=λ_ f hd=>by
   refine al (Cg env) λ_=>al ?_ λ_=>al ?_ λ_=>kF _ _ _
   .unfold entryPlaceOf;refine al (λ_=>True.intro) λad=>?_;split <;> exact True.intro
   .unfold EntryCells.newEntry;exact Ch _ _
  split
  .refine al (gl _ _) λg=>?_;try dsimp only
   split
   .exact True.intro
   .exact al (kF _ _ _) λ_=>rest () _ _
  .exact rest () _ _
 .exact True.intro
theorem kH (env:Env)(e:Value):kd (leaving env e):=al (pL e env) λ_=>kG e none
end L2
namespace L2
open PySem PySem.Spec PySem.W PySem.Calls PyProof.Rows PySem.Builtin PySem.Builtin.ObjectAttr
noncomputable def errTail:List Value->Bool
 |.ref _::r=>errTail r
 |l=>l == vErr
theorem pM (self:Value):∀{l:List Value},errTail l=true->refuseLoop self "__setattr__" l=pure ()
 |[],e=>by cases e
 |v::r,e=>by cases v <;> first|(rw[refuseLoop_ref];exact pM self (by unfold errTail at e;exact e))|(rw[show (_::r)=vErr from beq_iff_eq.mp e];exact PySem.F.store_ValueError.passes self)
theorem pN:∀{l:List Value},errTail l=true->l.contains (.type "object")=true
 |[],e=>by cases e
 |v::r,e=>by cases v <;> first|(rw[List.contains_cons,pN (l:=r) (by unfold errTail at e;exact e),Bool.or_true])|(rw[show (_::r)=vErr from beq_iff_eq.mp e];fail "k")
noncomputable def overErr (K:Frag)(C:Addr):Bool:=(clsIn K C).any λcd=>errTail cd.mro
section
variable {prog:Program}{w:World}{A:Around}{E:`T}{s:Shared}{K:Frag}{x C:Addr}{name:Str}{v:Value}{ox:Obj}{od:Option Obj}
theorem Ci {tk:Tok}{R:Result->Shared->Prop}(X:K.In s.heap)(I:PySem.W.InstAt s.heap x ox C od)(hp:overErr K C=true)(ht:takerIn K C name=some none)
  (h:∀b,wpAny `M A.in1 (storeInOwnDict (.ref x) (.ref C) (.str name tk) name v b)
   (λfin s'=>match fin with|.done f=>R (.ok f) s'|.again c'=>c'.quiet=true/\codeAny `M A c' R s') (λe s'=>R (.error e) s') s) :
  codeAny `M A (.call (.builtin "object.__setattr__") ⟨[.ref x,.str name tk,v],[]⟩) R s:=by
 have SF:=PySem.F.store_object;obtain⟨cd,hc,ho⟩:=any_some hp;have ne:cd.mro.isEmpty=false:=by cases q:cd.mro with|nil=>rw[q] at ho;cases ho|cons _ _=>rfl
 have dl:Looks `M s.heap (isInstance (.ref x) (.type "object")) true:=I.type.andThen (looks_mroIn X (by unfold mroIn;rw[hc,Option.bind_some,if_neg (by rw[ne];decide),pN ho]));refine codeAny_call_builtin SF.slot.plain SF.entry (@check_slot `M _ _ s "object.__setattr__" "object" "__setattr__" (.ref x) [.str name tk,v] [] _ SF.kind SF.split dl (SF.args (.ref x) (.str name tk) v) ?_);obtain⟨ad,ha,hr⟩:=Option.bind_eq_some_iff.mp ht;have hm:Looks `M s.heap (mroOf (.ref C)) cd.mro:=(looks_clsIn X hc).andThen .now;have L3:Looks `M s.heap (storeTaker? ad) none:=by
  cases ad with
  |none=>exact .now
  |some a=>
   obtain⟨b,hb,mt⟩:=Option.map_eq_some_iff.mp hr;refine (looks_takesIn X hb).andThen ?_;cases b with
   |true=>cases mt
   |false=>exact .now
 rw[osa_eq,refuse_eq];refine wpAny_bind (wpAny_bind (I.type.here (wpAny_bind (hm.here ?_))));rw[pM _ ho];refine wpAny_pure (wpAny_bind (I.type.here (wpAny_bind ((looks_findIn X ha).here (wpAny_bind (L3.here ?_))))));exact h _
theorem Cj {Q:Unit->Shared->Prop}(X:K.In s.heap)(hx:s.heap.get? x=some ox)(hc:ox.cls=.ref C)(hd:ox.dict=none)(hn:notCls ox=true)
  (hs:findIn K (.ref C) "__setattr__"=some (some (.builtin "object.__setattr__"))) (hp:overErr K C=true) (ht:takerIn K C name=some none) (hh:hasDictIn K C=true)
  (h:∀h' tk,h'.get? x=some {ox with dict:=some `z}->h'.Ns1 `z (λy=>if y=name then some v else none)->(∀b o,b≠x->s.heap.get? b=some o->h'.get? b=some o)->Q () {s with heap:=h',toks:=tk}) :
  wpAny `M A (setAttr (.ref x) name v) Q E s:=by
 have J:PySem.W.InstAt s.heap x ox C none:=⟨hx,hc,hn,by rw[hd];exact True.intro⟩;refine PySem.W.set_plain X J hs (Ci (s:={ s with toks:=s.toks+1}) X J hp ht λb=>?_);obtain⟨cd,HD,HC⟩:=any_some hh;obtain⟨oc,HF,ad,Fr⟩:=ox;dsimp only at hc hd;subst hc hd;refine wpAny_bind (wpAny_pure (wpAny_bind (wpAny_bind (wpAny_loadPart hx (wpAny_bind (Looks.here (s:={ s with toks:=s.toks+1}) (looks_clsIn X HD) ?_))))));rw[HC];have nc:∀c,ad≠.cls c:=λc q=>by subst q;cases hn
 have mt:(s.heap.push {cls:=.type "dict",data:=.dict #[]}).get? x=some ⟨.ref C,none,ad,Fr⟩:=Heap.get?_push_of_some _ hx;have BT:x≠`z:=Nat.ne_of_lt (Heap.lt_size hx);have HA:((s.heap.push {cls:=.type "dict",data:=.dict #[]}).update x λo=>{ o with dict:=some `z}).get? `z=some {cls:=.type "dict",data:=.dict #[]}:=
  (Heap.get?_update_ne _ _ _ _ BT.symm).trans (Heap.get?_push_at rfl rfl)
 have GT:((s.heap.push {cls:=.type "dict",data:=.dict #[]}).update x λo=>{ o with dict:=some `z}).Ns `z (λ_=>none):=
  ⟨_,#[],_,HA,rfl,λe he=>absurd he `s,λ_=>rfl⟩
 have dl:wpAny `M A.in1 (storeInDict `z (.str name (s.toks)) name v)
   (λdl s'=>match dl with|.done f=>(match (Except.ok f:Result) with|.ok (.ret _)=>Q () s'|.ok _=>False|.error e=>E e s')|.again c'=>c'.quiet=true/\codeAny `M A c' (λr s'=>match r with|.ok (.ret _)=>Q () s'|.ok _=>False|.error e=>E e s') s') (λe s'=>E e s')
   { s with heap:=((s.heap.push {cls:=.type "dict",data:=.dict #[]}).update x λo=>{ o with dict:=some `z}),toks:=s.toks+1}:=by
  unfold storeInDict newKeyGuard;refine wpAny_bind (wpAny_pure (wpAny_bind (wpAny_nsSet1 (s:={ s with heap:=((s.heap.push {cls:=.type "dict",data:=.dict #[]}).update x λo=>{ o with dict:=some `z}),toks:=s.toks+1}) (Heap.Ns1.of_empty GT) λh' Fn Cl=>?_)));obtain⟨oD,HI,HJ,GE,HB,HE⟩:=Fn.count (Within.cons name v Within.nil);refine wpAny_bind (wpAny_lookBehind GE (by rw[HB];exact pastItsLine_dict (Nat.le_trans HE (by rw[length_cons,length_nil,sizeLine_eq];lia))) ?_);refine wpAny_pure (h h' _ ?_ Fn λb o hb e=>?_)
  .refine (Cl.2 x BT).trans (Heap.get?_update_self _ mt ?_);have HG:=(Heap.get?_some_iff.mp hx).2;cases ad <;> first|rfl|exact HG
  .exact (Cl.2 b (Nat.ne_of_lt (Heap.lt_size e))).trans ((Heap.get?_update_ne _ _ _ _ hb).trans (Heap.get?_push_of_some _ e))
 cases ad <;> first|exact absurd rfl (nc _)|exact wpAny_bind (wpAny_alloc' (wpAny_bind (wpAny_update' mt (wpAny_pure dl))))
end
end L2
namespace L2
open PySem PySem.Spec PySem.W PySem.Calls PyProof.Rows
theorem Ck {K:Frag}{h:Heap}{N:Addr}{m:Str->Option Value}{n:Str}{v:Value}(X:K.In h)(G:h.Ns N m)(e:nsIn K N n=some (some v)):m n=some v:=by
 obtain⟨o,es,ep,ho,hd,_,hf⟩:=G;unfold nsIn at e;split at e
 .next q=>
  have:=X _ _ q;rw[ho] at this;cases this;cases hd;split at e
  .next he=>
   cases e;rw[<- hf];unfold nsFind findBy;rw[<- Array.find?_toList,he];rfl
  .split at e <;> cases e
 .cases e
noncomputable abbrev newExc (C t:Addr):Obj:={ cls:=.ref C,data:=.fields #[.ref t,.none,.none,.none,.bool false,.none]}
noncomputable abbrev newTup (vs:List Value):Obj:={ cls:=.type "tuple",data:=.seq vs.toArray}
section
variable {prog:Program}{w:World}{A:Around}{E:`T}{h:Heap}{g:Array GenState}{d:Drawn}{t:Nat}{os:OsState}
variable {nm q:Str}{C N:Addr}{bs bm bmB:List Value}{hdct:Bool}{sn:List Str}{sub:List Value}{ab:Bool}{col:Option Bool}{dd:Option Addr}{k0 k1 k2 k3 k5:Option Value}{B newId initId:String}
theorem Cm (F:ExcBaseFacts B newId initId bmB)(T:OwnTail h bmB bm){mN:Str->Option Value}{rest:List Value}{fI:Addr}{oI:Obj}{Q:Fin->Shared->Prop}
  (hC:h.get? C=some (excClassObj nm q C N bs bm hdct sn sub ab col dd k0 k1 k2 k3 k5 newId)) (hn:h.Ns N mN) (hi:mN "__init__"=some (.ref fI))
  (hfI:h.get? fI=some oI) (hfc:oI.cls=.type "function")
  (hq:wpAny `M A (call (.ref fI) (.ref (h.objs.size+1)::rest)) (λr s'=>r=.none/\Q (.done (.ret (.ref (h.objs.size+1)))) s') E ⟨(h.push (newTup rest)).push (newExc C h.objs.size),g,d,t,os⟩) (hrest:rest.length<=sizeLine) :
  wpAny `M A (Builtin.«type.__call__» ⟨.ref C::rest,[]⟩) Q E ⟨h,g,d,t,os⟩:=by
 repeat (first|with_reducible refine wpAny_loadPart_at hC ?_|with_reducible refine wpAny_madeBy_exc hC ?_|wp_step)
 refine codeAny_call_builtin_code (Code.quiet_builtin _ F.quiet) (wpAny_check_new_subU F F.hasB T hC ?_);refine codeAny_exc_new_subU F F.hasB F T hC ?_ hrest;show wpAny _ _ _ _ _ _;have kp:∀b o,h.get? b=some o->((h.push (newTup rest)).push (newExc C h.objs.size)).get? b=some o:=λb o e=>Heap.get?_push_of_some _ (Heap.get?_push_of_some _ e);have Cl:=kp _ _ hC;have mt:=kp _ _ hfI;have dl:((h.push (newTup rest)).push (newExc C h.objs.size)).Ns N mN:=hn.keeps kp;have ad:((h.push (newTup rest)).push (newExc C h.objs.size)).get? (h.objs.size+1)=some (newExc C h.objs.size):=by heap_get
 have BT:(Value.ref C::bm).contains (.ref C)=true:=by simp
 have T₁:=T.keeps kp;unfold isInstance;repeat (first|with_reducible refine wpAny_loadPart_at ad ?_|(with_reducible refine wpAny_isSubtype_exc Cl ?_;rw[BT])|wp_step)
 show wpAny _ _ (typeLookup (.ref C) _) _ _ _;refine wpAny_typeLookup_tail Cl dl T₁ F.mroIs F.init.lookup ?_;rw[hi];refine wpAny_holding (wpAny_bind ?_);unfold bindSpecial;refine wpAny_bind (wpAny_typeOf (T := "function") ⟨_,mt,hfc⟩ ?_);rw[if_pos `d];refine wpAny_pure (wpAny_bind (wpAny_mono hq (λr s' hr=>?_) λ_ _ x=>x));obtain⟨rfl,hQ⟩:=hr
 wp_walk
 exact hQ
theorem Co (F:ExcBaseFacts B newId initId bmB)(T:OwnTail h bmB bm){mN:Str->Option Value}{rest:List Value}{fI:Addr}{oI:Obj}{Q:`T}
  (hC:h.get? C=some (excClassObj nm q C N bs bm hdct sn sub ab col dd k0 k1 k2 k3 k5 newId)) (hn:h.Ns N mN) (hi:mN "__init__"=some (.ref fI))
  (hfI:h.get? fI=some oI) (hfc:oI.cls=.type "function")
  (hq:wpAny `M (A.under (.builtin "type.__call__" ⟨.ref C::rest,[]⟩)) (call (.ref fI) (.ref (h.objs.size+1)::rest)) (λr s'=>r=.none/\Q (.ref (h.objs.size+1)) s') E ⟨(h.push (newTup rest)).push (newExc C h.objs.size),g,d,t,os⟩) (hrest:rest.length<=sizeLine) :
  wpAny `M A (call (.ref C) rest) Q E ⟨h,g,d,t,os⟩:=by
 have f1:=tc_lookup;have f2:=tc_bind (.ref C);have hT:(⟨h,g,d,t,os⟩:Shared).TypeIs (.ref C) "type" := ⟨_,hC,rfl⟩;refine wpAny_call (codeAny_of_tree ?_);show wpAny _ _ (callAny (.ref C) _) _ _ _;repeat (any_goals (first|assumption|with_reducible refine wpAny_loadPart_at hC ?_|wp_step))
 refine⟨rfl,?_⟩;exact codeAny_call_builtin_at (Code.quiet_builtin _ `k) entry_typeCall (wpAny_check_type_call_sub hC (Cm (hrest:=hrest) F T hC hn hi hfI hfc hq))
theorem Cp {M:Model}{s:Shared}{env:Env}{x:Sem Value}{Q:Flow->Shared->Prop}(hbase:bm.contains (.type "BaseException")=true)(hh:A.handled=none)
  (h:wpAny M A x (λv s₁=>∃e t dx sl,v=.ref e/\s₁.heap.get? C=some (excClassObj nm q C N bs bm hdct sn sub ab col dd k0 k1 k2 k3 k5 newId)/\
   s₁.heap.get? e=some ⟨.ref C,dx,.fields #[.ref t,.none,.none,.none,.bool false,.none],sl⟩/\E (.ref e) s₁) E s) :
  wpAny M A (raiseStmt env (some x) none) Q E s:=by
 have ad:(Value.ref C::bm).contains (.type "BaseException")=true:=by rw[List.contains_cons,hbase,Bool.or_true]
 unfold raiseStmt;refine wpAny_bind (wpAny_mono h (λv s₁ h₁=>?_) λ_ _ x=>x);obtain⟨e,t,dx,sl,rfl,hC,he,hE⟩:=h₁;obtain⟨hp,g,d,tk,os⟩:=s₁;repeat (first|with_reducible refine wpAny_loadPart_at he ?_|with_reducible refine wpAny_loadPart_at hC ?_|(with_reducible refine wpAny_isSubtype_exc hC ?_;rw[ad])|wp_step)
 exact wpAny_raiseNew_none hh hE
end
noncomputable def exNew (e C:Addr):HO:=.ext λh=>∃t sl,h.get? e=some ⟨.ref C,none,.fields #[.ref t,.none,.none,.none,.bool false,.none],sl⟩
noncomputable def exSet (e C d:Addr):HO:=.ext λh=>∃t sl,h.get? e=some ⟨.ref C,some d,.fields #[.ref t,.none,.none,.none,.bool false,.none],sl⟩
noncomputable def exC (a C:Addr)(d:Option Addr):HO:=.ext λh=>∃o,h.get? a=some o/\o.cls=.ref C/\(∀x,d=some x->o.dict=some x)/\notCls o=true
structure ExSt (K:Frag)(C:Addr)(f:Str):Prop where
 sa:findIn K (.ref C) "__setattr__"=some (some (.builtin "object.__setattr__"))
 po:overErr K C=true
 na:findIn K (.ref C) f=some none
 hd:hasDictIn K C=true
def sFldE (K:Frag)(ta tv:TE)(f:Str):TS:=λD Z H=>tv Z H λy H1=>ta Z H1 λx H2=>∃a C,x=.ref a/\H2 a=some (exNew a C)/\ExSt K C f/\∀d,H2 d=none->D.nx Z (upd (upd H2 a (exSet a C d)) d (.xd [(f,y)]))
section
variable {X:Cx}{ta tv:TE}{o value:Expr}{f:Str}{pos pos':Pos}
theorem Cq (ha:PE X o ta)(hv:PE X value tv)(hs:swapsWith value (some (.Attribute o f pos')) pos.line X.env=pure false):PS X (.Assign [.Attribute o f pos'] value pos) (sFldE X.K ta tv f):=by
 intro ad s Z H D I h;refine plainObj_wpAny_Assign_Attribute (thn (hv ad s Z H _ I h) λu s1 ⟨y,H1,I1,ry,q⟩=>thn (ha ad s1 Z H1 _ I1 q) λov s2 W'=>?_) hs;obtain⟨x,H2,I2,rx,a,C,ex,ea,c,q2⟩:=W';subst ex;obtain rfl:ov=Value.ref a:=rx;obtain⟨⟨t,sl,hx⟩,_,_⟩:=I2.hok a _ ea;refine Cj I2.kIn hx rfl rfl rfl c.sa c.po (NoAttr.taker (show NoAttr X.K C f from c.na)) c.hd λh' tk e1 e2 e3=>?_;have hd:H2 s2.heap.objs.size=none:=I2.hok.fresh `n;have na:∀b u,H2 b=some u->u≠exNew a C->b≠a:=λb u q n z=>by subst z;rw[ea] at q;exact n (Option.some.inj q).symm
 have nd:∀b u,s2.heap.get? b=some u->b≠s2.heap.objs.size:=λb u q=>Nat.ne_of_lt (Heap.lt_size q);have nf:∀b,H2 b=none->b≠a:=λb q z=>by subst z;rw[ea] at q;cases q
 have dl:∀b u,H2 b=some u->b≠s2.heap.objs.size:=λb u q=>aJ q hd;refine⟨Z,upd (upd H2 a (exSet a C s2.heap.objs.size)) s2.heap.objs.size (.xd [(f,y)]),I2.un (t':=tk) ⟨λb ob q n _ _=>e3 b ob (nf b n) q,λb ob q n _ _=>⟨ob.slots,e3 b ob (nf b n) q⟩,λb ob q n _=>?_,λb ob q _=>?_,λb xs q=>?_,λb ob u q=>?_,λb ps q=>?_⟩ (λb u q=>?_),q2 _ hd⟩
 .rw[aD (nd b ob q),aD (nf b n)];exact n
 .by_cases z:b=a
  .subst z;exact⟨_,e1⟩
  .exact⟨ob,e3 b ob z q⟩
 .rw[aD (dl b _ q),aD (na b _ q (by intro z;cases z))];exact q
 .rw[aD (dl b _ q),aD (na b _ q (by intro z;cases z))];exact q
 .exact⟨#[],by rw[aD (dl b _ q),aD (na b _ q (by intro z;cases z)),Array.append_empty];exact q⟩
 .by_cases zd:b=s2.heap.objs.size
  .subst zd;rw[aE] at q;cases q;refine⟨_,e2,λg=>?_⟩;by_cases z:g=f
   .subst z;rw[if_pos rfl];simp only[List.lookup,beq_self_eq_true];exact ry
   .rw[if_neg z];simp only[List.lookup,beq_eq_false_iff_ne.mpr z];exact True.intro
  .rw[aD zd] at q;by_cases za:b=a
   .subst za;rw[aE] at q;cases q;exact⟨⟨t,sl,e1⟩,⟨_,e1⟩,λh1 h2 ⟨t,sl,z⟩ k=>⟨t,sl,k _ z⟩⟩
   .rw[aD za] at q;refine (I2.hok b u q).stay (λc v hc z=>e3 c v ?_ z) (λc z=>?_) λc xs z=>?_
    .rcases hc with rfl|hc
     .exact za
     .exact na c _ hc (by intro z;cases z)
    .rw[aD (dl c _ z),aD (na c _ z (by intro z;cases z))];exact z
    .rw[aD (dl c _ z),aD (na c _ z (by intro z;cases z))];exact z
theorem Cr {K:Frag}{D:Ends}{Z:St}{H:Hp}:(sFldE K ta tv f D Z H)=(tv Z H λy H1=>ta Z H1 λx H2=>∃a C,x=.ref a/\H2 a=some (exNew a C)/\ExSt K C f/\∀d,H2 d=none->D.nx Z (upd (upd H2 a (exSet a C d)) d (.xd [(f,y)]))):=rfl
end
noncomputable def forget (H:Hp)(a:Addr):Hp:=λb=>if b=a then none else H b
theorem Cs {H:Hp}{a:Addr}:forget H a a=none:=if_pos rfl
theorem bv {H:Hp}{a b:Addr}(h:b≠a):forget H a b=H b:=if_neg h
structure FlownN (P:Program)(w:World)(base:Heap)(outer:List Env)(H:Hp)(s:Shared)(a t C:Addr)(d:Option Addr)(B:Heap)(H':Hp)(s':Shared):Prop where
 f:Flown P w base outer H s a t C B H' s'
 dc:∀x,d=some x->∃oe,s'.heap.get? a=some oe/\oe.dict=some x
noncomputable def CXN (P:Program)(w:World)(base:Heap):CXT:=λouter H s E e s'=>∃(a t C:Addr) (d:Option Addr) (B:Heap) (H':Hp),e=.ref a/\E (.ref C) d H'/\FlownN P w base outer H s a t C d B H' s'
theorem Inv.xe {X:Cx}{pins:`O}{Z:St}{H:Hp}{s:Shared}(y:`T)(I:Inv X pins Z H s):Inv {X with xe:=y} pins Z H s:=
 ⟨⟨I.ok.mod,I.ok.kind,I.ok.glob,I.ok.blt,I.ok.above,I.ok.inj,I.ok.has,I.ok.cab,I.ok.hd,I.ok.frames,I.ok.stk,I.ok.exf,I.ok.bs,I.ok.bsz,I.ok.noex,I.ok.exfs,I.ok.funs,I.ok.frf⟩,I.os,I.bare,I.base,I.loc,I.cell,I.free,I.freeC,I.pin,I.hok,I.len⟩
section
variable {P:Program}{w:World}{K:Frag}{mg:Str->Option Value}{base:Heap}{N:List Str}{qual:Str}{scope:Scope}{f:Addr}{cd:Value}{A:Around}{outer:List Env}{s:Shared}{H:Hp}{E:XK}
theorem ah:Passes (CXN P w base) (cxOf (CXN P w base) P w K mg base N qual scope f cd A outer s H E) E:=by intro ad Z H1 s1 e s2 I hq;obtain⟨a,t,C,d,B,H2,rfl,hE,W⟩:=hq;have I':Inv (cxOf (CXE P w base) P w K mg base N qual scope f cd A outer s H λc _ H'=>E c d H') ad Z H1 s1:=I.xe _;have z:=Bo (E:=λc _ H'=>E c d H') ad Z H1 s1 (.ref a) s2 I' ⟨a,t,C,B,H2,rfl,hE,W.f⟩;refine wpAny_mono (db (kH _ _) z) (λ_ s3 W'=>?_) λ_ _ z=>z.elim;obtain⟨⟨a',t',C',B',H',ea,mt,W'⟩,sd⟩:=W';cases ea;refine⟨a,t',C',d,B',H',rfl,mt,W',λx hx=>?_⟩;obtain⟨oe,ho,hd⟩:=W.dc x hx;obtain⟨ob,dl,_⟩:=W'.fly.there;exact⟨ob,dl,(sd.get ho dl).trans hd⟩
theorem Ct {pins:`O}{Z:St}{H1:Hp}{s1:Shared}{h':Heap}{e C:Addr}(I:Inv (cxOf (CXN P w base) P w K mg base N qual scope f cd A outer s H E) pins Z H1 s1)(hm:Heap.MadeExcOf s1.heap h' e (.ref C) [])(hE:E (.ref C) none H1) :
  (cxOf (CXN P w base) P w K mg base N qual scope f cd A outer s H E).xe (.ref e) {s1 with heap:=h' }:=by
 have I':Inv (cxOf (CXE P w base) P w K mg base N qual scope f cd A outer s H λc _ H'=>E c none H') pins Z H1 s1:=I.xe _;refine wpAny_mono (db (kH _ _) (Bn (E:=λc _ H'=>E c none H') pins Z H1 s1 h' e C I' hm hE)) (λ_ s3 W'=>?_) λ_ _ z=>z.elim;obtain⟨⟨a',t',C',B',H',ea,ad,W'⟩,sd⟩:=W';exact⟨a',t',C',none,B',H',ea,ad,W',λx hx=>by cases hx⟩
theorem raisesN:Raises (cxOf (CXN P w base) P w K mg base N qual scope f cd A outer s H E) E:=λ_ _ _ _ _ _ _ I hm hE=>Ct I hm hE
def Raises1 (X:Cx)(E:XK):Prop:=∀(pins:`O) (Z:St) (H:Hp) (s:Shared) (a C d:Addr),Inv X pins Z H s->H a=some (exSet a C d)->X.s₀.heap.objs.size<=a->E (.ref C) (some d) (forget H a)->X.xe (.ref a) s
theorem de:Raises1 (cxOf (CXN P w base) P w K mg base N qual scope f cd A outer s H E) E:=by
 intro HB Z H1 s1 e C d I ha HC hE;have hf:(envOfC qual scope `z f cd).frame=some `z:=rfl;have stk:s1.heap.FunFrames base (envOfC qual scope `z f cd::outer):=I.stack;have Fn:∀b∈frs (envOfC qual scope `z f cd::outer),H1 b=none:=I.stkFree;have ib:Un (frs outer) [] H H1 s.heap s1.heap:=I.base;obtain⟨⟨t,sl,he⟩,_,_⟩:=I.hok e _ ha;have BT:`z<=e:=HC;have GE:∀b o,s.heap.get? b=some o->b≠e:=λb o q=>Nat.ne_of_lt (Nat.lt_of_lt_of_le (Heap.lt_size q) BT);have ne:∀b o,s.heap.get? b=some o->b∉frs outer->b∉e::frs (envOfC qual scope `z f cd::outer):=λb o q n z=>by
  rcases mem_cons.mp z with z|z
  .exact GE b o q z
  .rcases (cm hf).mp z with z|z
   .exact absurd (Heap.lt_size q) (by rw[z];exact Nat.lt_irrefl _)
   .exact n z
 have eN:e∉frs (envOfC qual scope `z f cd::outer):=λz=>by rw[Fn e z] at ha;cases ha
 show wpAny (model P w) (A.deeper (envOfC qual scope `z f cd)) (leaving (envOfC qual scope `z f cd) (.ref e)) _ _ _;have kB:Heap.StaysIn (hideAll s1.heap (e::frs (envOfC qual scope `z f cd::outer))) s1.heap:=λb o q=>of_hideAll _ q;refine wpAny_mono (db (kH _ _) (wpAny_leaving_firstW (E:=λ_ _=>False) (Q:=λ_ s3=>∃h',s3={ s1 with heap:=h' }/\Heap.LeftW (hideAll s1.heap (e::frs (envOfC qual scope `z f cd::outer))) (envOfC qual scope `z f cd::outer) e (.ref C) (.ref t) s1.heap h')
  (base:=hideAll s1.heap (e::frs (envOfC qual scope `z f cd::outer))) (oe:=⟨.ref C,some d,.fields #[.ref t,.none,.none,.none,.bool false,.none],sl⟩) (a0:=.ref t) I.ok.frames
  (funFrames_hide stk λenv he b hb=>mem_cons_of_mem _ (mem_filterMap.mpr ⟨env,he,hb⟩)) hf he kB (hideAll_none _ (.head _)) rfl rfl rfl λh' L=>⟨h',rfl,L⟩)) (λ_ s3 ⟨⟨h2,HD,L⟩,sd⟩=>?_) λ_ _ z=>z.elim
 subst HD;obtain⟨x1,⟨_,_,x2⟩,x3,x4⟩:=L;have dl:∀b o,s.heap.get? b=some o->H b=none->b∉frs outer->(hideAll s1.heap (e::frs (envOfC qual scope `z f cd::outer))).get? b=some o:=λb o q n nf=>
  hideAll_get _ (ib.keep b o q n nf `s) (ne b o q nf)
 have Cl:∀b o,s.heap.get? b=some o->b∉frs outer->∃o',(hideAll s1.heap (e::frs (envOfC qual scope `z f cd::outer))).get? b=some o':=λb o q nf=>by obtain⟨o',z⟩:=ib.there b o q `s;exact⟨o',hideAll_get _ z (ne b o q nf)⟩
 have ad:∀b,b∈frs outer->∀o,s1.heap.get? b=some o->∃sl,h2.get? b=some {o with slots:=sl}:=λb hb o q=>by obtain⟨_,o2,q2,nd⟩:=stk.mem ((cm hf).mpr (.inr hb));rw[q] at q2;cases q2;exact x4 b o q nd
 have HA:Heap.FlyingW (hideAll s1.heap (e::frs (envOfC qual scope `z f cd::outer))) outer e (.ref C) (.ref t) h2:=⟨x1,hideAll_none _ (.head _),x2,x3⟩;have mt:∀b u,H1 b=some u->u≠exSet e C d->b≠e:=λb u q n z=>by subst z;rw[ha] at q;exact n (Option.some.inj q).symm
 refine⟨e,t,C,some d,_,forget H1 e,rfl,hE,⟨I.os,I.bare,λb o q=>?_,HA,λa u q=>?_,⟨λb o q n nf _=>x1 b o (dl b o q n nf),λb o q n hb _=>?_,λb o q n hx=>?_,λb o q _=>?_,λb xs q=>?_,λb o u q=>?_,λb ps q=>?_⟩,dl,Cl⟩,λx hx=>?_⟩
 .refine hideAll_get _ (I.bk b o q) λz=>?_;rcases mem_cons.mp z with z|z
  .exact absurd (Nat.lt_of_lt_of_le (Heap.lt_size q) (Nat.le_trans I.ok.bsz BT)) (by rw[z];exact Nat.lt_irrefl _)
  .rw[(stk.mem z).1] at q;cases q
 .by_cases z:a=e
  .subst z;rw[Cs] at q;cases q
  .rw[bv z] at q;refine (I.hok a u q).stay (λb v hb y=>hideAll_get _ y λm=>?_) (λb y=>?_) λb xs y=>?_
   .rcases mem_cons.mp m with m|m
    .rcases hb with rfl|hb
     .exact z m
     .exact mt b _ hb (by intro y;cases y) m
    .have:=Fn b m;rcases hb with rfl|hb
     .rw[q] at this;cases this
     .rw[hb] at this;cases this
   .rw[bv (mt b _ y (by intro y;cases y))];exact y
   .rw[bv (mt b _ y (by intro y;cases y))];exact y
 .obtain⟨sl,z⟩:=ib.slot b o q n hb `s;obtain⟨Fr,z'⟩:=ad b hb _ z;exact⟨Fr,z'⟩
 .rw[bv (GE b o q)];exact ib.free b o q n hx
 .by_cases hb:b∈frs outer
  .obtain⟨o',z⟩:=ib.there b o q `s;obtain⟨Fr,z'⟩:=ad b hb _ z;exact⟨_,z'⟩
  .obtain⟨o',z⟩:=Cl b o q hb;exact⟨o',x1 b o' z⟩
 .have z:=ib.tups b xs q;rw[bv (mt b _ z (by intro y;cases y))];exact z
 .have z:=ib.frzs b o u q;rw[bv (mt b _ z (by intro y;cases y))];exact z
 .obtain⟨m,z⟩:=ib.tbls b ps q;exact⟨m,by rw[bv (mt b _ z (by intro y;cases y))];exact z⟩
 .cases hx;obtain⟨ob,GT,_⟩:=HA.there;exact⟨ob,GT,sd.get he GT⟩
end
structure Mk1 (K:Frag)(C f:Addr):Prop where
 ex:excInJ K C vErr vNew (some (.ref f))=true
 fn:isFn K (.ref f)=true
 kp:keepIn K (.ref C)=true
def tRaise1 (E:XK)(C:Addr)(sp:Sp)(t:TA):TS:=λ_ Z H=>t Z H λvs H1=>∀a,H1 a=none->sp (.ref a::vs) (upd H1 a (exNew a C)) (λv H2=>v=.non/\∃d,H2 a=some (exSet a C d)/\E (.ref C) (some d) (forget H2 a)) E0
theorem Cu {E:XK}{C:Addr}{sp:Sp}{t:TA}{D:Ends}{Z:St}{H:Hp}:(tRaise1 E C sp t D Z H)=(t Z H λvs H1=>∀a,H1 a=none->sp (.ref a::vs) (upd H1 a (exNew a C)) (λv H2=>v=.non/\∃d,H2 a=some (exSet a C d)/\E (.ref C) (some d) (forget H2 a)) E0):=rfl
theorem df {X:Cx}{x:Str}{C f:Addr}{E:XK}{CX:CXT}{k:Nat}{fd:FuncData}{ps:List Str}{sp:Sp}{np cpos pos:Pos}{e:Expr}{t:TA}
  (hx:Raises1 X E) (hg:Gl X x) (hm:X.mg x=some (.ref C)) (M:Mk1 X.K C f) (F:FnOk X.prog X.w X.K X.mg X.base CX k f fd ps sp) (hr:Room (k+1) X.A) (hb:Binds X.K fd ps []) (hps:ps.length=2) (h0:Passes CX X E0) (hcalm:X.calm=true) (ha:PA X [e] t)
  (hdb:(x == ("__debug__" : Str))=false:=by decide) (he:starEach [e] X.env=(false,eval e X.env)::starEach [] X.env:=by rfl) (hpl:(backTo cpos (starEach [] X.env)).any (·.1)=false:=by rfl) :
  PS X (.Raise (some (.Call (.Name x np) [e] [] cpos)) none pos) (tRaise1 E C sp t):=by
 intro ad s Z H D I h;obtain⟨cd,tl,dd,a,hC,⟨GE,mt⟩,T⟩:=excObjJ I.ok.mod.kin M.ex;have hN:=Heap.Ns.of_isNs (isNs_of_in I.ok.mod.kin GE);have mt:=Ck I.ok.mod.kin hN mt;obtain⟨oI,Fr,HA⟩:∃oI,X.base.get? f=some oI/\oI.cls=.type "function" := by have z:typeIn X.K (.ref f)=some (.type "function"):=beq_iff_eq.mp M.fn;unfold typeIn at z;obtain⟨o,ho,hc⟩:=Option.map_eq_some_iff.mp z;exact⟨o,I.ok.mod.kin _ _ ho,hc⟩
 rw[arm_exec_Raise];have Cl:=T.hasType PySem.F.excBase_ValueError.hasBase;refine wpAny_bind (wpAny_standAt (Cp (C:=C) (nm:=cd.name) (q:=cd.qualname) (N:=cd.ns) (bs:=cd.bases) (bm:=tl) (hdct:=cd.hasDict) (sn:=cd.slotNames) (sub:=cd.subclasses) (ab:=cd.abstract) (col:=cd.collection) (dd:=dd) (k0:=a 0) (k1:=a 1) (k2:=a 2) (k3:=a 3) (k5:=a 5) (newId:=vNew) Cl (I.ok.hd hcalm) ?_));refine wpAny_bind (wpAny_mono (wpAny_Call_Name_kw (dG I hg hm ?_ hdb)) (λv s₃ h₃=>wpAny_bind (wpAny_standAt (wpAny_pure h₃))) λ_ _ x=>x);refine callWith_K (h₀:=X.base) I.ok.mod.kin M.kp (thn (ha cpos ad s Z H _ I h) λus s1 ⟨vs,H1,I1,r,q⟩=>⟨I1.kIn,?_⟩) he hpl;rw[nil_append];obtain⟨hh,g,dw,tk,os⟩:=s1;have GT:us.length<=sizeLine:=by have z:=F.len _ _ _ _ (q (hh.objs.size+1) (I1.hok.fresh (Nat.le_succ _)));rw[length_cons,hps] at z;rw[<- r.length,sizeLine_eq];lia
 have kb:∀b o,X.base.get? b=some o->hh.get? b=some o:=λb o e=>I1.bk b o e;refine Co PySem.F.excBase_ValueError (T.keeps kb) (kb _ _ hC) (hN.keeps kb) mt (kb _ _ Fr) HA ?_ GT;have I2:Inv X ad Z (upd H1 (hh.objs.size+1) (exNew (hh.objs.size+1) C)) ⟨(hh.push (newTup us)).push (newExc C hh.objs.size),g,dw,tk,os⟩:=by
  refine I1.laid (t':=tk) (λb u e=>Heap.get?_push_of_some _ (Heap.get?_push_of_some _ e)) (Nat.le_succ _) ?_;have BT:((hh.push (newTup us)).push (newExc C hh.objs.size)).get? (hh.objs.size+1)=some (newExc C hh.objs.size):=by heap_get
  exact⟨⟨_,_,BT⟩,⟨_,BT⟩,λh1 h2 ⟨t,sl,z⟩ k=>⟨t,sl,k _ z⟩⟩
 have q2:=q (hh.objs.size+1) (I1.hok.fresh (Nat.le_succ _));have r2:Vals (V.ref (hh.objs.size+1)::vs) (Value.ref (hh.objs.size+1)::us):=.cons rfl r;have hl:(Value.ref (hh.objs.size+1)::us).length=ps.length:=by rw[<- r2.length];exact F.len _ _ _ _ q2
 have HB:=hb ⟨(hh.push (newTup us)).push (newExc C hh.objs.size),g,dw,tk,os⟩ (Value.ref (hh.objs.size+1)::us) I2.kIn (by rw[append_nil];exact hl);rw[append_nil] at HB;refine wpAny_call (codeAny_mono (F.run _ X.stack _ _ ⟨Value.ref (hh.objs.size+1)::us,[]⟩ (Value.ref (hh.objs.size+1)::us) _ _ E0 (hr.make C us []) (I2.env0.make C us []) HB r2 q2) λr s' dl=>?_);cases r with
 |error ev=>exact h0 ad Z _ _ ev s' I2 dl
 |ok fl=>
  cases fl with
  |ret u=>obtain⟨v,H',I3,rv,ev,d,hd,hE⟩:=I2.after dl;subst ev;obtain⟨⟨t,sl,Fn⟩,_,_⟩:=I3.hok _ _ hd;exact⟨rv,_,t,some d,sl,rfl,I3.bk _ _ hC,Fn,hx ad Z H' s' _ C d I3 hd (Nat.le_trans I1.sz (Nat.le_succ _)) hE⟩
  |next=>exact False.elim dl
  |brk=>exact False.elim dl
  |cont=>exact False.elim dl
theorem Fun.okn {P:Program}{w:World}{K:Frag}{mg:Str->Option Value}{base:Heap}{x qual:Str}{st:Stmt}{f:Addr}{fd:FuncData}{N ps:List Str}{k:Nat}{sp:Sp}(F:Fun K x qual st f fd)(S:FnScope N ps (defScope st))(len:∀vs H Q E,sp vs H Q E->vs.length=ps.length)
  (hbody:∀(cdv:Value) (A:Around) (outer:List Env) (s:Shared) (H:Hp) (vs:`V) (Q:VK) (E:XK),Room k (A.deeper (envOfC qual (defScope st) `z f cdv))->sp vs H Q E ->
   ∃t,PSs (cxOf (CXN P w base) P w K mg base N qual (defScope st) f cdv A outer s H E) (defBody st) t/\t {nx:=λ_ H'=>Q .non H',rt:=Q} (start N vs) H):FnOk P w K mg base (CXN P w base) (k+1) f fd ps sp:=by
 obtain⟨oc,od,kV,doc,pm,an,cdv,ct,osl,rfl,lk,hcd⟩:=F.ex;exact gR lk hcd S len λA outer s H vs Q E hr hsp=>hbody cdv A outer s H vs Q E hr hsp
theorem passes0N {P:Program}{w:World}{base:Heap}{X:Cx}:Passes (CXN P w base) X E0:=λ_ _ _ _ _ _ _ ⟨_,_,_,_,_,_,_,z,_⟩=>z.elim
def TryB (X:Cx)(body:List Stmt)(t:XK->TS):Prop:=∀(pins:`O) (s:Shared) (Z:St) (H:Hp) (D:Ends) (Eh:XK),Inv X pins Z H s->t Eh D Z H ->
 wpAny `m X.A (execs body X.env) (SP X pins D) (λe s'=>∃H1 s1,Inv X pins Z H1 s1/\CXN X.prog X.w X.base X.stack H1 s1 Eh e s') s
theorem Inv.sharp {X:Cx}{pins:`O}{Z:St}{H:Hp}{s:Shared}{a:Addr}{φ ψ:Heap->Prop}(I:Inv X pins Z (upd H a (.ext φ)) s)(h:ψ s.heap)(st:∀h1 h2:Heap,ψ h1->(∀o,h1.get? a=some o->h2.get? a=some o)->ψ h2):Inv X pins Z (upd H a (.ext ψ)) s:=by
 have e:upd H a (.ext φ) a=some (.ext φ):=aE;obtain⟨_,ex,_⟩:=I.hok a _ e;have:=I.write (x:=a) (e:=a) (o:=.ext ψ) (t':=s.toks) (h':=s.heap) (by rw[e];exact True.intro) (.inl rfl) (λb u _ q=>q) ex ⟨h,ex,st⟩
 rwa [lq] at this
def tTryN (K:Frag)(t:XK->TS)(W:Addr)(i:Nat)(tb:TS):TS:=λD Z H=>t (λcls d H2=>
 ∃C,cls=.ref C/\subIn K (.ref C) (.ref W)=some true/\∀a,H2 a=none->tb {nx:=λZ' H'=>D.nx (Z'.set i none) H',rt:=D.rt} (Z.set i (some (.ref a))) (upd H2 a (exC a C d))) {nx:=D.nx,rt:=D.rt} Z H
theorem Cv {X:Cx}{W:Addr}{x n:Str}{np hpos pos:Pos}{body:List Stmt}{b₀:Stmt}{suite:List Stmt}{t:XK->TS}{tb:TS}{i:Nat}
  (hb:TryB X body t) (hstk:X.stack=X.env::X.outer) (hf:X.env.frame=some X.env.locals) (hgW:Gl X x) (hmW:X.mg x=some (.ref W)) (cw:Catch X.K W)
  (nd:X.N.Nodup) (hi:X.N[i]?=some n) (hl:X.env.scope.names.lookup n=some .local) (hbd:∀a,PSs (X.handling (.ref a)) (b₀::suite) tb) (hdW:(x == ("__debug__" : Str))=false:=by decide) :
  PS X (.Try body [.ExceptHandler (some (.Name x np)) (some n) (b₀::suite) hpos] [] [] pos) (tTryN X.K t W i tb):=by
 intro dl s Z H D I h;refine wpAny_Try_except (wpAny_mono (hb dl s Z H _ _ I h) (λfl s2 q=>?_) λev s2 ⟨H1,s1,I1,hq⟩=>?_)
 .cases fl with
  |next=>exact wpAny_execs_nil q
  |ret u=>exact q
  |brk=>obtain⟨_,_,_,q⟩:=q;exact q.elim
  |cont=>obtain⟨_,_,_,q⟩:=q;exact q.elim
 .obtain⟨a,tt,C,d,B,H2,rfl,⟨C',ce,Fn,hq⟩,Wn⟩:=hq;cases ce;have hn:H2 a=none:=Wn.f.new (h5:=s.heap) (a0:=.none);have fl:Heap.FlyingW B (X.env::X.outer) a (.ref C) (.ref tt) s2.heap:=hstk▸Wn.f.fly;have fr:X.A.frames=some (X.env::X.outer):=hstk▸I1.ok.frames;refine wpAny_mono (db (pL _ _) (wpAny_looks_onW (E:=λ_ _=>False) (Q:=λ_ s3=>∃h4,s3={ s2 with heap:=h4}/\Heap.HeldW B (X.env::X.outer) a (.ref C) (.ref tt) X.env.locals h4/\s2.heap.UpToSlots h4) fr hf fl λh4 ad BT=>⟨h4,rfl,ad,BT⟩)) (λ_ s3 W'=>?_) λ_ _ z=>z.elim;obtain⟨⟨h4,e3,ad,BT⟩,HA⟩:=W';subst e3;refine wpAny_mono (db (kG _ _) (wpAny_landsW (E:=λ_ _=>False) (s:={ s2 with heap:=h4}) (Q:=λ_ s3=>∃h5,s3={ s2 with heap:=h5}/\Heap.FlyingW B (X.env::X.outer) a (.ref C) (.ref tt) h5/\h4.UpToSlots h5) ad λh5 f5 mt=>⟨h5,rfl,f5,mt⟩)) (λ_ s3 W'=>?_) λ_ _ z=>z.elim;obtain⟨⟨h5,e3,f5,mt⟩,GT⟩:=W';subst e3;have I5:=I1.caught Wn.f (hstk.symm▸f5) (BT.trans mt);refine wpAny_handleBy_cons (codeAny_handlers_test (dG (X:=X.handling (.ref a)) (I5.handling _) hgW hmW ?_ hdW)) (by intro q;cases q);obtain⟨ob,HC,HB⟩:=f5.there;refine (Bp I5.kIn HC HB cw Fn) _ _ _ _ (λb o q=>q) ?_;refine codeAny_handlers_suite_as ?_;refine wpAny_mono (db (kG _ _) (lands_againW (E:=λ_ _=>False) (s:={ s2 with heap:=h5}) (Q:=λ_ s3=>∃h6,s3={ s2 with heap:=h6}/\Heap.FlyingW B (X.env::X.outer) a (.ref C) (.ref tt) h6/\h5.UpToSlots h6) f5 λh6 f6 Cl=>⟨h6,rfl,f6,Cl⟩)) (λ_ s3 W'=>?_) λ_ _ z=>z.elim;obtain⟨⟨h6,e3,f6,Cl⟩,GE⟩:=W';subst e3;have I6':=I1.caught Wn.f (hstk.symm▸f6) ((BT.trans mt).trans Cl);obtain⟨oe,HF,Fr,HE,HD,_⟩:=f6.first;have I6:Inv X dl Z (upd H2 a (exC a C d)) {s2 with heap:=h6}:=by
   refine I6'.sharp ⟨oe,Fr,HE,λy hy=>?_,by unfold notCls;rw[HD]⟩ λh1 h2 ⟨o,z,c⟩ k=>⟨o,k o z,c⟩;obtain⟨o2,z2,zd⟩:=Wn.dc y hy;exact (((HA.trans GT).trans GE).get z2 Fr).trans zd
  refine jJ (X:=X.handling (.ref a)) (i:=i) (v:=.ref a) (I6.handling _) nd hi (.inl hl) rfl (λs7 I7=>?_) (.inr hl);refine wpAny_mono (hbd a dl s7 _ _ _ I7 (hq a hn)) (λfl s8 q8=>?_) λe s8 z=>z.elim;cases fl with
  |next=>obtain⟨Z',H',I',q'⟩:=q8;exact (Inv.handled I1.ok I').goes nd hi hl λs9 I9=>⟨_,_,I9,q'⟩
  |ret u=>obtain⟨v,Z',H',I',rv,q'⟩:=q8;exact (Inv.handled I1.ok I').goes nd hi hl λs9 I9=>⟨_,_,_,I9,rv,q'⟩
  |brk=>obtain⟨_,_,_,q'⟩:=q8;exact q'.elim
  |cont=>obtain⟨_,_,_,q'⟩:=q8;exact q'.elim
theorem Cw {K:Frag}{t:XK->TS}{W:Addr}{i:Nat}{tb:TS}{D:Ends}{Z:St}{H:Hp}:tTryN K t W i tb D Z H↔t (λcls d H2=>
 ∃C,cls=.ref C/\subIn K (.ref C) (.ref W)=some true/\∀a,H2 a=none->tb {nx:=λZ' H'=>D.nx (Z'.set i none) H',rt:=D.rt} (Z.set i (some (.ref a))) (upd H2 a (exC a C d))) {nx:=D.nx,rt:=D.rt} Z H:=Iff.rfl
def rIsX (K:Frag):`V->Hp->VK->Prop:=λvs H Q=>∃a c C d b,vs=[.ref a,c]/\H a=some (exC a C d)/\ExLook K C/\KitAns K H C c b/\Q (.bl b) H
theorem cq {X:Cx}{K:Frag}(hk:X.K=K):CallR X (.builtin "isinstance") (rIsX K):=by
 subst hk;intro Cl s Z H vs us Q I rv h;obtain⟨a,c,C,d,b,rfl,ha,L,Fn,q⟩:=h;cases rv with
 |cons r1 rs=>
  cases rs with
  |cons r2 rn=>
   cases rn;cases r1;have ad:∃o,s.heap.get? a=some o/\o.cls=.ref C:=let ⟨⟨o,z,c,_⟩,_⟩:=I.hok a _ ha;⟨o,z,c⟩
   have Zb:=Bv (a:=a) L PySem.F.attrBase_ValueError.ga;cases Fn with
   |cls e=>cases r2;exact kia_one Zb I.kIn ad e (by intro z;cases z) λtk=>⟨.bl b,H,I.tok tk,rfl,q⟩
   |ty e=>cases r2;exact kia_one Zb I.kIn ad e (by intro z;cases z) λtk=>⟨.bl b,H,I.tok tk,rfl,q⟩
   |tup hp e=>cases r2;obtain⟨_,Fr,rv,⟨oc,od,da,sl⟩,dl,BT,n,mt⟩:=I.hok _ _ hp;dsimp only at BT mt;subst BT mt;rw[oO rv] at dl;exact kia_tup Zb I.kIn ad dl e (by intro z;cases z) λtk=>⟨.bl b,H,I.tok tk,rfl,q⟩
theorem Cy {K:Frag}{a:Addr}{c:V}{H:Hp}{Q:VK}:rIsX K [.ref a,c] H Q↔∃C d b,H a=some (exC a C d)/\ExLook K C/\KitAns K H C c b/\Q (.bl b) H:=
 ⟨λ⟨_,_,C,d,b,e,h⟩=>by cases e;exact⟨C,d,b,h⟩,λ⟨C,d,b,h⟩=>⟨a,c,C,d,b,rfl,h⟩⟩
end L2
namespace L2
open PySem PySem.Spec PySem.W PySem.Calls PyProof.Rows PySem.Builtin PySem.Builtin.ObjectAttr
structure ExFld (K:Frag)(C:Addr)(f:Str):Prop where
 look:ExLook K C
 na:findIn K (.ref C) f=some none
 hd:hasDictIn K C=true
end L2
namespace L2
open PySem PySem.Spec PySem.W PySem.Calls PyProof.Rows
theorem FunD.okn {P:Program}{w:World}{K:Frag}{mg:Str->Option Value}{base:Heap}{x qual:Str}{st:Stmt}{f T:Addr}{fd:FuncData}{N ps:List Str}{k:Nat}{sp:Sp}(F:FunD K x qual st f fd T)(S:FnScope N ps (defScope st))(len:∀vs H Q E,sp vs H Q E->vs.length=ps.length)
  (hbody:∀(cdv:Value) (A:Around) (outer:List Env) (s:Shared) (H:Hp) (vs:`V) (Q:VK) (E:XK),Room k (A.deeper (envOfC qual (defScope st) `z f cdv))->sp vs H Q E ->
   ∃t,PSs (cxOf (CXN P w base) P w K mg base N qual (defScope st) f cdv A outer s H E) (defBody st) t/\t {nx:=λ_ H'=>Q .non H',rt:=Q} (start N vs) H):FnOk P w K mg base (CXN P w base) (k+1) f fd ps sp:=by
 obtain⟨oc,od,kV,doc,pm,an,cdv,ct,osl,rfl,lk,hcd⟩:=F.ex;exact gR lk hcd S len λA outer s H vs Q E hr hsp=>hbody cdv A outer s H vs Q E hr hsp
end L2
namespace Wm
open PySem L2
noncomputable abbrev Rs (α:Type):=Except Nat (α×Nat)
noncomputable def sh {α:Type}(k:Nat):Rs α->Rs α
 |.ok (a,n)=>.ok (a,k+n)
 |.error n=>.error (k+n)
noncomputable def mp {α β:Type}(f:α->β):Rs α->Rs β
 |.ok (a,n)=>.ok (f a,n)
 |.error n=>.error n
noncomputable def pre {α:Type}(c:α)(k:Nat):Rs (List α)->Rs (List α)
 |.ok (l,n)=>.ok (c::l,k+n)
 |.error n=>.error (k+n)
section
variable {α β γ:Type}
theorem fR {a b:Nat}{r:Rs α}:sh a (sh b r)=sh (a+b) r:=by
 cases r with
 |error n=>show Except.error _=Except.error _;rw[Nat.add_assoc]
 |ok x=>show Except.ok _=Except.ok _;rw[Nat.add_assoc]
theorem Cz {a:Nat}{f:α->β}{r:Rs α}:mp f (sh a r)=sh a (mp f r):=by cases r <;> rfl
theorem CC {g:β->γ}{f:α->β}{r:Rs α}:mp g (mp f r)=mp (λx=>g (f x)) r:=by cases r <;> rfl
theorem sh_0 {r:Rs α}:sh 0 r=r:=by
 cases r with
 |error n=>show Except.error _=Except.error _;rw[Nat.zero_add]
 |ok x=>show Except.ok _=Except.ok _;rw[Nat.zero_add]
theorem CD {r:Rs α}:mp (λx=>x) r=r:=by cases r <;> rfl
theorem pO {c:α}{k:Nat}{r:Rs (List α)}:pre c k r=sh k (mp (λl=>c::l) r):=by cases r <;> rfl
def Via (tot:Rs γ)(b:Nat)(f:α->γ)(r:Rs α):Prop:=tot=sh b (mp f r)
theorem Via.refl {r:Rs α}:Via r 0 (λx=>x) r:=by unfold Via;rw[CD,sh_0]
theorem Via.step {tot:Rs γ}{b a:Nat}{f:β->γ}{g:α->β}{r:Rs β}{r':Rs α}(h:Via tot b f r)(e:r=sh a (mp g r')):Via tot (b+a) (λx=>f (g x)) r':=by
 unfold Via at *
 rw[h,e,Cz,fR,CC]
theorem Via.ok {tot:Rs γ}{b n:Nat}{f:α->γ}{r:Rs α}{x:α}(h:Via tot b f r)(e:r=.ok (x,n)):tot=.ok (f x,b+n):=by unfold Via at h;rw[h,e];rfl
theorem Via.err {tot:Rs γ}{b n:Nat}{f:α->γ}{r:Rs α}(h:Via tot b f r)(e:r=.error n):tot=.error (b+n):=by unfold Via at h;rw[h,e];rfl
end
theorem take1 {r:Tq}{c:Nat}:r.take [c].length=[c]↔r.head?=some c:=by
 cases r with
 |nil=>simp
 |cons d r=>simp
noncomputable def dec (mo:Option Nat):Option Nat:=mo.map λm=>m - 1
def Capd (mo:Option Nat)(k:Nat):Prop:=∀z,mo=some z->k<=z
noncomputable def fsF:Tq:=[50,51,52,53,54,55]
noncomputable def prM:Tq->Rs Nat
 |a::b::_=>if a∈fsF then (match sgO a b with|some c=>.ok (c,2)|none=>.error 1) else .error 0
 |[a]=>if a∈fsF then .error 1 else .error 0
 |[]=>.error 0
theorem pP {r:Tq}{c n:Nat}(h:prM r=.ok (c,n)):∃a b r',r=a::b::r'/\sgO a b=some c/\n=2/\a∈fsF:=by
 match r,h with
 |[],h=>cases h
 |[a],h=>
  have h:(if a∈fsF then (.error 1:Rs Nat) else .error 0)=.ok (c,n):=h;by_cases hf:a∈fsF
  .rw[if_pos hf] at h;cases h
  .rw[if_neg hf] at h;cases h
 |a::b::r',h=>
  have h:(if a∈fsF then (match sgO a b with|some c=>(.ok (c,2):Rs Nat)|none=>.error 1) else .error 0)=.ok (c,n):=h;by_cases hf:a∈fsF
  .rw[if_pos hf] at h;cases hs:sgO a b with
   |none=>rw[hs] at h;cases h
   |some d=>rw[hs] at h;cases h;exact⟨a,b,r',rfl,hs,rfl,hf⟩
  .rw[if_neg hf] at h;cases h
noncomputable def txtM (fr:Tq)(r:Tq)(mo:Option Nat):Rs Tq:=
 match r with
 |[]=>.ok ([],0)
 |c::r'=>
  if mo=some 0 then .ok ([],0)
  else if c=126 then (match prM r' with|.error n=>.error (n+1)|.ok (s,n)=>pre s (n+1) (txtM fr (r'.drop n) (dec mo)))
  else if isPl c=true\/c∈fr then pre c 1 (txtM fr r' (dec mo))
  else .ok ([],0)
termination_by r.length
decreasing_by
 .simp only[length_drop,length_cons];lia
 .simp only[length_cons];lia
theorem fT {fr:Tq}{mo:Option Nat}:txtM fr [] mo=.ok ([],0):=by rw[txtM]
theorem gm {fr r:Tq}:txtM fr r (some 0)=.ok ([],0):=by
 cases r with
 |nil=>exact fT
 |cons c r=>rw[txtM,if_pos rfl]
theorem gn {fr r:Tq}{mo:Option Nat}(h:mo≠some 0):txtM fr (126::r) mo=(match prM r with|.error n=>.error (n+1)|.ok (s,n)=>pre s (n+1) (txtM fr (r.drop n) (dec mo))):=by rw[txtM,if_neg h,if_pos rfl]
theorem kI {fr r:Tq}{mo:Option Nat}{c:Nat}(h:mo≠some 0)(h1:c≠126)(h2:isPl c=true\/c∈fr):txtM fr (c::r) mo=pre c 1 (txtM fr r (dec mo)):=by rw[txtM,if_neg h,if_neg h1,if_pos h2]
theorem fU {fr r:Tq}{mo:Option Nat}(h:Stops fr r):txtM fr r mo=.ok ([],0):=by
 cases r with
 |nil=>exact fT
 |cons c r=>
  obtain⟨h1,h2,h3⟩:=h c rfl;by_cases h0:mo=some 0
  .rw[h0];exact gm
  .rw[txtM,if_neg h0,if_neg h3,if_neg (λz=>z.elim (λz=>by rw[h1] at z;cases z) h2)]
theorem fV {fr:Tq}:∀(k:Nat) {r:Tq}{mo:Option Nat}{s:Tq}{n:Nat},r.length<=k->txtM fr r mo=.ok (s,n) ->
  ∃w r',r=w++r'/\w.length=n/\WrT fr s w/\(Stops fr r'\/mo=some s.length)/\∀m,mo=some m->s.length<=m:=by
 intro k;induction k with
 |zero=>intro r mo s n hk h;have hr:r=[]:=length_eq_zero_iff.mp `l;subst hr;rw[fT] at h;cases h;exact⟨[],[],rfl,rfl,.nil,.inl fO,λm _=>Nat.zero_le _⟩
 |succ k ih=>
  intro r mo s n hk h;cases r with
  |nil=>rw[fT] at h;cases h;exact⟨[],[],rfl,rfl,.nil,.inl fO,λm _=>Nat.zero_le _⟩
  |cons c r=>
   simp only[length_cons] at hk;by_cases h0:mo=some 0
   .subst h0;rw[gm] at h;cases h;exact⟨[],_,rfl,rfl,.nil,.inr rfl,λm _=>Nat.zero_le _⟩
   have hm:∀(s':Tq) (x:Nat),(∀m,dec mo=some m->s'.length<=m)->∀m,mo=some m->(x::s').length<=m:=λs' x hh m e=>by subst e;have:=hh (m - 1) rfl;have h1:m≠0:=λz=>h0 (by rw[z]);simp only[length_cons];lia
   have ad:∀(s' r':Tq) (x:Nat),(Stops fr r'\/dec mo=some s'.length)->(Stops fr r'\/mo=some (x::s').length):=λs' r' x hh=>hh.imp id λe=>by
    cases mo with
    |none=>cases e
    |some m=>
     have e:some (m - 1)=some s'.length:=e;have h1:m≠0:=λz=>h0 (by rw[z]);have e:=Option.some.inj e;rw[length_cons,<- e]
     congr 1;lia
   by_cases hc:c=126
   .subst hc;rw[gn h0] at h;cases hp:prM r with
    |error e=>rw[hp] at h;cases h
    |ok x=>
     obtain⟨x,nx⟩:=x;obtain⟨a,b,r2,rfl,hs,rfl,_⟩:=pP hp;rw[hp] at h;simp only[drop_succ_cons,drop_zero] at h;cases ht:txtM fr r2 (dec mo) with
     |error e=>rw[ht] at h;cases h
     |ok y=>obtain⟨s',m⟩:=y;rw[ht] at h;cases h;obtain⟨w,r',e1,e2,e3,e4,e5⟩:=ih (by simp only[length_cons] at hk;lia) ht;refine⟨126::a::b::w,r',by rw[e1];rfl,by simp only[length_cons];lia,.pair hs e3,ad s' r' x e4,hm s' x e5⟩
   .by_cases hp:isPl c=true\/c∈fr
    .rw[kI h0 hc hp] at h;cases ht:txtM fr r (dec mo) with
     |error e=>rw[ht] at h;cases h
     |ok y=>obtain⟨s',m⟩:=y;rw[ht] at h;cases h;obtain⟨w,r',e1,e2,e3,e4,e5⟩:=ih `l ht;exact⟨c::w,r',by rw[e1];rfl,by simp only[length_cons];lia,.self hp hc e3,ad s' r' c e4,hm s' c e5⟩
    .rw[txtM,if_neg h0,if_neg hc,if_neg hp] at h;cases h;refine⟨[],c::r,rfl,rfl,.nil,.inl (bY ⟨?_,λz=>hp (.inr z),hc⟩),λm _=>Nat.zero_le _⟩;cases hi:isPl c with
     |false=>rfl
     |true=>exact absurd (.inl hi) hp
theorem bZ {fr r s:Tq}{mo:Option Nat}{n:Nat}(h:txtM fr r mo=.ok (s,n)):n<=r.length/\s.length<=n/\(s≠[]->0 < n):=by obtain⟨w,r',e1,e2,e3,_⟩:=fV r.length `n h;have:=gj e3;refine⟨by rw[e1,length_append];lia,`l,λz=>?_⟩;have:=length_pos_iff.mpr z;lia
theorem cr {fr s w r:Tq}(h:WrT fr s w):∀{mo:Option Nat},(Stops fr r\/mo=some s.length)->(∀m,mo=some m->s.length<=m)->txtM fr (w++r) mo=.ok (s,w.length):=by
 induction h with
 |nil=>
  intro mo h1 _;rcases h1 with h1|rfl
  .exact fU h1
  .exact gm
 |self a b _ ih=>
  rename_i c s w _;intro mo h1 h2;have h0:mo≠some 0:=λz=>by have:=h2 0 z;simp at this
  show txtM fr (c::(w++r)) mo=_;rw[kI h0 b a,ih (h1.imp id λe=>by rw[e];rfl) (λm e=>by
   cases mo with
   |none=>cases e
   |some k=>cases e;have:=h2 k rfl;simp only[length_cons] at this;show s.length<=k - 1;lia)]
  show Except.ok (c::s,1+w.length)=_;rw[length_cons,Nat.add_comm]
 |pair hs _ ih=>
  rename_i c a b s w _;intro mo h1 h2;have h0:mo≠some 0:=λz=>by have:=h2 0 z;simp at this
  have hf:a∈fsF:=by have:=(oU hs).1;rw[show (ofString "234567").cps.toList=fsF by fail "k"] at this;exact this
  have hp:prM (a::b::(w++r))=.ok (c,2):=by show (if a∈fsF then _ else _)=_;rw[if_pos hf,hs]
  show txtM fr (126::(a::b::(w++r))) mo=_;rw[gn h0,hp];show pre c 3 (txtM fr (w++r) (dec mo))=_;rw[ih (h1.imp id λe=>by rw[e];rfl) (λm e=>by
   cases mo with
   |none=>cases e
   |some k=>cases e;have:=h2 k rfl;simp only[length_cons] at this;show s.length<=k - 1;lia)]
  show Except.ok (c::s,3+w.length)=_;simp only[length_cons];rw[Nat.add_comm]
noncomputable def filM (fr r:Tq)(mo:Option Nat):Rs Tq:=match txtM fr r mo with
 |.error n=>.error n
 |.ok (s,n)=>if s=[] then .error n else .ok (s,n)
noncomputable def houM (r:Tq):Rs (Option Tq):=if r.take 2=[47,47] then sh 2 (mp some (filM [] (r.drop 2) (some 60))) else .ok (none,0)
noncomputable def dooG:Tq->Nat->Nat×Nat
 |[],n=>(n,0)
 |c::r,n=>if 0 < n/\48<=c/\c<=57/\n * 10+(c - 48)<=65535 then ((dooG r (n * 10+(c - 48))).1,(dooG r (n * 10+(c - 48))).2+1) else (n,0)
noncomputable def dooM (r:Tq):Rs (Option Int):=if r.head?=some 58 then
  match r.drop 1 with
  |[]=>.error 1
  |c::r'=>if 48<=c/\c<=57 then .ok (some ((dooG r' (c - 48)).1:Int),2+(dooG r' (c - 48)).2) else .error 1
 else .ok (none,0)
noncomputable def stpF:Nat->Tq->Bool->Rs (List Tq×Bool)
 |0,_,e=>.ok (([],e),0)
 |f+1,r,e=>match txtM frS r none with
  |.error n=>.error n
  |.ok (s,n)=>if s=[] then .ok (([],e),n)
   else if (r.drop n).head?=some 47 then sh (n+1) (mp (λx=>(s::x.1,x.2)) (stpF f (r.drop (n+1)) true))
   else sh n (mp (λx=>(s::x.1,x.2)) (stpF f (r.drop n) false))
noncomputable def wayM (must:Bool)(r:Tq):Rs (Bool×List Tq×Bool):=
 if r.head?=some 47 then sh 1 (mp (λx=>(true,x)) (stpF (r.length+1) (r.drop 1) true))
 else if must=true then .ok ((true,[],true),0)
 else mp (λx=>(false,x)) (stpF (r.length+1) r false)
noncomputable def valM (r:Tq):Rs (Option Tq):=if r.head?=some 61 then sh 1 (mp some (txtM frQ (r.drop 1) none)) else .ok (none,0)
noncomputable def marM (r:Tq):Rs (Option Tq):=if r.head?=some 35 then sh 1 (mp some (txtM frM (r.drop 1) none)) else .ok (none,0)
noncomputable def bdR {α β:Type}(x:Rs α)(f:α->Nat->Rs β):Rs β:=match x with
 |.error n=>.error n
 |.ok (a,n)=>sh n (f a n)
noncomputable def prsF:Nat->Tq->Rs (List (Tq×Option Tq))
 |0,_=>.ok ([],0)
 |f+1,r=>if r.head?=some 38 then
   sh 1 (bdR (filM frQ (r.drop 1) none) λs n=>bdR (valM (r.drop (1+n))) λv m=>mp (λl=>(s,v)::l) (prsF f (r.drop (1+n+m))))
  else .ok ([],0)
noncomputable def queM (r:Tq):Rs (Option (List (Tq×Option Tq))):=if r.head?=some 63 then
  sh 1 (bdR (txtM frQ (r.drop 1) none) λs n=>if s=[] then .ok (some [],0) else
   bdR (valM (r.drop (1+n))) λv m=>mp (λl=>some ((s,v)::l)) (prsF (r.length+1) (r.drop (1+n+m))))
 else .ok (none,0)
noncomputable def bdA {α β:Type}(x:Rs α)(i:Nat)(f:α->Nat->Except Nat β):Except Nat β:=match x with
 |.error n=>.error (i+n)
 |.ok (a,n)=>f a (i+n)
theorem dh {α β:Type}{a:α}{n i:Nat}{f:α->Nat->Except Nat β}:bdA (.ok (a,n)) i f=f a (i+n):=rfl
theorem di {α β:Type}{n i:Nat}{f:α->Nat->Except Nat β}:bdA (.error n:Rs α) i f=.error (i+n):=rfl
noncomputable def dorM (h:Option Tq)(r:Tq):Rs (Option Int):=if h=none then .ok (none,0) else dooM r
noncomputable def readM (t:Tq):Except Nat Ad:=
 bdA (houM (t.drop (schP t))) (schP t) λh i=>bdA (dorM h (t.drop i)) i λd i=>bdA (wayM (decide (schM t≠[]\/h≠none)) (t.drop i)) i λw i=>
  bdA (queM (t.drop i)) i λq i=>bdA (marM (t.drop i)) i λm i=>if i=`t then .ok ⟨schM t,h,d,w.1,w.2.1,w.2.2,q,m⟩ else .error i
section
variable {t:Tq}{h:Option Tq}{d:Option Int}{w:Bool×List Tq×Bool}{q:Option (List (Tq×Option Tq))}{m:Option Tq}{n n1 n2 n3 n4 n5:Nat}
theorem CF (e1:houM (t.drop (schP t))=.error n):readM t=.error (schP t+n):=by unfold readM;simp only[e1,dh,di]
theorem CG (e1:houM (t.drop (schP t))=.ok (h,n1))(e2:dorM h (t.drop (schP t+n1))=.error n):readM t=.error (schP t+n1+n):=by unfold readM;simp only[e1,e2,dh,di]
theorem CH (e1:houM (t.drop (schP t))=.ok (h,n1))(e2:dorM h (t.drop (schP t+n1))=.ok (d,n2))(e3:wayM (decide (schM t≠[]\/h≠none)) (t.drop (schP t+n1+n2))=.error n):readM t=.error (schP t+n1+n2+n):=by unfold readM;simp only[e1,e2,e3,dh,di]
theorem CI (e1:houM (t.drop (schP t))=.ok (h,n1))(e2:dorM h (t.drop (schP t+n1))=.ok (d,n2))(e3:wayM (decide (schM t≠[]\/h≠none)) (t.drop (schP t+n1+n2))=.ok (w,n3))(e4:queM (t.drop (schP t+n1+n2+n3))=.error n):readM t=.error (schP t+n1+n2+n3+n):=by unfold readM;simp only[e1,e2,e3,e4,dh,di]
theorem CJ (e1:houM (t.drop (schP t))=.ok (h,n1))(e2:dorM h (t.drop (schP t+n1))=.ok (d,n2))(e3:wayM (decide (schM t≠[]\/h≠none)) (t.drop (schP t+n1+n2))=.ok (w,n3))(e4:queM (t.drop (schP t+n1+n2+n3))=.ok (q,n4))(e5:marM (t.drop (schP t+n1+n2+n3+n4))=.error n):readM t=.error (schP t+n1+n2+n3+n4+n):=by unfold readM;simp only[e1,e2,e3,e4,e5,dh,di]
theorem pQ (e1:houM (t.drop (schP t))=.ok (h,n1))(e2:dorM h (t.drop (schP t+n1))=.ok (d,n2))(e3:wayM (decide (schM t≠[]\/h≠none)) (t.drop (schP t+n1+n2))=.ok (w,n3))(e4:queM (t.drop (schP t+n1+n2+n3))=.ok (q,n4))(e5:marM (t.drop (schP t+n1+n2+n3+n4))=.ok (m,n5)) :
  readM t=if schP t+n1+n2+n3+n4+n5=`t then .ok ⟨schM t,h,d,w.1,w.2.1,w.2.2,q,m⟩ else .error (schP t+n1+n2+n3+n4+n5):=by
 unfold readM;simp only[e1,e2,e3,e4,e5,dh,di]
end
section
variable {r:Tq}{n:Nat}
theorem fW {fr:Tq}{mo:Option Nat}{s:Tq}(h:filM fr r mo=.ok (s,n)):txtM fr r mo=.ok (s,n)/\s≠[]:=by
 unfold filM at h;cases e:txtM fr r mo with
 |error k=>rw[e] at h;cases h
 |ok x=>
  obtain⟨s',k⟩:=x;rw[e] at h;have h:(if s'=[] then (.error k:Rs Tq) else .ok (s',k))=.ok (s,n):=h;by_cases hs:s'=[]
  .rw[if_pos hs] at h;cases h
  .rw[if_neg hs] at h;cases h;exact⟨rfl,hs⟩
theorem cL {α:Type}{k:Nat}{x:Rs α}{a:α}(h:sh k x=.ok (a,n)):∃m,x=.ok (a,m)/\n=k+m:=by
 cases x with
 |error e=>cases h
 |ok y=>obtain⟨y,m⟩:=y;cases h;exact⟨m,rfl,rfl⟩
theorem cM {α β:Type}{f:α->β}{x:Rs α}{b:β}(h:mp f x=.ok (b,n)):∃a,x=.ok (a,n)/\b=f a:=by
 cases x with
 |error e=>cases h
 |ok y=>obtain⟨y,m⟩:=y;cases h;exact⟨y,rfl,rfl⟩
theorem gp {α β:Type}{x:Rs α}{f:α->Nat->Rs β}{b:β}(h:bdR x f=.ok (b,n)):∃a k m,x=.ok (a,k)/\f a k=.ok (b,m)/\n=k+m:=by
 cases x with
 |error e=>cases h
 |ok y=>obtain⟨y,k⟩:=y;obtain⟨m,e,en⟩:=cL (show sh k (f y k)=_ from h);exact⟨y,k,m,rfl,e,en⟩
theorem dj {c:Nat}(h:r.head?=some c):1<=r.length:=by
 cases r with
 |nil=>cases h
 |cons d r=>simp
theorem CK {o:Option Tq}(h:houM r=.ok (o,n)):n<=r.length:=by
 unfold houM at h;by_cases h2:r.take 2=[47,47]
 .rw[if_pos h2] at h;obtain⟨m,e,rfl⟩:=cL h;obtain⟨a,e',rfl⟩:=cM e;have h1:=(bZ (fW e').1).1;have h3:=congrArg List.length h2;rw[length_take] at h3;simp only[length_cons,length_nil] at h3;rw[length_drop] at h1;lia
 .rw[if_neg h2] at h;cases h;lia
theorem pR {o:Option Tq}(h:valM r=.ok (o,n)):n<=r.length:=by
 unfold valM at h;by_cases h2:r.head?=some 61
 .rw[if_pos h2] at h;obtain⟨m,e,rfl⟩:=cL h;obtain⟨a,e',rfl⟩:=cM e;have h1:=(bZ e').1;have:=dj h2;rw[length_drop] at h1;lia
 .rw[if_neg h2] at h;cases h;lia
theorem pS:∀(r:Tq) (k:Nat),k<=65535->(dooG r k).2<=r.length/\(dooG r k).1<=65535
 |[],k,h=>⟨Nat.zero_le _,h⟩
 |c::r,k,h=>by
  unfold dooG;by_cases hc:0 < k/\48<=c/\c<=57/\k * 10+(c - 48)<=65535
  .rw[if_pos hc];have:=pS r _ hc.2.2.2;simp only[length_cons];exact⟨`l,this.2⟩
  .rw[if_neg hc];exact⟨Nat.zero_le _,h⟩
theorem pT {o:Option Int}(h:dooM r=.ok (o,n)):n<=r.length/\∀i,o=some i->0<=i/\i<=65535:=by
 unfold dooM at h;by_cases h2:r.head?=some 58
 .rw[if_pos h2] at h;have hl:=dj h2;cases hd:r.drop 1 with
  |nil=>rw[hd] at h;cases h
  |cons c r'=>
   rw[hd] at h;have h:(if 48<=c/\c<=57 then (.ok (some ((dooG r' (c - 48)).1:Int),2+(dooG r' (c - 48)).2):Rs (Option Int)) else .error 1)=.ok (o,n):=h;by_cases hc:48<=c/\c<=57
   .rw[if_pos hc] at h;cases h;have:=pS r' (c - 48) `l;have h3:=congrArg List.length hd;rw[length_drop,length_cons] at h3;exact⟨`l,λi e=>by cases e;lia⟩
   .rw[if_neg hc] at h;cases h
 .rw[if_neg h2] at h;cases h;exact⟨Nat.zero_le _,λi e=>by cases e⟩
theorem CL {ho:Option Tq}{o:Option Int}(h:dorM ho r=.ok (o,n)):n<=r.length/\∀i,o=some i->(0<=i/\i<=65535)/\ho≠none:=by
 unfold dorM at h;by_cases h2:ho=none
 .rw[if_pos h2] at h;cases h;exact⟨Nat.zero_le _,λi e=>by cases e⟩
 .rw[if_neg h2] at h;exact⟨(pT h).1,λi e=>⟨(pT h).2 i e,h2⟩⟩
theorem kJ:∀(f:Nat) {r:Tq}{e:Bool}{ss:List Tq}{e':Bool}{n:Nat},stpF f r e=.ok ((ss,e'),n)->n<=r.length/\(∀s∈ss,∃w,s≠[]/\WrT frS s w/\w.length<=r.length)/\ss.length<=n/\(ss=[]->e'=e)
 |0,r,e,ss,e',n,h=>by cases h;exact⟨Nat.zero_le _,(λs hs=>by cases hs),Nat.le_refl _,λ_=>rfl⟩
 |f+1,r,e,ss,e',n,h=>by
  unfold stpF at h;cases ht:txtM frS r none with
  |error k=>rw[ht] at h;cases h
  |ok x=>
   obtain⟨s,k⟩:=x;rw[ht] at h;have h:(if s=[] then (.ok (([],e),k):Rs (List Tq×Bool)) else if (r.drop k).head?=some 47 then sh (k+1) (mp (λx=>(s::x.1,x.2)) (stpF f (r.drop (k+1)) true)) else sh k (mp (λx=>(s::x.1,x.2)) (stpF f (r.drop k) false)))=.ok ((ss,e'),n):=h;obtain⟨t1,t2,t3⟩:=bZ ht;by_cases hs:s=[]
   .rw[if_pos hs] at h;cases h;exact⟨t1,(λs hs=>by cases hs),Nat.zero_le _,λ_=>rfl⟩
   rw[if_neg hs] at h;have hk:=t3 hs;obtain⟨w,r',e1,e2,e3,_⟩:=fV r.length `n ht;have fin:∀(b:Nat) (en:Bool) (k':Nat),k<=k'->k'<=r.length->sh k' (mp (λx=>(s::x.1,x.2)) (stpF f (r.drop k') en))=.ok ((ss,e'),n)->n<=r.length/\(∀s∈ss,∃w,s≠[]/\WrT frS s w/\w.length<=r.length)/\ss.length<=n/\(ss=[]->e'=e):=λb en k' hkk hkl h=>by
    obtain⟨m,h2,rfl⟩:=cL h;obtain⟨a,h3,ea⟩:=cM h2;obtain⟨as,ae⟩:=a;cases ea;obtain⟨i1,i2,i3,i4⟩:=kJ f h3;rw[length_drop] at i1 i2;refine⟨`l,λx hx=>?_,by simp only[length_cons];lia,λz=>by cases z⟩;rcases mem_cons.mp hx with rfl|hx
    .exact⟨w,hs,e3,`l⟩
    .obtain⟨w,z1,z2,z3⟩:=i2 x hx;exact⟨w,z1,z2,`l⟩
   by_cases h47:(r.drop k).head?=some 47
   .rw[if_pos h47] at h;have:=dj h47;rw[length_drop] at this;exact fin 0 true (k+1) `l `l h
   .rw[if_neg h47] at h;exact fin 0 false k `n t1 h
theorem CM {must:Bool}{w:Bool×List Tq×Bool}(h:wayM must r=.ok (w,n)):n<=r.length/\(∀s∈w.2.1,∃v,s≠[]/\WrT frS s v/\v.length<=r.length)/\w.2.1.length<=n/\(w.2.1=[]->w.2.2=w.1)/\(must=true->w.1=true):=by
 unfold wayM at h;by_cases h1:r.head?=some 47
 .rw[if_pos h1] at h;obtain⟨m,h2,rfl⟩:=cL h;obtain⟨a,h3,rfl⟩:=cM h2;obtain⟨as,ae⟩:=a;obtain⟨i1,i2,i3,i4⟩:=kJ _ h3;have:=dj h1;rw[length_drop] at i1 i2;refine⟨`l,λs hs=>?_,by show as.length<=_;lia,i4,λ_=>rfl⟩;obtain⟨v,z1,z2,z3⟩:=i2 s hs;exact⟨v,z1,z2,`l⟩
 .rw[if_neg h1] at h;by_cases h2:must=true
  .rw[if_pos h2] at h;cases h;exact⟨Nat.zero_le _,(λs hs=>by cases hs),Nat.zero_le _,λ_=>rfl,λ_=>rfl⟩
  .rw[if_neg h2] at h;obtain⟨a,h3,rfl⟩:=cM h;obtain⟨as,ae⟩:=a;obtain⟨i1,i2,i3,i4⟩:=kJ _ h3;exact⟨i1,i2,i3,i4,λz=>absurd z h2⟩
end
def Tk {α:Type}(CN:Addr)(H:Hp)(C p:Addr)(t:Tq)(i:Nat)(r:Rs α)(ok:α->Hp->Prop)(E:XK):Prop:=
 (∀a n,r=.ok (a,n)->∀H',SameBut p H H'->Cur H' C p t (i+n)->ok a H')/\
 (∀n,r=.error n->∀d H',SameBut p H H'->H' d=some (.xd [("at",.int ((i+n:Nat):Int))])->E (.ref CN) (some d) H')
section
variable {r:Tq}{n:Nat}
theorem pU {o:Option Tq}(h:valM r=.ok (o,n)):n<=r.length/\∀s,o=some s->∃w,WrT frQ s w/\w.length<=r.length:=by
 refine⟨pR h,λs es=>?_⟩;unfold valM at h;by_cases h2:r.head?=some 61
 .rw[if_pos h2] at h;obtain⟨m,e,rfl⟩:=cL h;obtain⟨a,e',rfl⟩:=cM e;cases es;obtain⟨w,r',e1,e2,e3,_⟩:=fV _ `n e';refine⟨w,e3,?_⟩;have:=congrArg List.length e1;rw[length_drop,length_append] at this;lia
 .rw[if_neg h2] at h;cases h;cases es
def PrOk (k:Nat)(p:Tq×Option Tq):Prop:=(p.1≠[]/\∃w,WrT frQ p.1 w/\w.length<=k)/\∀s,p.2=some s->∃w,WrT frQ s w/\w.length<=k
theorem PrOk.mono {k k':Nat}{p:Tq×Option Tq}(h:PrOk k p)(z:k<=k'):PrOk k' p:=
 ⟨⟨h.1.1,let ⟨w,a,b⟩:=h.1.2;⟨w,a,Nat.le_trans b z⟩⟩,λs e=>let ⟨w,a,b⟩:=h.2 s e;⟨w,a,Nat.le_trans b z⟩⟩
theorem pV:∀(f:Nat) {r:Tq}{l:List (Tq×Option Tq)}{n:Nat},prsF f r=.ok (l,n)->n<=r.length/\(∀p∈l,PrOk r.length p)/\`L<=n
 |0,r,l,n,h=>by cases h;exact⟨Nat.zero_le _,(λs hs=>by cases hs),Nat.le_refl _⟩
 |f+1,r,l,n,h=>by
  unfold prsF at h;by_cases h2:r.head?=some 38
  .rw[if_pos h2] at h;obtain⟨m,h3,rfl⟩:=cL h;obtain⟨s,k,m2,e1,h4,rfl⟩:=gp h3;obtain⟨v,k2,m3,e2,h5,rfl⟩:=gp h4;obtain⟨l',h6,rfl⟩:=cM h5;obtain⟨i1,i2,i3⟩:=pV f h6;obtain⟨t1,t2⟩:=fW e1;obtain⟨w,r',z1,z2,z3,_⟩:=fV _ `n t1;have hh:=dj h2;have tl:=(bZ t1).1;have vl:=pU e2;rw[length_drop] at i1 i2 tl vl;have wl:=congrArg List.length z1;rw[length_drop,length_append] at wl;refine⟨`l,λp hp=>?_,by simp only[length_cons];lia⟩;rcases mem_cons.mp hp with rfl|hp
   .exact⟨⟨t2,w,z3,`l⟩,λs e=>let ⟨w,a,b⟩:=vl.2 s e;⟨w,a,`l⟩⟩
   .exact (i2 p hp).mono `l
  .rw[if_neg h2] at h;cases h;exact⟨Nat.zero_le _,(λs hs=>by cases hs),Nat.zero_le _⟩
theorem CO {o:Option (List (Tq×Option Tq))}(h:queM r=.ok (o,n)):n<=r.length/\∀l,o=some l->(∀p∈l,PrOk r.length p)/\`L<=n:=by
 unfold queM at h;by_cases h2:r.head?=some 63
 .rw[if_pos h2] at h;obtain⟨m,h3,rfl⟩:=cL h;obtain⟨s,k,m2,e1,h4,rfl⟩:=gp h3;have hh:=dj h2;have tl:=(bZ e1).1;rw[length_drop] at tl;have h4:(if s=[] then (.ok (some [],0):Rs (Option (List (Tq×Option Tq)))) else bdR (valM (r.drop (1+k))) λv m=>mp (λl=>some ((s,v)::l)) (prsF (r.length+1) (r.drop (1+k+m))))=.ok (o,m2):=h4;by_cases hs:s=[]
  .rw[if_pos hs] at h4;cases h4;exact⟨`l,λl e=>by cases e;exact⟨(λs hs=>by cases hs),Nat.zero_le _⟩⟩
  .rw[if_neg hs] at h4;obtain⟨v,k2,m3,e2,h5,rfl⟩:=gp h4;obtain⟨l',h6,rfl⟩:=cM h5;obtain⟨i1,i2,i3⟩:=pV _ h6;obtain⟨w,r',z1,z2,z3,_⟩:=fV _ `n e1;have vl:=pU e2;rw[length_drop] at i1 i2 vl;have wl:=congrArg List.length z1;rw[length_drop,length_append] at wl;have hk:=(bZ e1).2.2 hs;refine⟨`l,λl e=>?_⟩;cases e;refine⟨λp hp=>?_,by simp only[length_cons];lia⟩;rcases mem_cons.mp hp with rfl|hp
   .exact⟨⟨hs,w,z3,`l⟩,λs e=>let ⟨w,a,b⟩:=vl.2 s e;⟨w,a,`l⟩⟩
   .exact (i2 p hp).mono `l
 .rw[if_neg h2] at h;cases h;exact⟨Nat.zero_le _,λl e=>by cases e⟩
end
theorem pW (t:Tq):schP t<=`t:=by
 by_cases h:ahead t≠[]/\schD (.str ⟨(ahead t).toArray⟩)=true/\t[(ahead t).length]?=some 58
 .rw[(kA h.1 h.2.1 h.2.2).2,length_append,length_singleton];have:=(List.getElem?_eq_some_iff.mp h.2.2).1;lia
 .rw[(fQ h).2];exact Nat.zero_le _
end Wm
namespace L2
open PySem PySem.Spec PySem.W PySem.Calls PyProof.Rows
def tTryMeth (C:Addr)(m:Str)(sp:Sp)(ta:TE)(t:TA):XK->TS:=λEh D Z H=>ta Z H λx H1=>MeE C m x H1 (t Z H1 λvs H2=>sp (x::vs) H2 (λ_ H3=>D.nx Z H3) Eh)
theorem CQ {C:Addr}{m:Str}{sp:Sp}{ta:TE}{t:TA}{Eh:XK}{D:Ends}{Z:St}{H:Hp}:(tTryMeth C m sp ta t Eh D Z H)=(ta Z H λx H1=>MeE C m x H1 (t Z H1 λvs H2=>sp (x::vs) H2 (λ_ H3=>D.nx Z H3) Eh)):=rfl
section
variable {X:Cx}{k:Nat}{f C:Addr}{fd:FuncData}{ps:List Str}{sp:Sp}{x m:Str}{pos apos epos:Pos}{e o:Expr}{es:List Expr}{ta:TE}{t:TA}
theorem CS {pl:Sem Bool}(hE:PE X o ta)(c:Cls X.K C)(hm:Meth X.K C m f)(F:FnOk X.prog X.w X.K X.mg X.base (CXN X.prog X.w X.base) k f fd ps sp)(hr:Room k X.A)(hb:Binds X.K fd ps [])(ha:PA X (e::es) t)(hx0:∀e s,X.xe e s->False)
  (hst:starEach (e::es) X.env=(false,eval e X.env)::starEach es X.env:=by rfl) (hpl:(backTo pos (starEach es X.env)).any (·.1)=false:=by rfl)
  (ht:eval (.Call (.Attribute o m apos) (e::es) [] pos) X.env=(do
   let z <- eval o X.env
   standAt apos.atName
   let (g,y) <- holding [z] (getMethod z m pl)
   callWith pos g y (backTo pos (starEach (e::es) X.env)) (backToKw pos (keywordEach [] X.env))):=by rfl)
  (hs:swapsWith (.Call (.Attribute o m apos) (e::es) [] pos) none epos.line X.env=pure false:=by rfl) :
  TryB X [.Expr (.Call (.Attribute o m apos) (e::es) [] pos) epos] (tTryMeth C m sp ta t):=by
 intro ad s Z H D Eh I h;refine wpAny_execs_cons (wpAny_Expr_any (PySem.W.methodCall_KW (pl:=pl) (wpAny_mono (hE ad s Z H _ I h) (λu s1 W'=>?_) λe s1 z=>(hx0 e s1 z).elim) ht) I.quiet hs);obtain⟨x,H1,I1,rx,a,dx,fs,ex,ea,l,q⟩:=W';subst ex;obtain rfl:u=Value.ref a:=rx;refine gQ I1 ea c hm l ?_;refine PySem.W.callWith_K (first:=[.ref a]) (h₀:=X.base) I.ok.mod.kin hm.kp (wpAny_mono (ha pos ad s1 Z H1 _ I1 q) (λus s2 ⟨vs,H2,I2,r,q2⟩=>⟨I2.kIn,?_⟩) λe s1 z=>(hx0 e s1 z).elim) hst hpl;have r2:Vals (V.ref a::vs) (Value.ref a::us):=.cons rfl r;have hl:(Value.ref a::us++[]).length=ps.length:=by rw[append_nil,<- r2.length];exact F.len _ _ _ _ q2
 have dl:=hb s2 (Value.ref a::us) I2.kIn hl;rw[append_nil] at dl;refine wpAny_call (codeAny_mono (F.run X.A X.stack s2 H2 ⟨Value.ref a::us,[]⟩ _ _ _ _ hr I2.env0 dl r2 q2) λr s3 hq=>?_);cases r with
 |ok fl=>
  cases fl with
  |ret u=>obtain⟨v,H3,I3,rv,q3⟩:=I2.after hq;exact wpAny_execs_nil ⟨Z,H3,I3,q3⟩
  |next=>exact False.elim hq
  |brk=>exact False.elim hq
  |cont=>exact False.elim hq
 |error ev=>exact⟨H2,s2,I2,hq⟩
end
end L2
namespace Wm
open PySem L2
theorem CT {o:Option Tq}{w r:Tq}(h:HouW o w)(h1:o≠none->Stops [] r)(h2:o=none->¬ r.take 2=[47,47]):houM (w++r)=.ok (o,w.length):=by
 cases o with
 |none=>have h:w=[]:=h;subst h;unfold houM;rw[nil_append,if_neg (h2 rfl)];rfl
 |some s=>
  obtain⟨v,rfl,hv,ad,hl⟩:=h;unfold houM;rw[if_pos `s];have e:txtM [] (v++r) (some 60)=.ok (s,v.length):=cr hv (.inl (h1 `s)) (λm e=>by cases e;exact hl);have e2:filM [] (v++r) (some 60)=.ok (s,v.length):=by unfold filM;rw[e];exact if_neg ad
  show sh 2 (mp some (filM [] (v++r) (some 60)))=_;rw[e2];show Except.ok (some s,2+v.length)=_;simp only[length_cons];rw[Nat.add_comm]
theorem pY:∀(ds dn r:Tq),(∀c∈ds,48<=c/\c<=57)->(∀c,r.head?=some c->¬ (48<=c/\c<=57))->(ds≠[]->0 < valD dn)->valD (dn++ds)<=65535->dooG (ds++r) (valD dn)=(valD (dn++ds),ds.length)
 |[],dn,r,_,h2,_,_=>by
  rw[nil_append,append_nil];cases r with
  |nil=>rfl
  |cons c r=>unfold dooG;rw[if_neg (λz=>h2 c rfl ⟨z.2.1,z.2.2.1⟩)];rfl
 |c::ds,dn,r,h1,h2,h3,h4=>by have hc:=h1 c `f;have h0:=h3 `s;have hle:=oj ds (dn++[c]);rw[append_assoc] at hle;have hle:valD (dn++[c])<=valD (dn++c::ds):=hle;rw[fP] at hle;have ih:=pY ds (dn++[c]) r (λx hx=>h1 x (mem_cons_of_mem _ hx)) h2 (λ_=>by rw[fP];lia) (by rw[append_assoc];exact h4);rw[fP,append_assoc] at ih;show dooG (c::(ds++r)) (valD dn)=_;unfold dooG;rw[if_pos ⟨h0,hc.1,hc.2,`l⟩,ih];rfl
theorem CU {o:Option Int}{w r:Tq}(h:DooW o w)(h1:∀c,r.head?=some c->¬ (48<=c/\c<=57))(h2:o=none->r.head?≠some 58):dooM (w++r)=.ok (o,w.length):=by
 cases o with
 |none=>have h:w=[]:=h;subst h;unfold dooM;rw[nil_append,if_neg (h2 rfl)];rfl
 |some n=>
  obtain⟨ds,rfl,ad,hf,rfl,hl,hz⟩:=h;cases ds with
  |nil=>exact absurd rfl ad
  |cons c ds=>
   have hc:=hf c `f;unfold dooM;rw[if_pos `s];show (if 48<=c/\c<=57 then (.ok (some ((dooG (ds++r) (c - 48)).1:Int),2+(dooG (ds++r) (c - 48)).2):Rs (Option Int)) else .error 1)=_;have e0:valD [c]=c - 48:=by unfold valD;simp
   have e:=pY ds [c] r (λx hx=>hf x (mem_cons_of_mem _ hx)) h1 (λhd=>by
    rcases hz with z|z
    .cases ds with
     |nil=>exact absurd rfl hd
     |cons _ _=>cases z
    .rw[e0];have:c≠48:=λq=>z (by rw[q];rfl);lia) hl
   rw[e0] at e;rw[if_pos hc,e];show Except.ok (some ((valD (c::ds):Nat):Int),2+ds.length)=_;simp only[length_cons];rw[Nat.add_comm 2 ds.length]
theorem pZ {ss:List Tq}{e:Bool}{v rest:Tq}(h2:Stops frS rest)(h3:rest.head?≠some 47)(h:StpW ss e v):∀(f:Nat) (en:Bool),v.length < f->(ss=[]->e=en)->stpF f (v++rest) en=.ok ((ss,e),v.length):=by
 have tl:∀(ss:List Tq) (e:Bool) (v:Tq),TlW ss e v->∀(s w:Tq) (f:Nat) (en:Bool),WrT frS s w->s≠[]->(w++v).length < f->stpF f (w++v++rest) en=.ok ((s::ss,e),(w++v).length):=by
  intro ss e v ht;have ad:∀(f:Nat) (en:Bool),0 < f->stpF f rest en=.ok (([],en),0):=λf en hf=>by obtain⟨k,rfl⟩:∃k,f=k+1:=⟨f - 1,`l⟩;unfold stpF;rw[fU h2];rfl
  have first:∀(s w v:Tq) (f:Nat) (en:Bool),WrT frS s w->s≠[]->TlW ss e v->stpF (f+1) (w++v++rest) en=if (v++rest).head?=some 47 then sh (w.length+1) (mp (λx=>(s::x.1,x.2)) (stpF f ((v++rest).drop 1) true)) else sh w.length (mp (λx=>(s::x.1,x.2)) (stpF f (v++rest) false)):=λs w v f en hw hs ht=>by
   conv=>lhs;unfold stpF
   rw[append_assoc,cr hw (.inl (oa ht h2)) (λm z=>by cases z)];show (if s=[] then _ else _)=_;rw[if_neg hs,drop_left,show (w++(v++rest)).drop (w.length+1)=(v++rest).drop 1 by rw[<- drop_drop,drop_left]]
  induction ht with
  |stop=>intro s w f en hw hs hf;obtain⟨k,rfl⟩:∃k,f=k+1:=⟨f - 1,`l⟩;obtain⟨c,r,rfl,_⟩:=oZ hw hs;rw[first s _ [] k en hw hs .stop,nil_append,if_neg h3,ad k false (by simp at hf;lia),append_nil];rfl
  |ends=>intro s w f en hw hs hf;obtain⟨k,rfl⟩:∃k,f=k+1:=⟨f - 1,`l⟩;rw[first s w [47] k en hw hs .ends];show (if (47::rest).head?=some 47 then _ else _)=_;rw[if_pos List.head?_cons];show sh (w.length+1) (mp _ (stpF k rest true))=_;rw[ad k true (by simp at hf;lia),length_append];rfl
  |more hw2 hs2 ht2 ih=>
   rename_i s2 w2 ss2 e2 v2;intro s w f en hw hs hf;obtain⟨k,rfl⟩:∃k,f=k+1:=⟨f - 1,`l⟩;rw[first s w _ k en hw hs (.more hw2 hs2 ht2)];show (if (47::(w2++v2++rest)).head?=some 47 then _ else _)=_;rw[if_pos List.head?_cons];show sh (w.length+1) (mp _ (stpF k (w2++v2++rest) true))=_;have mt:=ih (λs w v f en a b c=>by
    conv=>lhs;unfold stpF
    rw[append_assoc,cr a (.inl (oa c h2)) (λm z=>by cases z)];show (if s=[] then _ else _)=_;rw[if_neg b,drop_left,show (w++(v++rest)).drop (w.length+1)=(v++rest).drop 1 by rw[<- drop_drop,drop_left]]) s2 w2 k true hw2 hs2 (by simp only[length_append,length_cons] at hf ⊢;lia)
   rw[mt];show Except.ok ((s::s2::ss2,e2),w.length+1+(w2++v2).length)=_;simp only[length_append,length_cons];rw[show w.length+1+(w2.length+v2.length)=w.length+(w2.length+v2.length+1) by lia]
 intro f en hf dl;cases h with
 |none=>obtain⟨k,rfl⟩:∃k,f=k+1:=⟨f - 1,`l⟩;unfold stpF;rw[nil_append,fU h2,dl rfl];rfl
 |some hw hs ht=>exact tl _ _ _ ht _ _ f en hw hs hf
theorem CW {ss:List Tq}{e rt must:Bool}{v rest:Tq}(h:StpW ss e v)(he:ss=[]->e=rt)(hm:must=true->rt=true)(h2:Stops frS rest)(h3:rest.head?≠some 47) :
  wayM must ((if rt then [47] else [])++(v++rest))=.ok ((rt,ss,e),(if rt then [47] else []).length+v.length):=by
 unfold wayM;cases rt with
 |true=>show (if (47::(v++rest)).head?=some 47 then _ else _)=_;rw[if_pos List.head?_cons];show sh 1 (mp _ (stpF _ (v++rest) true))=_;rw[pZ h2 h3 h _ true (by simp;lia) he];rfl
 |false=>show (if (v++rest).head?=some 47 then _ else _)=_;rw[if_neg (og h h3),if_neg (λz=>by cases hm z)];show mp _ (stpF _ (v++rest) false)=_;rw[pZ h2 h3 h _ false (by simp;lia) he];show Except.ok ((false,ss,e),v.length)=Except.ok ((false,ss,e),0+v.length);rw[Nat.zero_add]
theorem pe {o:Option Tq}{w r:Tq}(h:ValW o w)(h1:Stops frQ r)(h2:r.head?≠some 61):valM (w++r)=.ok (o,w.length):=by
 cases o with
 |none=>have h:w=[]:=h;subst h;unfold valM;rw[nil_append,if_neg h2];rfl
 |some s=>obtain⟨v,rfl,hv⟩:=h;unfold valM;rw[if_pos `s];show sh 1 (mp some (txtM frQ (v++r) none))=_;rw[cr hv (.inl h1) (λm z=>by cases z)];show Except.ok (some s,1+v.length)=_;rw[length_cons,Nat.add_comm]
theorem CY {o:Option Tq}{w:Tq}(h:MarW o w):marM w=.ok (o,w.length):=by
 cases o with
 |none=>have h:w=[]:=h;subst h;rfl
 |some s=>obtain⟨v,rfl,hv⟩:=h;unfold marM;rw[if_pos `s];show sh 1 (mp some (txtM frM v none))=_;have:=cr (r:=[]) hv (.inl fO) (mo:=none) (λm z=>by cases z);rw[append_nil] at this;rw[this];show Except.ok (some s,1+v.length)=_;rw[length_cons,Nat.add_comm]
theorem CZ {rest:Tq}(hr:rest=[]\/∃x,rest=35::x){ps:List (Tq×Option Tq)}{w:Tq}(h:PrsW ps w):∀f,w.length < f->prsF f (w++rest)=.ok (ps,w.length):=by
 induction h with
 |nil=>
  intro f hf;obtain⟨k,rfl⟩:∃k,f=k+1:=⟨f - 1,`l⟩;unfold prsF;rw[nil_append,if_neg (by rcases hr with rfl|⟨x,rfl⟩ <;> simp)]
  rfl
 |cons hw hn hv hp ih=>
  rename_i n w v o ps r;intro f hf;obtain⟨k,rfl⟩:∃k,f=k+1:=⟨f - 1,`l⟩;have ad:=k9 hp hr;unfold prsF;rw[show (38::(w++(v++r))++rest)=38::(w++(v++(r++rest))) by simp,if_pos List.head?_cons];have e1:filM frQ (w++(v++(r++rest))) none=.ok (n,w.length):=by unfold filM;rw[cr hw (.inl (oh hv ad.1)) (λm z=>by cases z)];exact if_neg hn
  show sh 1 (bdR (filM frQ (w++(v++(r++rest))) none) _)=_;rw[e1];show sh 1 (sh w.length (bdR (valM ((38::(w++(v++(r++rest)))).drop (1+w.length))) _))=_;have d1:(38::(w++(v++(r++rest)))).drop (1+w.length)=v++(r++rest):=by rw[Nat.add_comm,drop_succ_cons,drop_left]
  rw[d1,pe hv ad.1 ad.2];show sh 1 (sh w.length (sh v.length (mp _ (prsF k ((38::(w++(v++(r++rest)))).drop (1+w.length+v.length))))))=_;rw[<- drop_drop,d1,drop_left,ih k (by simp only[length_cons,length_append] at hf;lia)];show Except.ok ((n,o)::ps,1+(w.length+(v.length+r.length)))=_;simp only[length_cons,length_append];rw[Nat.add_comm 1]
theorem D0 {rest:Tq}(hr:rest=[]\/∃x,rest=35::x){q:Option (List (Tq×Option Tq))}{w:Tq}(h:QueW q w):queM (w++rest)=.ok (q,w.length):=by
 have mt:rest.head?≠some 63:=by rcases hr with rfl|⟨x,rfl⟩ <;> simp
 match q,h with
 |none,h=>have h:w=[]:=h;subst h;unfold queM;rw[nil_append,if_neg mt];rfl
 |some [],h=>have h:w=[63]:=h;subst h;unfold queM;rw[show [63]++rest=63::rest from rfl,if_pos List.head?_cons];show sh 1 (bdR (txtM frQ rest none) _)=_;rw[fU (show Stops frQ rest from (k9 .nil hr).1)];rfl
 |some ((n,o)::ps),h=>
  obtain⟨a,v,r,rfl,ha,hn,hv,dl⟩:=h;have ad:=k9 dl hr;unfold queM;rw[show (63::(a++(v++r))++rest)=63::(a++(v++(r++rest))) by simp,if_pos List.head?_cons];show sh 1 (bdR (txtM frQ (a++(v++(r++rest))) none) _)=_;rw[cr ha (.inl (oh hv ad.1)) (λm z=>by cases z)];show sh 1 (sh a.length (if n=[] then _ else bdR (valM ((63::(a++(v++(r++rest)))).drop (1+a.length))) _))=_;have d1:(63::(a++(v++(r++rest)))).drop (1+a.length)=v++(r++rest):=by rw[Nat.add_comm,drop_succ_cons,drop_left]
  rw[if_neg hn,d1,pe hv ad.1 ad.2];show sh 1 (sh a.length (sh v.length (mp _ (prsF _ ((63::(a++(v++(r++rest)))).drop (1+a.length+v.length))))))=_;rw[<- drop_drop,d1,drop_left,CZ hr dl _ (by simp only[length_cons,length_append];lia)];show Except.ok (some ((n,o)::ps),1+(a.length+(v.length+r.length)))=_;simp only[length_cons,length_append];rw[Nat.add_comm 1]
def RdV (x:Ad)(t:Tq):Prop:=∃h d g w q m,t=schT x.scheme++(h++(d++(g++(w++(q++m)))))/\schM t=x.scheme/\HouW x.house h/\DooW x.door d/\(g=(if x.rooted then [47] else [])\/(g=[]/\x.rooted=true/\x.steps=[]/\(x.scheme≠[]\/x.house≠none)))/\StpW x.steps x.ends w/\QueW x.quest q/\MarW x.mark m
theorem RdW.v {x:Ad}{t:Tq}(h:RdW x t):RdV x t:=by obtain⟨h,d,w,q,m,e,es,hH,hD,hS,hQ,hM⟩:=h;exact⟨h,d,_,w,q,m,e,es,hH,hD,.inl rfl,hS,hQ,hM⟩
theorem D1 {x:Ad}{t:Tq}(hw:RdV x t)(wf:x.Wf):readM t=.ok x:=by
 obtain⟨hT,dT,gT,wT,qT,mT,et,es,hH,hD,hG,hS,hQ,hM⟩:=hw;have Fn:mT=[]\/∃y,mT=35::y:=by
  cases hm:x.mark with
  |none=>rw[hm] at hM;exact .inl hM
  |some s=>rw[hm] at hM;obtain⟨v,e,_⟩:=hM;exact .inr ⟨v,e⟩
 have BT:qT++mT=[]\/(∃y,qT++mT=35::y)\/∃y,qT++mT=63::y:=by
  cases hq:x.quest with
  |none=>
   rw[hq] at hQ;have hQ:qT=[]:=hQ;rw[hQ];rcases Fn with e|⟨y,e⟩
   .exact .inl e
   .exact .inr (.inl ⟨y,e⟩)
  |some ps=>
   rw[hq] at hQ;cases ps with
   |nil=>have hQ:qT=[63]:=hQ;exact .inr (.inr ⟨mT,by rw[hQ];rfl⟩)
   |cons a ps=>obtain⟨n,o⟩:=a;obtain⟨a,v,r,e,_⟩:=hQ;exact .inr (.inr ⟨_,by rw[e];rfl⟩)
 have eP:schP t=(schT x.scheme).length:=by unfold schP;rw[es]
 have dr:∀{a b:Tq},t=a++b->t.drop a.length=b:=λ{a b} e=>by rw[e,drop_left]
 have GE:x.house≠none->x.rooted=true:=λz=>wf.roo (.inr z);have dl:(qT++mT).head?≠some 47:=λz=>by rcases BT with e|⟨y,e⟩|⟨y,e⟩ <;> rw[e] at z <;> cases z
 have Cl:∀fr:Tq,(35:Nat)∉fr->(63:Nat)∉fr->Stops fr (qT++mT):=λfr h1 h2=>by
  rcases BT with e|⟨y,e⟩|⟨y,e⟩ <;> rw[e]
  .exact fO
  .exact bY ⟨`d,h1,`d⟩
  .exact bY ⟨`d,h2,`d⟩
 have Fr:=og hS dl;have mt:gT=[]/\x.rooted=true/\x.steps=[]/\(x.scheme≠[]\/x.house≠none)->wT=[]:=λz=>by rw[z.2.2.1] at hS;generalize x.ends=en at hS;cases hS;rfl
 have ad:x.house≠none->(∃y,gT++(wT++(qT++mT))=47::y)\/gT++(wT++(qT++mT))=qT++mT:=λz=>by
  rcases hG with e|e
  .rw[e,GE z];exact .inl `o
  .rw[e.1,mt e];exact .inr rfl
 have e1:houM (t.drop (schP t))=.ok (x.house,hT.length):=by
  rw[eP,dr et];refine CT hH (λhn=>?_) (λhn=>?_)
  .cases hdo:x.door with
   |none=>
    rw[hdo] at hD;have hD:dT=[]:=hD;rw[hD,nil_append];rcases ad hn with⟨y,e⟩|e
    .rw[e];exact bY ⟨`d,`s,`d⟩
    .rw[e];exact Cl [] `s `s
   |some n=>rw[hdo] at hD;obtain⟨ds,rfl,_⟩:=hD;exact bY ⟨`d,`s,`d⟩
  .cases hdo:x.door with
   |some n=>exact absurd hn (wf.doo n hdo).2
   |none=>
    rw[hdo] at hD;have hD:dT=[]:=hD;rw[hD,nil_append];have no:∀l:Tq,l.head?≠some 47->¬ l.take 2=[47,47]/\¬ (47::l).take 2=[47,47]:=λl hl=>by
     cases l with
     |nil=>simp
     |cons c l=>have hc:c≠47:=λz=>hl (by rw[z];rfl);simp[hc]
    rcases hG with e|e
    .rw[e];cases x.rooted with
     |true=>exact (no _ Fr).2
     |false=>exact (no _ Fr).1
    .rw[e.1];exact (no _ Fr).1
 have e2:dorM x.house (t.drop (schP t+hT.length))=.ok (x.door,dT.length):=by
  rw[eP,<- length_append,dr (b:=dT++(gT++(wT++(qT++mT)))) (by rw[et];simp)];unfold dorM;by_cases hn:x.house=none
  .rw[if_pos hn];cases hdo:x.door with
   |some n=>exact absurd hn (wf.doo n hdo).2
   |none=>rw[hdo] at hD;have hD:dT=[]:=hD;rw[hD];rfl
  .rw[if_neg hn];refine CU hD (λc hc=>?_) (λ_=>?_)
   .rcases ad hn with⟨y,e⟩|e
    .rw[e] at hc;cases hc;decide
    .rw[e] at hc;rcases BT with e|⟨y,e⟩|⟨y,e⟩ <;> rw[e] at hc <;> cases hc <;> decide
   .rcases ad hn with⟨y,e⟩|e
    .rw[e];simp
    .rw[e];rcases BT with e|⟨y,e⟩|⟨y,e⟩ <;> rw[e] <;> simp
 have e3:wayM (decide (schM t≠[]\/x.house≠none)) (t.drop (schP t+hT.length+dT.length))=.ok ((x.rooted,x.steps,x.ends),gT.length+wT.length):=by
  rw[eP,<- length_append,<- length_append,dr (b:=gT++(wT++(qT++mT))) (by rw[et];simp),es];rcases hG with e|e
  .rw[e];exact CW hS wf.end_ (λz=>wf.roo (of_decide_eq_true z)) (Cl frS `k `k) dl
  .rw[e.1,mt e,nil_append,nil_append];unfold wayM;rw[if_neg dl,if_pos (decide_eq_true e.2.2.2),wf.end_ e.2.2.1,e.2.1,e.2.2.1];rfl
 have e4:queM (t.drop (schP t+hT.length+dT.length+(gT.length+wT.length)))=.ok (x.quest,qT.length):=by rw[eP,<- length_append,<- length_append,<- length_append,<- length_append,dr (b:=qT++mT) (by rw[et];simp)];exact D0 Fn hQ
 have e5:marM (t.drop (schP t+hT.length+dT.length+(gT.length+wT.length)+qT.length))=.ok (x.mark,mT.length):=by rw[eP,<- length_append,<- length_append,<- length_append,<- length_append,<- length_append,dr (b:=mT) (by rw[et];simp)];exact CY hM
 rw[pQ e1 e2 e3 e4 e5,if_pos,es];rw[eP];have:=congrArg List.length et;simp only[length_append] at this;lia
end Wm
namespace L2
open PySem PySem.Spec PyProof.Rows
section
variable {X:Cx}
def rStart1:V->`V->Hp->VK->Prop:=λx vs H Q=>∃z y:Tq,x=.str ⟨z.toArray⟩/\vs=[.str ⟨y.toArray⟩]/\Q (.bl (decide (z.take y.length=y))) H
theorem D2 (z y:Tq)(i:Nat):Builtin.Str.subAt ⟨z.toArray⟩ ⟨y.toArray⟩ i=decide ((z.drop i).take y.length=y):=by unfold Builtin.Str.subAt;have hl:(⟨y.toArray⟩:Str).length=y.length:=rfl;rw[hl,Bool.eq_iff_iff,beq_iff_eq,decide_eq_true_eq];show (z.toArray.extract i (i+y.length)=y.toArray)↔_;rw[<- Array.toList_inj];simp
theorem D3 (z y:Tq):(decide (0+(⟨y.toArray⟩:Str).length<=(⟨z.toArray⟩:Str).length) && Builtin.Str.subAt ⟨z.toArray⟩ ⟨y.toArray⟩ 0)=decide (z.take y.length=y):=by
 rw[D2,drop_zero];show (decide (0+y.length<=z.length) && _)=_;by_cases h:z.take y.length=y
 .have:=congrArg List.length h;rw[length_take] at this;rw[decide_eq_true h,decide_eq_true (show 0+y.length<=z.length by lia)];rfl
 .rw[decide_eq_false h,Bool.and_false]
theorem D4:MtR X "str.startswith" rStart1:=by intro ad s Z H x vs v us Q I rx rv h;obtain⟨z,y,rfl,rfl,q⟩:=h;obtain⟨t,rfl⟩:=rx;obtain⟨u,rfl,t',rfl⟩:=vals1 rv;refine call_meets F.slot_str_startswith (typeIs_str _ _ _) F.entry_str_startswith (F.args_str_startswith_2 _ _) (gives_str_startswith _ _ t t').meets ?_;refine⟨.bl _,H,I,rfl,?_⟩;rw[<- D3] at q;exact q
theorem D5 {z y:Tq}{H:Hp}{Q:VK}:rStart1 (.str ⟨z.toArray⟩) [.str ⟨y.toArray⟩] H Q↔Q (.bl (decide (z.take y.length=y))) H:=
 ⟨λ⟨z',y',e1,e2,h⟩=>by
  injection e1 with e1;injection e1 with e1;injection e2 with e2;injection e2 with e2;injection e2 with e2;have h1:z=z':=by simpa using congrArg Array.toList e1
  have h2:y=y':=by simpa using congrArg Array.toList e2
  subst h1 h2;exact h,λh=>⟨z,y,rfl,rfl,h⟩⟩
end
end L2
namespace Wm
open PySem L2
inductive Pc
 |step (s:Tq)
 |part (h n t:Tq)
 |num (n:Tq)
 |word (n:Tq)
 |gap (n:Tq)
 |rest (n:Tq)
noncomputable abbrev tV (l:Tq):V:=.str `A
noncomputable def Pc.kw:Pc->Str
 |.step _=>ofString "step"
 |.part ..=>ofString "part"
 |.num _=>ofString "number"
 |.word _=>ofString "word"
 |.gap _=>ofString "gap"
 |.rest _=>ofString "rest"
noncomputable def Pc.tl:Pc->`V
 |.step s=>[tV s]
 |.part h n t=>[tV h,tV n,tV t]
 |.num n=>[tV n]
 |.word n=>[tV n]
 |.gap n=>[tV n]
 |.rest n=>[tV n]
noncomputable def Pc.vals (c:Pc):`V:=.str c.kw::c.tl
noncomputable def Pc.name:Pc->Tq
 |.step _=>[]
 |.part _ n _=>n
 |.num n=>n
 |.word n=>n
 |.gap n=>n
 |.rest n=>n
noncomputable def Pc.head:Pc->Tq|.part h _ _=>h|_=>[]
noncomputable def Pc.tail:Pc->Tq|.part _ _ t=>t|_=>[]
noncomputable def Pc.isStep:Pc->Bool|.step _=>true|_=>false
noncomputable def Pc.isPart:Pc->Bool|.part ..=>true|_=>false
noncomputable def Pc.isNum:Pc->Bool|.num _=>true|_=>false
noncomputable def Pc.isWord:Pc->Bool|.word _=>true|_=>false
noncomputable def Pc.isRest:Pc->Bool|.rest _=>true|_=>false
theorem Pc.at0 (c:Pc):atI c.vals 0=some (.str c.kw):=aB (j:=0) rfl
theorem pf (c:Pc):decide (c.kw=ofString "step")=c.isStep:=by cases c <;> first|exact decide_eq_true rfl|exact decide_eq_false (show ¬ (ofString _=ofString _) by fail "k")
theorem gq (c:Pc):decide (c.kw=ofString "part")=c.isPart:=by cases c <;> first|exact decide_eq_true rfl|exact decide_eq_false (show ¬ (ofString _=ofString _) by fail "k")
theorem D6 (c:Pc):decide (c.kw=ofString "number")=c.isNum:=by cases c <;> first|exact decide_eq_true rfl|exact decide_eq_false (show ¬ (ofString _=ofString _) by fail "k")
theorem D7 (c:Pc):decide (c.kw=ofString "word")=c.isWord:=by cases c <;> first|exact decide_eq_true rfl|exact decide_eq_false (show ¬ (ofString _=ofString _) by fail "k")
theorem kK (c:Pc):decide (c.kw=ofString "rest")=c.isRest:=by cases c <;> first|exact decide_eq_true rfl|exact decide_eq_false (show ¬ (ofString _=ofString _) by fail "k")
noncomputable def isSma (c:Nat):Bool:=decide (97<=c/\c<=122)
noncomputable def wordB (l:Tq):Bool:=decide (1<=`L) && decide (`L<=60) && l.all isSma
inductive PcAll (K:`F)(H:Hp):List Pc->`V->Prop
 |nil:PcAll K H [] []
 |cons {c:Pc}{p:Addr}{cs:List Pc}{xs:`V}:SqT K H p c.vals->PcAll K H cs xs->PcAll K H (c::cs) (.ref p::xs)
theorem PcAll.length {K:`F}{H:Hp}{cs:List Pc}{xs:`V}(hh:PcAll K H cs xs):`x=cs.length:=by
 induction hh with
 |nil=>exact rfl
 |cons _ r ih=>simp[ih]
theorem PcAll.get {K:`F}{H:Hp}{cs:List Pc}{xs:`V}(hh:PcAll K H cs xs){i:Nat}{v:V}(e:xs[i]?=some v):∃c p,cs[i]?=some c/\v=.ref p/\SqT K H p c.vals:=by
 induction hh generalizing i with
 |nil=>cases e
 |cons h _ ih=>
  cases i with
  |zero=>cases e;exact⟨_,_,rfl,rfl,h⟩
  |succ i=>exact ih e
theorem PcAll.append {K:`F}{H:Hp}{ds:List Pc}{ys:`V}(h2:PcAll K H ds ys){cs:List Pc}{xs:`V}(hh:PcAll K H cs xs):PcAll K H (cs++ds) (xs++ys):=by
 induction hh with
 |nil=>exact h2
 |cons h r ih=>exact .cons h ih
noncomputable def smaL:Tq:=(ofString "abcdefghijklmnopqrstuvwxyz").cps.toList
theorem ph:∀c,c < 128->(c∈smaL↔isSma c=true):=`k
theorem pi:∀c∈smaL,c < 128:=`k
theorem D8 (l:Tq):l.all isSma=l.all λc=>decide (c∈smaL):=by
 congr 1
 funext c
 by_cases h:c < 128
 .rw[Bool.eq_iff_iff,decide_eq_true_eq];exact (ph c h).symm
 .have h1:¬ c∈smaL:=λz=>h (pi c z);rw[decide_eq_false h1];unfold isSma;exact decide_eq_false `l
theorem D9 (xs:`V)(i:Nat):cutV xs (some (i:Int)) none=xs.drop i:=by
 unfold cutV;rw[HT.sIx_none,HT.sIx_nat];by_cases h:i<=`x
 .rw[Nat.min_eq_left h,take_of_length_le (by rw[length_drop];lia)]
 .rw[Nat.min_eq_right `l,List.drop_of_length_le `n,List.drop_of_length_le `l];simp
theorem Da (i:Int):∃c,atI smaL (i % 26)=some c/\isSma c=true:=by
 have h1:=Int.emod_nonneg i (show (26:Int)≠0 by decide);have h2:=Int.emod_lt_of_pos i (show (0:Int) < 26 by decide);have hl:smaL.length=26:=by fail "k"
 have h3:(i % 26).toNat < smaL.length:=by lia
 refine⟨smaL[(i % 26).toNat],?_,(ph _ (pi _ (getElem_mem h3))).mp (getElem_mem h3)⟩;have:=aB (List.getElem?_eq_getElem h3);rw[Int.toNat_of_nonneg h1] at this;exact this
def PcOk:Pc->Prop
 |.step s=>0 < s.length/\s.length<=100/\(∀c∈s,isSg c=true)/\isDot s=false
 |.part h _ t=>h.length<=100/\`t<=100/\(∀c∈h,isSg c=true)/\(∀c∈t,isSg c=true)/\h++t≠[]
 |_=>True
theorem pj {H:Hp}:∀(ls:List Tq),IsAll H (ls.map st) (ls.map tV)
 |[]=>.nil
 |l::ls=>.cons (.str _) (pj ls)
def NmAt (X:Int)(a k:Nat)(n:Tq):Prop:=∃d,n[a]?=some d/\atI smaL ((X+(k:Int)) % 26)=some d
theorem NmAt.app {X:Int}{a k:Nat}{n m:Tq}(h:NmAt X a k n):NmAt X a k (n++m):=by obtain⟨d,h1,h2⟩:=h;exact⟨d,by rw[List.getElem?_append_left (List.getElem?_eq_some_iff.mp h1).1];exact h1,h2⟩
theorem Db:∀i,i < 26->∀j,j < 26->smaL[i]?=smaL[j]?->i=j:=`k
theorem Dc {X:Int}{a:Nat}{ns:List Tq}(h:∀(k:Nat) (n:Tq),ns[k]?=some n->NmAt X a k n)(hl:ns.length<=26):ns.Nodup:=by
 rw[List.nodup_iff_pairwise_ne,List.pairwise_iff_getElem];intro i j hi hj dl e;obtain⟨d,h1,h2⟩:=h i _ (List.getElem?_eq_getElem hi);obtain⟨d',h3,h4⟩:=h j _ (List.getElem?_eq_getElem hj);rw[e,h3] at h1;cases h1;have m1:=Int.emod_nonneg (X+(i:Int)) (show (26:Int)≠0 by decide);have m2:=Int.emod_lt_of_pos (X+(i:Int)) (show (0:Int) < 26 by decide);have m3:=Int.emod_nonneg (X+(j:Int)) (show (26:Int)≠0 by decide);have m4:=Int.emod_lt_of_pos (X+(j:Int)) (show (0:Int) < 26 by decide);have ad:∀{z:Int},0<=z->z < 26->atI smaL z=smaL[z.toNat]?:=λ{z} z0 z1=>by
  obtain⟨n,rfl⟩:=Int.eq_ofNat_of_zero_le z0;have hl:smaL.length=26:=by fail "k"
  have hn:n < smaL.length:=by lia
  rw[aB (List.getElem?_eq_getElem hn),<- List.getElem?_eq_getElem hn];rfl
 rw[ad m1 m2] at h2;rw[ad m3 m4] at h4;have:=Db _ `l _ `l (h2.trans h4.symm);lia
inductive PcT (H:Hp):List Pc->`V->Prop
 |nil:PcT H [] []
 |cons {c:Pc}{p:Addr}{cs:List Pc}{xs:`V}:H p=some (.tup c.vals)->PcT H cs xs->PcT H (c::cs) (.ref p::xs)
theorem PcT.mono {H H':Hp}(s:SameT H H'){cs:List Pc}{xs:`V}(hh:PcT H cs xs):PcT H' cs xs:=by
 induction hh with
 |nil=>exact .nil
 |cons h r ih=>exact .cons (s _ _ h) ih
theorem PcT.append {H:Hp}{ds:List Pc}{ys:`V}(h2:PcT H ds ys){cs:List Pc}{xs:`V}(hh:PcT H cs xs):PcT H (cs++ds) (xs++ys):=by
 induction hh with
 |nil=>exact h2
 |cons h r ih=>exact .cons h ih
noncomputable def pcD (c:Pc):PyData:=.tuple (.str c.kw::match c with
 |.step s=>[st s]
 |.part h n t=>[st h,st n,st t]
 |.num n=>[st n]
 |.word n=>[st n]
 |.gap n=>[st n]
 |.rest n=>[st n])
end Wm
namespace L2
open PySem PySem.Spec PyProof.Rows
section
variable {p:Addr}{fv:St}{tt:TT}{te:TE}{Q:VK}{H H1:Hp}{K:`F}
theorem Dd {tl:TE}{fr:Tq}{Z:St}:(tComp2 K (iList K tl) fr tt te Z H Q)=(tl Z H λx H1=>∃a,x=.ref a/\(∃xs,SqL K H1 a xs)/\∀p,H1 p=none->CompI2 K (Itl K a) p (frV Z fr) tt te Q H1):=rfl
theorem De {a:Addr}{xs:`V}(f:Nat->V×V)(t:Nat->Bool)(g:Nat->V)(hxs:SqL K H1 a xs)(hlen:`x<=sizeLine)(hp:H1 p=none)
  (hit:∀(i:Nat) (x:V) (H':Hp),xs[i]?=some x->Same H1 H'->∃b,x=.ref b/\SqT K H' b [(f i).1,(f i).2])
  (ht:∀(i:Nat),i < `x->∀(H':Hp) (R:Bool->Hp->Prop),Same H1 H'->(∀H'',Same H' H''->R (t i) H'')->tt (some (f i).1::some (f i).2::fv) H' R)
  (he:∀(i:Nat),i < `x->t i=true->∀(H':Hp) (T:VK),Same H1 H'->(∀H'',Same H' H''->T (g i) H'')->te (some (f i).1::some (f i).2::fv) H' T)
  (hQ:∀H',Same H1 H'->H' p=some (.lst (((List.range `x).filter t).map g))->Q (.ref p) H'):CompI2 K (Itl K a) p fv tt te Q H1:=by
 refine⟨λi m ys H2=>m=`x - i/\i<=`x/\ys=((List.range i).filter t).map g/\H2 p=some (.lst ys)/\Same H1 H2,⟨`x,`s,Nat.zero_le _,`s,aE,λb o e=>by rw[aD (aJ e hp)];exact e⟩,?_⟩;rintro i m ys H2 ⟨rfl,hi,rfl,dl,sm⟩;refine⟨dl,?_⟩;have q:=sm.seq hxs;by_cases ad:i < `x
 .refine .inr ⟨⟨xs,xs[i],q,by simp[ad]⟩,?_,λx H3 y=>?_⟩
  .rw[length_map];have:=length_filter_le t (List.range i);rw[length_range] at this;lia
  .obtain⟨rfl,y⟩:=y;have hc:=y xs q;obtain⟨b,rfl,hb⟩:=hit i x H3 hc sm;refine⟨b,_,_,rfl,hb,?_⟩;refine ht i ad _ _ sm λH4 s4=>?_;by_cases hf:t i=true
   .rw[if_pos hf];refine he i ad hf _ _ (sm.trans s4) λH5 s5=>⟨(s4.trans s5) _ _ dl,`x - (i+1),`l,rfl,ad,?_,aE,λb o e=>?_⟩
    .rw[range_succ,filter_append,map_append];simp[hf]
    .rw[aD (aJ e hp)];exact (s4.trans s5) _ _ (sm _ _ e)
   .rw[if_neg hf];refine⟨`x - (i+1),`l,rfl,ad,?_,s4 _ _ dl,sm.trans s4⟩;rw[range_succ,filter_append,map_append];simp[hf]
 .have e:i=`x:=by lia
  subst e;exact .inl ⟨⟨xs,q,Nat.le_refl _⟩,hQ H2 sm dl⟩
theorem Df {a:Addr}{xs:`V}(t:Nat->Bool)(g:Nat->V)(hxs:SqT K H1 a xs)(hlen:`x<=sizeLine)(hp:H1 p=none)
  (ht:∀(i:Nat) (x:V),xs[i]?=some x->∀(H':Hp) (R:Bool->Hp->Prop),Same H1 H'->(∀H'',Same H' H''->R (t i) H'')->tt (some x::fv) H' R)
  (he:∀(i:Nat) (x:V),xs[i]?=some x->t i=true->∀(H':Hp) (T:VK),Same H1 H'->(∀H'',Same H' H''->T (g i) H'')->te (some x::fv) H' T)
  (hQ:∀H',Same H1 H'->H' p=some (.lst (((List.range `x).filter t).map g))->Q (.ref p) H'):CompI (Itt K a) p fv tt te Q H1:=by
 refine⟨λi m ys H2=>m=`x - i/\i<=`x/\ys=((List.range i).filter t).map g/\H2 p=some (.lst ys)/\Same H1 H2,⟨`x,`s,Nat.zero_le _,`s,aE,λb o e=>by rw[aD (aJ e hp)];exact e⟩,?_⟩;rintro i m ys H2 ⟨rfl,hi,rfl,ad,sm⟩;refine⟨ad,?_⟩;have q:=sm.tup hxs;by_cases dl:i < `x
 .refine .inr ⟨⟨xs,xs[i],q,by simp[dl]⟩,?_,λx H3 y=>?_⟩
  .rw[length_map];have:=length_filter_le t (List.range i);rw[length_range] at this;lia
  .obtain⟨rfl,y⟩:=y;have hc:=y xs q;refine ht i x hc _ _ sm λH4 s4=>?_;by_cases hf:t i=true
   .rw[if_pos hf];refine he i x hc hf _ _ (sm.trans s4) λH5 s5=>⟨(s4.trans s5) _ _ ad,`x - (i+1),`l,rfl,dl,?_,aE,λb o e=>?_⟩
    .rw[range_succ,filter_append,map_append];simp[hf]
    .rw[aD (aJ e hp)];exact (s4.trans s5) _ _ (sm _ _ e)
   .rw[if_neg hf];refine⟨`x - (i+1),`l,rfl,dl,?_,s4 _ _ ad,sm.trans s4⟩;rw[range_succ,filter_append,map_append];simp[hf]
 .have e:i=`x:=by lia
  subst e;exact .inl ⟨⟨xs,q,Nat.le_refl _⟩,hQ H2 sm ad⟩
end
end L2
namespace Wm
open PySem L2
theorem pk {α β:Type}(f:α->Bool)(g:α->β)(d:β):∀(l:List α),((List.range `L).filter λi=>(l[i]?.map f).getD false).map (λi=>(l[i]?.map g).getD d)=(l.filter f).map g
 |[]=>rfl
 |a::l=>by
  have ih:=pk f g d l;have e2:((((List.range `L).map Nat.succ).filter λi=>(((a::l)[i]?).map f).getD false).map λi=>(((a::l)[i]?).map g).getD d)=(l.filter f).map g:=by rw[List.filter_map,map_map,<- ih];rfl
  rw[length_cons,List.range_succ_eq_map,filter_cons];by_cases hf:f a=true
  .rw[if_pos (by simp[hf]),map_cons,e2,filter_cons,if_pos hf,map_cons];rfl
  .rw[if_neg (by simp[hf]),e2,filter_cons,if_neg hf]
noncomputable def canD:PyData->Bool
 |.str s=>s.cps.toList.all isSg && decide (0 < s.length) && !isDot s.cps.toList
 |_=>false
noncomputable def txD:PyData->Tq
 |.str s=>s.cps.toList
 |_=>[]
noncomputable def isValD (c:Pc)(d:PyData):Bool:=match c with
 |.rest _=>match d with
  |.list ds=>decide (0 < ds.length) && ds.all canD
  |_=>false
 |.num _=>match d with
  |.int i=>decide (0<=i/\i < 10 ^ 60)
  |_=>false
 |.word _=>match d with
  |.str s=>wordB s.cps.toList
  |_=>false
 |.step _=>false
 |.part h _ t=>ftx d && !isDot (h++txD d++t)
 |.gap _=>ftx d && !isDot (txD d)
noncomputable def stpsD (c:Pc)(d:PyData):List Tq:=match c with
 |.rest _=>match d with
  |.list ds=>ds.map txD
  |_=>[]
 |.num _=>match d with
  |.int i=>[dg i]
  |_=>[]
 |.step s=>[s]
 |c=>[c.head++txD d++c.tail]
inductive VlsV (H:Hp):List (Tq×PyData)->`V->Prop
 |nil:VlsV H [] []
 |cons {n:Tq}{d:PyData}{p:Addr}{v:V}{vs:List (Tq×PyData)}{xs:`V}:H p=some (.tup [tV n,v])->Is H d v->VlsV H vs xs->VlsV H ((n,d)::vs) (.ref p::xs)
theorem VlsV.append {H:Hp}{ws:List (Tq×PyData)}{ys:`V}(h2:VlsV H ws ys){vs:List (Tq×PyData)}{xs:`V}(hh:VlsV H vs xs):VlsV H (vs++ws) (xs++ys):=by
 induction hh with
 |nil=>exact h2
 |cons h a r ih=>exact .cons h a ih
noncomputable def gapsM (cs:List Pc):List Tq:=(cs.filter λc=>!c.isStep).map Pc.name
noncomputable def named (vs:List (Tq×PyData))(n:Tq):List PyData:=(vs.filter λp=>decide (p.1=n)).map (·.2)
noncomputable def fillS (c:Pc)(vs:List (Tq×PyData)):Except Tq (List Tq):=match c with
 |.step s=>.ok [s]
 |c=>match named vs c.name with
  |[d]=>if isValD c d=true then .ok (stpsD c d) else .error c.name
  |_=>.error c.name
noncomputable def prAt (H:Hp)(ys:`V)(i:Nat):V×V:=match ys[i]? with
 |some (.ref p)=>match H p with
  |some (.tup [a,b])=>(a,b)
  |_=>(.non,.non)
 |_=>(.non,.non)
theorem pp {H:Hp}{ys:`V}{i:Nat}{p:Addr}{a b:V}(h:ys[i]?=some (.ref p))(hp:H p=some (.tup [a,b])):prAt H ys i=(a,b):=by unfold prAt;rw[h];dsimp only;rw[hp]
theorem Dg (cs:List Pc):(gapsM cs).length<=cs.length:=by unfold gapsM;rw[length_map];exact length_filter_le _ _
theorem Dh (xs:`V)(i:Nat):cutV xs none (some (i:Int))=xs.take i:=by
 unfold cutV;rw[HT.sIx_none,HT.sIx_nat,drop_zero,Nat.sub_zero];by_cases h:i<=`x
 .rw[Nat.min_eq_left h]
 .rw[Nat.min_eq_right `l,take_length,take_of_length_le `l]
theorem kL {H:Hp}:∀l:List Int,IsAll H (l.map PyData.int) (l.map V.int)
 |[]=>.nil
 |c::ss=>.cons (.int _) (kL ss)
def PtAt (H:Hp)(cs:List Pc)(e:Bool)(p:Addr):Prop:=∃(q:Addr) (xs:`V),H p=some (.tup [.ref q,.bl e])/\H q=some (.tup xs)/\PcT H cs xs
theorem PtAt.mono {H H':Hp}{cs:List Pc}{e:Bool}{p:Addr}(s:SameT H H')(h:PtAt H cs e p):PtAt H' cs e p:=by obtain⟨q,xs,h1,h2,h3⟩:=h;exact⟨q,xs,s _ _ h1,s _ _ h2,h3.mono s⟩
theorem ja {H:Hp}{l:Addr}{ys zs:`V}(h:H l=some (.lst zs)):SameT H (upd H l (.lst ys)):=λb o hb=>by rw[aD (λw=>by subst w;rw[h] at hb;cases hb)];exact hb
end Wm
namespace L2
open PySem PySem.Spec PyProof.Rows PyProof.V
section
variable {X:Cx}{i:Expr}{x:Str}{np pos:Pos}{td ty:TE}
def tTab (p:Addr)(D:List (PyData×PyData))(td ty:TE):TE:=λZ H Q=>td Z H λx H1=>ty Z H1 λy H2=>x=.ref p/\∃(k:Str) (n:Int),y=.str k/\lookup (.str k) D=some (.int n)/\Q (.int n) H2
theorem Di {p:Addr}{D:List (PyData×PyData)}{Z:St}{H:Hp}{Q:VK}:(tTab p D td ty Z H Q)=(td Z H λx H1=>ty Z H1 λy H2=>x=.ref p/\∃(k:Str) (n:Int),y=.str k/\lookup (.str k) D=some (.int n)/\Q (.int n) H2):=rfl
theorem pq {p:Addr}{D:List (PyData×PyData)}(T:∀h:Heap,X.K.In h->StrTab X.prog X.w h p D)(ho:PE X (.Name x np) td)(hi:PE X i ty)(hs:∀ov iv,subscripted i false ov iv=operate [ov,iv] (getItem ov iv)):PE X (.Subscript (.Name x np) i pos) (tTab p D td ty):=by intro ad s Z H Q I h;refine Subscript_ (thn (ho ad s Z H _ I h) λu s1 ⟨x,H1,I1,rx,q1⟩=>thn (hi ad s1 Z H1 _ I1 q1) λiv s2 W'=>?_);obtain⟨y,H2,I2,ry,ex,k,n,ey,hl,q2⟩:=W';subst ex ey;obtain rfl:u=Value.ref p:=rx;obtain⟨t,rfl⟩:=ry;refine item_strTab (T _ I2.kIn) hl (λv hv=>?_) (hs _ _);obtain⟨t',rfl⟩:=hv.int_inv;exact⟨.int n,H2,I2.tok _,⟨t',rfl⟩,q2⟩
end
end L2
namespace Wm
open PySem L2
theorem Dj (a b:Int):PyData.eqv (.int a) (.int b)=true↔a=b:=by simp[PyData.eqv]
theorem Dk (a b:List Int):PyData.eqv (.tuple (a.map PyData.int)) (.tuple (b.map PyData.int))=decide (a=b):=by rw[Bool.eq_iff_iff,decide_eq_true_eq,PyData.eqv];exact ge Dj _ _
theorem pz (l:List Int):SeqAt.shaped (.tuple (l.map PyData.int))=true:=by refine LayAt.shaped (n:=1) (LayAt.tup (n:=0) λd hd=>?_) `d;obtain⟨c,hc,rfl⟩:=mem_map.mp hd;exact⟨rfl,Nat.le_refl _⟩
end Wm
namespace L2
open PySem PySem.Spec PyProof.Rows
section
variable {X:Cx}
theorem q0:∀(l:List Str) (n:Nat),Vals (l.map V.str) (strsFrom n l)
 |[],_=>.nil
 |z::l,n=>.cons ⟨n,rfl⟩ (q0 l (n+1))
def rSplit:V->`V->Hp->VK->Prop:=λx vs H Q=>∃(z:Str) (c:Nat),x=.str z/\vs=[.str ⟨#[c]⟩]/\z.length<=100000/\∀p,H p=none->Q (.ref p) (upd H p (.lst ((Txt.split z ⟨#[c]⟩).map V.str)))
theorem qA:MtR X "str.split" rSplit:=by
 intro dl s Z H x vs v us Q I rx rv h;obtain⟨z,c,rfl,rfl,hz,q⟩:=h;obtain⟨t,rfl⟩:=rx;obtain⟨u,rfl,t',rfl⟩:=vals1 rv;have hf:H `z=none:=I.hok.fresh `n;have q:=q _ hf;have hw:=split_weight z ⟨#[c]⟩ (Nat.le_refl 1);have mt:z.length<=sizeLine:=Nat.le_trans hz `d;unfold Txt.split at q hw;cases h1:(decide (z.length < (⟨#[c]⟩:Str).length) || decide (Builtin.Str.strKind z < Builtin.Str.strKind ⟨#[c]⟩)) with
 |true=>rw[if_pos h1] at q;refine call_meets F.slot_str_split (typeIs_str _ _ _) F.entry_str_split (F.args_str_split_2 _ _) (meets_str_split_cannot_occur z ⟨#[c]⟩ t t' h1) ?_;refine⟨.ref `z,_,I.laid (t':=s.toks) (o:=.lst [.str z]) (λb u e=>Heap.get?_push_of_some _ e) `n ?_,rfl,q⟩;exact⟨by show 1<=sizeLine;decide,[.str z t],0,.cons `o .nil,Heap.get?_push_size _ rfl⟩
 |false=>
  rw[if_neg (by rw[h1];decide)] at q hw;cases h2:(Builtin.Str.occurrences z ⟨#[c]⟩ 0 z.length (z.length+1)).isEmpty with
  |true=>rw[if_pos h2] at q;refine call_meets F.slot_str_split (typeIs_str _ _ _) F.entry_str_split (F.args_str_split_2 _ _) (meets_str_split_not_found z ⟨#[c]⟩ t t' h1 rfl h2) ?_;refine⟨.ref `z,_,I.laid (t':=s.toks) (o:=.lst [.str z]) (λb u e=>Heap.get?_push_of_some _ e) `n ?_,rfl,q⟩;exact⟨by show 1<=sizeLine;decide,[.str z t],0,.cons `o .nil,Heap.get?_push_size _ rfl⟩
  |false=>
   rw[if_neg (by rw[h2];decide)] at q hw;have hn:(Builtin.Str.partsBetween z (Builtin.Str.occurrences z ⟨#[c]⟩ 0 z.length (z.length+1)) (⟨#[c]⟩:Str).length).length<=100001:=by lia
   have ad:(Builtin.Str.partsBetween z (Builtin.Str.occurrences z ⟨#[c]⟩ 0 z.length (z.length+1)) (⟨#[c]⟩:Str).length).length<=sizeLine:=Nat.le_trans hn `d;refine call_meets F.slot_str_split (typeIs_str _ _ _) F.entry_str_split (F.args_str_split_2 _ _) (meets_str_split_sep z ⟨#[c]⟩ t t' h1 rfl h2 mt ad) ?_;refine⟨.ref `z,_,I.laid (o:=.lst _) (λb u e=>Heap.get?_push_of_some _ e) `n ?_,rfl,q⟩;exact⟨by rw[length_map];exact ad,_,0,q0 _ _,Heap.get?_push_size _ rfl⟩
end
theorem Dl {z:Str}{c:Nat}{H:Hp}{Q:VK}:rSplit (.str z) [.str ⟨#[c]⟩] H Q↔z.length<=100000/\∀p,H p=none->Q (.ref p) (upd H p (.lst ((Txt.split z ⟨#[c]⟩).map V.str))):=by
 constructor
 .rintro⟨z',c',e1,e2,h⟩;cases e1;cases e2;exact h
 .exact λh=>⟨z,c,rfl,rfl,h⟩
section
variable {κ:Type}[DecidableEq κ]
noncomputable def valV (kvs:List (κ×V))(k:κ):Option V:=(kvs.find? λkv=>decide (kv.1=k)).map (·.2)
noncomputable def putK (kvs:List (κ×V))(k:κ)(v:V):List (κ×V):=
 if (kvs.any λkv=>decide (kv.1=k))=true then kvs.map (λkv=>if kv.1=k then (kv.1,v) else kv) else kvs++[(k,v)]
end
def DGet (H:Hp)(a:Addr)(y:V)(r:Option V):Prop:=
 (∃kvs k,Rd H a (.dK kvs)/\y=kV k/\r=valV kvs k)\/∃kvs k b,Rd H a (.dT kvs)/\y=.ref b/\H b=some (.tup (k.map kV))/\r=valV kvs k
def DPut (H:Hp)(a:Addr)(y v:V)(H':Hp):Prop:=
 (∃kvs k,H a=some (.dK kvs)/\y=kV k/\kvs.length < sizeLine/\H'=upd H a (.dK (putK kvs k v)))\/
 ∃kvs k b,H a=some (.dT kvs)/\y=.ref b/\H b=some (.tup (k.map kV))/\kvs.length < sizeLine/\H'=upd H a (.dT (putK kvs k v))
theorem DGet.t {H:Hp}{a b:Addr}{kvs:List (List Key×V)}{k:List Key}(e:H a=some (.dT kvs))(eb:H b=some (.tup (k.map kV))):DGet H a (.ref b) (valV kvs k):=.inr ⟨kvs,k,b,.inl e,rfl,eb,rfl⟩
theorem DPut.t {H:Hp}{a b:Addr}{kvs:List (List Key×V)}{k:List Key}{v:V}(e:H a=some (.dT kvs))(eb:H b=some (.tup (k.map kV)))(hl:kvs.length < sizeLine) :
  DPut H a (.ref b) v (upd H a (.dT (putK kvs k v))):=.inr ⟨kvs,k,b,e,rfl,eb,hl,rfl⟩
section
variable {X:Cx}{pins:`O}{Z:St}{H:Hp}{s:Shared}
theorem Inv.big (I:Inv X pins Z H s):sysModules < `z:=by have h:mainGlobals < `z:=(I.mod.glob.keeps I.bk).lt;exact Nat.lt_trans `d h
end
theorem Dm {P:Program}{w:World}{H:Hp}(h:Heap)(hb:sysModules < h.objs.size):ObjOk P w H (h.push {cls:=.type "dict",data:=.dict #[]}) h.objs.size (.dK []):=
 ⟨Nat.zero_le _,beq_eq_false_iff_ne.mpr (Ne.symm (Nat.ne_of_lt hb)),[],.nil,Heap.DictOf.new h⟩
def tDNewK:TE:=λ_ H Q=>∀p,H p=none->Q (.ref p) (upd H p (.dK []))
section
variable {X:Cx}{pos:Pos}
theorem Dn:PE X (.Dict [] [] pos) tDNewK:=λpins s Z H Q I h=>
 wpAny_Dict_empty ⟨.ref `z,_,I.laid (a:=`z) (o:=.dK []) (t':=s.toks) (λ_ _ q=>Heap.get?_push_of_some _ q) `n (Dm s.heap I.big),rfl,h _ (I.hok.fresh `n)⟩
end
end L2
namespace PySem
open PyProof.Rows
section
variable {K:Type}[DecidableEq K]
noncomputable def fstU (l:List K):List K:=l.foldl (λacc k=>if k∈acc then acc else acc++[k]) []
theorem kM (l:List K)(k:K):fstU (l++[k])=if k∈fstU l then fstU l else fstU l++[k]:=by unfold fstU;rw[foldl_append];rfl
theorem kN:∀(n:Nat) (l:List K),`L=n->∀k,k∈fstU l↔k∈l
 |0,l,h,k=>by rw[length_eq_zero_iff.mp h];exact Iff.rfl
 |n+1,l,h,k=>by
  obtain⟨l',x,rfl⟩:∃l' x,l=l'++[x]:=⟨l.dropLast,l.getLast (λz=>by rw[z] at h;cases h),(List.dropLast_concat_getLast _).symm⟩;have ih:=kN n l' (by rw[length_append,length_singleton] at h;lia);rw[kM,mem_append,mem_singleton];split
  .next hx=>
   rw[ih k];exact⟨.inl,λz=>by rcases z with z|rfl;exact z;exact (ih _).mp hx⟩
  .rw[mem_append,mem_singleton,ih k]
theorem gr:∀(n:Nat) (l:List K),`L=n->((fstU l).length<=`L/\((fstU l).length=`L↔l.Nodup))
 |0,l,h=>by rw[length_eq_zero_iff.mp h];simp[fstU]
 |n+1,l,h=>by
  obtain⟨l',x,rfl⟩:∃l' x,l=l'++[x]:=⟨l.dropLast,l.getLast (λz=>by rw[z] at h;cases h),(List.dropLast_concat_getLast _).symm⟩;have hl:l'.length=n:=by rw[length_append,length_singleton] at h;lia
  obtain⟨i1,i2⟩:=gr n l' hl;have im:=kN n l' hl x;have hp:(l'++[x]).Nodup↔x∉l'/\l'.Nodup:=by rw[<- nodup_cons];exact (List.perm_append_singleton x l').nodup_iff
  rw[hp,kM,length_append,length_singleton];split
  .next hx=>
   refine⟨`l,λz=>?_,λz=>absurd (im.mp hx) z.1⟩;exact absurd z `l
  .next hx=>
   rw[length_append,length_singleton];refine⟨`l,λz=>⟨λy=>hx (im.mpr y),i2.mp `l⟩,λz=>by rw[i2.mpr z.2]⟩
end
section
variable {prog:Program}{w:World}{K:Type}[DecidableEq K]{knd:KeyKind prog w K}{A:Around}{R:Result->Shared->Prop}{h0:Heap}{d it l:Addr}{items:Array Value}{ks:List K}
theorem qB {h:Heap}{S S':K->Bool}{n n':Nat}(e:∀k,S k=S' k)(en:n=n')(hs:h.SetOf knd d S n):h.SetOf knd d S' n':=by subst en;rw[<- (funext e:S=S')];exact hs
theorem Do (hd0:h0.get? d=none)(hi0:h0.get? it=none)(hdi:d≠it)(hl:h0.IsList l items)(hp:∀(i:Nat) (x:Value),items[i]?=some x->∃k,ks[i]?=some k/\knd.is k x=true/\x.scannable=true)(hn:items.size=ks.length)(hsz:ks.length+1 < scanBound)(hh:A.in1.handled=none) :
  ∀(k i:Nat) (s:Shared),items.size - i=k->i<=items.size->(∀b o,h0.get? b=some o->s.heap.get? b=some o)->s.heap.IsListIter it l i->s.heap.SetOf knd d (λk=>decide (k∈ks.take i)) (fstU (ks.take i)).length ->
  (∀(h':Heap) (n:Nat),(∀b o,h0.get? b=some o->h'.get? b=some o)->h'.SetOf knd d (λk=>decide (k∈ks)) (fstU ks).length->R (.ok (.ret .none)) {s with heap:=h',toks:=n}) ->
  codeAny `M A (.builtin "set.update.loop" ⟨[.ref d,.ref it],[]⟩) R s:=by
 intro k;induction k with
 |zero=>intro i s hk hi sm hit hd hR;have GE:i=items.size:=Nat.le_antisymm hi `l;obtain⟨o,ho,r⟩:=hl;refine codeAny_builtin F.entry_set_update_loop ?_;rw[Around.under_plainId F.plain_set_update_loop _];show wpAny _ A.in1 (pyNext (.ref it) >>= _) _ _ s;refine wpAny_bind (wpAny_pyNext_list_end hh hit ⟨o,sm _ _ ho,r⟩ (by rw[GE];simp) λh' he=>?_);rw[GE,hn,take_length] at hd;refine wpAny_pure (hR h' s.toks (λb o e=>he b o (λz=>by rw[z,hi0] at e;cases e) (sm b o e)) ?_);obtain⟨o,es,ep,t,h1,h2⟩:=hd;exact⟨o,es,ep,t,he d o hdi h1,h2⟩
 |succ k ih=>
  intro i s hk hi sm hit hd hR;have Fr:i < items.size:=Nat.lt_of_sub_pos `l;obtain⟨dl,HD,ad,HB⟩:=hp i items[i] (Array.getElem?_eq_getElem Fr);obtain⟨ol,HC,rl⟩:=id hl;refine codeAny_builtin F.entry_set_update_loop ?_;rw[Around.under_plainId F.plain_set_update_loop _];show wpAny _ A.in1 (pyNext (.ref it) >>= _) _ _ s;refine wpAny_bind (wpAny_pyNext_list_item hit ⟨ol,sm _ _ HC,rl⟩ (x:=items[i]) (Array.getElem?_eq_getElem Fr) λh1 BT Fn=>?_);have HA:∀b o,h0.get? b=some o->h1.get? b=some o:=λb o e=>by rw[Fn.2 b (λz=>by rw[z,hi0] at e;cases e)];exact sm b o e
  have HG:h1.SetOf knd d (λk=>decide (k∈ks.take i)) (fstU (ks.take i)).length:=by obtain⟨o,es,ep,t,e1,e2⟩:=hd;exact⟨o,es,ep,t,by rw[Fn.2 d hdi];exact e1,e2⟩
  have HI:=(gr _ (ks.take i) rfl).1;have HE:=kN _ (ks.take i) rfl;rw[length_take] at HI;refine wpAny_bind (wpAny_holding ?_);unfold setAdd;refine wpAny_holding (wpAny_bind (knd.pyHash ad ?_));refine wpAny_setAddHashed_of (s:={ s with heap:=h1,toks:=_}) ad HB HG `l λh2 Cl HF=>?_;have GT:∀b o,h0.get? b=some o->h2.get? b=some o:=λb o e=>by rw[Cl.2 b (λz=>by rw[z,hd0] at e;cases e)];exact HA b o e
  have mt:h2.IsListIter it l (i+1):=by obtain⟨o,e1,e2⟩:=BT;exact⟨o,by rw[Cl.2 it (Ne.symm hdi)];exact e1,e2⟩
  have et:ks.take (i+1)=ks.take i++[dl]:=by rw[take_add_one,HD];rfl
  refine wpAny_pure ⟨plainId_quiet F.plain_set_update_loop _,?_⟩;refine ih (i+1) _ `l `l GT mt (qB (λk=>?_) ?_ HF) (λh' n e1 e2=>hR h' n e1 e2)
  .rw[et];by_cases h1:k∈ks.take i
   .rw[decide_eq_true h1,decide_eq_true (mem_append_left _ h1)];rfl
   .by_cases h2:k=dl
    .rw[decide_eq_true h2,decide_eq_true (mem_append_right _ (mem_singleton.mpr h2)),Bool.or_true]
    .rw[decide_eq_false h1,decide_eq_false h2,decide_eq_false (λz=>by rcases mem_append.mp z with y|y;exact h1 y;exact h2 (mem_singleton.mp y))];rfl
  .rw[et,kM];by_cases h1:dl∈ks.take i
   .rw[if_pos (decide_eq_true h1),if_pos ((HE _).mpr h1)]
   .rw[if_neg (by rw[decide_eq_false h1];decide),if_neg (λz=>h1 ((HE _).mp z)),length_append];rfl
end
section
variable {prog:Program}{w:World}{K:Type}[DecidableEq K]{knd:KeyKind prog w K}{A:Around}{E:`T}{s:Shared}{l:Addr}{items:Array Value}{ks:List K}{Q:`T}
theorem Dp (hl:s.heap.IsList l items)(hp:∀(i:Nat) (x:Value),items[i]?=some x->∃k,ks[i]?=some k/\knd.is k x=true/\x.scannable=true)(hn:items.size=ks.length)(hsz:ks.length+1 < scanBound)(hA:A.handled=none)
  (h:∀(h':Heap) (n:Nat),(∀b o,s.heap.get? b=some o->h'.get? b=some o)->h'.SetOf knd `z (λk=>decide (k∈ks)) (fstU ks).length->Q (.ref `z) {s with heap:=h',toks:=n}) :
  wpAny `M A (call (.type "set") [.ref l]) Q E s:=by
 obtain⟨c,tl,BT⟩:=F.called_set.mro;have Fr:=F.called_set.made;have HB:=F.called_set.sub;have h1:=F.called_set.notType;have h2:=F.called_set.canCreate;refine wpAny_call (codeAny_of_tree (wpAny_pure ⟨Code.quiet_builtin _ `k,codeAny_builtin F.entry_type_call ?_⟩));rw[Around.under_plain (weight_type_call_type "set" [.ref l] []) rfl];unfold Builtin.«type.__call__»;refine wpAny_ite_false (by rw[h1];rfl) ?_;refine wpAny_ite_false (by rw[h2];rfl) ?_;refine wpAny_bind (wpAny_of_eq (F.typeCall_set_1 _) ?_);refine wpAny_bind (wpAny_of_eq BT ?_);refine wpAny_ite_false rfl ?_;refine wpAny_bind (wpAny_of_eq Fr ?_);refine wpAny_bind (wpAny_pure ?_);show wpAny _ _ (holding [Value.builtin "set.__new__"] (call (Value.builtin "set.__new__") [.type "set",.ref l] []) >>= _) _ _ _;refine wpAny_bind (wpAny_holding (wpAny_call (codeAny_mono (code_set_new_1 (E:=E) (Q₁:=λx s₁=>∃ad,x=.ref `z/\s₁={ s with heap:=s.heap.push {cls:=.type "set",data:=.set #[] 0 (SetTable.fresh 0 0 ad)} }) (.ref l) λad=>⟨ad,rfl,rfl⟩) λr s₁ hr=>?_)));cases r with
 |error e=>exact hr
 |ok fl=>
  cases fl with
  |next=>exact hr
  |brk=>exact hr
  |cont=>exact hr
  |ret v=>
   obtain⟨ad,rfl,rfl⟩:=hr;have ns:(s.heap.push {cls:=.type "set",data:=.set #[] 0 (SetTable.fresh 0 0 ad)}).get? `z=some {cls:=.type "set",data:=.set #[] 0 (SetTable.fresh 0 0 ad)}:=Heap.get?_push_size _ rfl;have ty:({s with heap:=s.heap.push {cls:=.type "set",data:=.set #[] 0 (SetTable.fresh 0 0 ad)} }:Shared).TypeIs (.ref `z) "set" := ⟨_,ns,rfl⟩;refine wpAny_bind (wpAny_isInstance ty HB ?_);refine wpAny_ite_false rfl ?_;refine wpAny_bind (wpAny_holding ?_);unfold callSpecial?;refine wpAny_bind (wpAny_specialOf ty F.called_set.init.lookup ?_);refine wpAny_holding (wpAny_bind (wpAny_of_eq (F.called_set.init.bind _) ?_));refine wpAny_bind (wpAny_call (codeAny_mono (R:=wants (λr s₂=>r=Value.none/\Q (.ref `z) s₂) E) (codeAny_call_builtin F.called_set.init.plain F.entry_set_init (check_set_init_1 ty ?_)) λr₂ s₂ dl=>?_));rotate_left
   .cases r₂ with
    |error e=>exact dl
    |ok fl=>
     cases fl with
     |next=>exact dl
     |brk=>exact dl
     |cont=>exact dl
     |ret v=>obtain⟨rfl,hq⟩:=dl;exact wpAny_pure (wpAny_ite_false rfl (wpAny_pure hq))
   have mt:∀b o,s.heap.get? b=some o->(s.heap.push {cls:=.type "set",data:=.set #[] 0 (SetTable.fresh 0 0 ad)}).get? b=some o:=λb o e=>Heap.get?_push_of_some _ e;obtain⟨ol,Fn,rl⟩:=id hl;have GT:(s.heap.push {cls:=.type "set",data:=.set #[] 0 (SetTable.fresh 0 0 ad)}).IsList l items:=⟨ol,mt _ _ Fn,rl⟩;have HA:({s with heap:=s.heap.push {cls:=.type "set",data:=.set #[] 0 (SetTable.fresh 0 0 ad)} }:Shared).TypeIs (.ref l) "list" := ⟨ol,mt _ _ Fn,rl.1⟩;have hsub1:=F.sub_list_set;have hsub2:=F.sub_list_frozenset;generalize hG:s.heap.push {cls:=.type "set",data:=.set #[] 0 (SetTable.fresh 0 0 ad)}=G at ns ty mt GT HA ⊢;unfold Builtin.«set.__init__»
   wp_walk using wpAny_pyIter_list GT
   have Cl:∀b,`z<=b->s.heap.get? b=none:=λb hb=>by
    cases e:s.heap.get? b with
    |none=>rfl
    |some o=>exact absurd (Heap.lt_size e) (Nat.not_lt.mpr hb)
   have GE:`z < G.objs.size:=Heap.lt_size ns;have HC:(G.push {cls:=.type "list_iterator",data:=.fields #[.ref l,.int 0 0]}).SetOf knd `z (λk=>decide (k∈ks.take 0)) (fstU (ks.take 0)).length:=by
    letI:BEq K:=instBEqOfDecidableEq
    refine qB (S:=λ_=>false) (λk=>?_) rfl ((setObjOf_fresh (knd:=knd) ad).setOf (Heap.get?_push_of_some _ ns) `d);rw[take_zero,decide_eq_false not_mem_nil]
   exact @Do prog w K _ knd A.in1.in1 _ s.heap `z G.objs.size l items ks (Cl _ `n) (Cl _ (Nat.le_of_lt GE)) (Nat.ne_of_lt GE) hl hp hn hsz hA items.size 0
    { s with heap:=G.push {cls:=.type "list_iterator",data:=.fields #[.ref l,.int 0 0]} } rfl (Nat.zero_le _) (λb o e=>Heap.get?_push_of_some _ (mt b o e)) ⟨_,Heap.get?_push_size _ rfl,rfl,rfl⟩ HC (λh' n e1 e2=>wpAny_pure (wpAny_pure ⟨rfl,h h' n e1 e2⟩))
end
end PySem
namespace L2
open PySem PySem.Spec PyProof.Rows
section
variable {X:Cx}
theorem qC:∀{ss:List Str}{its:List Value},Vals (ss.map V.str) its->its.length=ss.length/\∀(i:Nat) (x:Value),its[i]?=some x->∃z t,ss[i]?=some z/\x=.str z t
 |[],_,h=>by cases h;exact⟨rfl,λi x h=>by simp at h⟩
 |z::ss,_,h=>by
  cases h with
  |cons r rs=>
   obtain⟨h1,h2⟩:=qC rs;obtain⟨t,rfl⟩:=r;refine⟨by simp[h1],λi x hx=>?_⟩;cases i with
   |zero=>cases hx;exact⟨z,t,rfl,rfl⟩
   |succ i=>exact h2 i x (by simpa using hx)
def tLenSet (ta:TA):TE:=λZ H Q=>ta Z H λvs H1=>∃(l:Addr) (ss:List Str),vs=[.ref l]/\H1 l=some (.lst (ss.map V.str))/\ss.length<=1000/\Q (.int ((fstU ss).length:Nat)) H1
theorem Dq {a:Expr}{ta:TA}{p p' pos pos':Pos}(hc:X.calm=true)(hg:Gl X "set")(hm:X.mg "set"=none)(hl:Gl X "len")(hlm:X.mg "len"=none)(hb:bootBuiltins "len"=some (.builtin "len"))(ha:PA X [a] ta)
  (hs:starEach [a] X.env=[(false,eval a X.env)]:=by rfl)
  (hs':starEach [.Call (.Name "set" p) [a] [] pos] X.env=[(false,eval (.Call (.Name "set" p) [a] [] pos) X.env)]:=by rfl) :
  PE X (.Call (.Name "len" p') [.Call (.Name "set" p) [a] [] pos] [] pos') (tLenSet ta):=by
 intro ad s Z H Q I h;refine wpAny_Call_Name_kw (cD I hl hlm hb (PyProof.Rows.callWith_builtin1 ?_ hs' rfl) `d `d);rw[hs'];refine Calls.spliced_cons ?_;refine wpAny_Call_Name_kw (cD I hg hm boot_set (PyProof.Rows.callWith_type1 (thn (ha pos ad s Z H _ I h) λus s1 W'=>?_) hs rfl) `d `d);obtain⟨vs,H1,I1,r1,q1⟩:=W';obtain⟨l,ss,e,BT,hz,q⟩:=q1;subst e;obtain⟨u,rfl,r⟩:=vals1 r1;cases r;obtain⟨z,mt,n,rv,e⟩:=I1.hok l _ BT;obtain⟨v1,v2⟩:=qC rv;have hfn:=(gr _ ss rfl).1;refine Dp (knd:=PySem.strKind X.prog X.w) (ks:=ss) (items:=mt.toArray) ⟨_,e,rfl,_,rfl⟩ (λi x hx=>?_) (by rw[size_toArray];exact v1) (by show ss.length+1 < 4096;lia) (I1.ok.hd hc) λh' t' sm dl=>?_
 .obtain⟨y,t,h1,rfl⟩:=v2 i x (by simpa using hx);exact⟨y,h1,PySem.strKind_is _ _ _ _,rfl⟩
 have I2:Inv X ad Z H1 {s1 with heap:=h',toks:=t' }:=I1.kept sm;refine Calls.spliced_nil ?_;obtain⟨o,es,ep,tt,g1,g2,g3,g4,g5,g6,g7,g8⟩:=dl;refine call_len_set (s:={ s1 with heap:=h',toks:=t' }) g1 g2 g3 g7 (by rw[g8];lia) ?_;rw[g8];refine⟨.int _,H1,I1.kept (t':=t'+1+1) sm,`o,q⟩
end
theorem Dr {ta:TA}{Z:St}{H:Hp}{Q:VK}:(tLenSet ta Z H Q)=(ta Z H λvs H1=>∃(l:Addr) (ss:List Str),vs=[.ref l]/\H1 l=some (.lst (ss.map V.str))/\ss.length<=1000/\Q (.int ((fstU ss).length:Nat)) H1):=rfl
section
variable {Z:St}{H:Hp}{Q:VK}
theorem Ds:(tDNewK Z H Q)=(∀p,H p=none->Q (.ref p) (upd H p (.dK []))):=rfl
end
end L2
namespace L2
open PySem
section
variable {K:`F}{p:Addr}{fv:St}{tt:TT}{te:TE}{Q:VK}{H1:Hp}
theorem qE {a:Addr}{xs:`V}(t:Nat->Bool)(g:Nat->V)(hxs:SqL K H1 a xs)(hlen:`x<=sizeLine)(hp:H1 p=none)
  (ht:∀(i:Nat) (x:V),xs[i]?=some x->∀(H':Hp) (R:Bool->Hp->Prop),Same H1 H'->(∀H'',Same H' H''->R (t i) H'')->tt (some x::fv) H' R)
  (he:∀(i:Nat) (x:V),xs[i]?=some x->t i=true->∀(H':Hp) (T:VK),Same H1 H'->(∀H'',Same H' H''->T (g i) H'')->te (some x::fv) H' T)
  (hQ:∀H',Same H1 H'->H' p=some (.lst (((List.range `x).filter t).map g))->Q (.ref p) H'):CompI (Itl K a) p fv tt te Q H1:=by
 refine⟨λi m ys H2=>m=`x - i/\i<=`x/\ys=((List.range i).filter t).map g/\H2 p=some (.lst ys)/\Same H1 H2,⟨`x,`s,Nat.zero_le _,`s,aE,λb o e=>by rw[aD (aJ e hp)];exact e⟩,?_⟩;rintro i m ys H2 ⟨rfl,hi,rfl,ad,sm⟩;refine⟨ad,?_⟩;have q:=sm.seq hxs;by_cases dl:i < `x
 .refine .inr ⟨⟨xs,xs[i],q,by simp[dl]⟩,?_,λx H3 y=>?_⟩
  .rw[length_map];have:=length_filter_le t (List.range i);rw[length_range] at this;lia
  .obtain⟨rfl,y⟩:=y;have hc:=y xs q;refine ht i x hc _ _ sm λH4 s4=>?_;by_cases hf:t i=true
   .rw[if_pos hf];refine he i x hc hf _ _ (sm.trans s4) λH5 s5=>⟨(s4.trans s5) _ _ ad,`x - (i+1),`l,rfl,dl,?_,aE,λb o e=>?_⟩
    .rw[range_succ,filter_append,map_append];simp[hf]
    .rw[aD (aJ e hp)];exact (s4.trans s5) _ _ (sm _ _ e)
   .rw[if_neg hf];refine⟨`x - (i+1),`l,rfl,dl,?_,s4 _ _ ad,sm.trans s4⟩;rw[range_succ,filter_append,map_append];simp[hf]
 .have e:i=`x:=by lia
  subst e;exact .inl ⟨⟨xs,q,Nat.le_refl _⟩,hQ H2 sm ad⟩
end
end L2
namespace Wm
open PySem L2
noncomputable abbrev Rw:=Tq×(List Pc×Bool)
def RwAt (H:Hp)(r:Rw)(v:V):Prop:=∃a p:Addr,v=.ref a/\H a=some (.tup [tV r.1,.ref p])/\PtAt H r.2.1 r.2.2 p
theorem RwAt.mono {H H':Hp}{r:Rw}{v:V}(s:SameT H H'):RwAt H r v->RwAt H' r v:=λ⟨a,p,e,h1,h2⟩=>⟨a,p,e,s _ _ h1,h2.mono s⟩
inductive TbV (H:Hp):List Rw->`V->Prop
 |nil:TbV H [] []
 |cons {r:Rw}{v:V}{rs:List Rw}{vs:`V}:RwAt H r v->TbV H rs vs->TbV H (r::rs) (v::vs)
theorem TbV.mono {H H':Hp}(s:SameT H H'){rs:List Rw}{vs:`V}(hh:TbV H rs vs):TbV H' rs vs:=by
 induction hh with
 |nil=>exact .nil
 |cons h t ih=>exact .cons (h.mono s) ih
theorem TbV.length {H:Hp}{rs:List Rw}{vs:`V}(hh:TbV H rs vs):vs.length=rs.length:=by
 induction hh with
 |nil=>exact rfl
 |cons h t ih=>rw[length_cons,length_cons,ih]
theorem TbV.get {H:Hp}{rs:List Rw}{vs:`V}(hh:TbV H rs vs){i:Nat}{v:V}(e:vs[i]?=some v):∃r,rs[i]?=some r/\RwAt H r v:=by
 induction hh generalizing i with
 |nil=>cases e
 |cons h _ ih=>
  cases i with
  |zero=>cases e;exact⟨_,rfl,h⟩
  |succ i=>exact ih e
theorem TbV.append {H:Hp}{ss:List Rw}{ws:`V}(h2:TbV H ss ws){rs:List Rw}{vs:`V}(hh:TbV H rs vs):TbV H (rs++ss) (vs++ws):=by
 induction hh with
 |nil=>exact h2
 |cons h t ih=>exact .cons h ih
theorem TbV.pick {H:Hp}{f:Rw->Bool}:∀{rs:List Rw}{vs:`V},TbV H rs vs->TbV H (rs.filter f) (((List.range vs.length).filter λi=>match rs[i]? with|some r=>f r|none=>false).map λi=>vs[i]?.getD .non):=by
 intro rs vs h;induction h with
 |nil=>exact .nil
 |@cons r v rs vs h t ih=>
  have e:(List.range (v::vs).length).filter (λi=>match (r::rs)[i]? with|some r=>f r|none=>false)=(if f r=true then [0] else [])++((List.range vs.length).filter λi=>match rs[i]? with|some r=>f r|none=>false).map (·+1):=by rw[length_cons,List.range_succ_eq_map,filter_cons,List.filter_map];simp only[List.getElem?_cons_zero];split <;> rename_i hh <;> simp[hh,Function.comp_def]
  rw[e,map_append,map_map,filter_cons];have tl:(((List.range vs.length).filter λi=>match rs[i]? with|some r=>f r|none=>false).map ((λi=>(v::vs)[i]?.getD .non) ∘ (·+1)))=(((List.range vs.length).filter λi=>match rs[i]? with|some r=>f r|none=>false).map λi=>vs[i]?.getD .non):=by apply map_congr_left;intro i _;simp
  rw[tl];split
  .exact .cons h ih
  .exact ih
noncomputable abbrev mkS (l:Tq):Str:=`A
theorem qF (t:Tq)(c i:Nat):(decide (i+(mkS [c]).length<=(mkS t).length) && Builtin.Str.subAt (mkS t) (mkS [c]) i)=decide (t[i]?=some c):=by
 by_cases hi:i<=`t
 .rw[jy t [c] i hi,decide_eq_decide];cases h:t.drop i with
  |nil=>have:t[i]?=none:=List.getElem?_eq_none (by have:=congrArg List.length h;rw[length_drop,length_nil] at this;lia);rw[this];simp
  |cons d r=>
   have:t[i]?=some d:=by rw[<- List.head?_drop,h];rfl
   rw[this];simp
 .rw[List.getElem?_eq_none `l,aN,aN,decide_eq_false (by rw[length_singleton];lia)];rfl
theorem kO (t:Tq)(c:Nat):Builtin.Str.occurrences (mkS t) (mkS [c]) 0 (mkS t).length 1=((List.range' 0 (`t+1)).find? λi=>decide (t[i]?=some c)).toList:=by rw[StrLaws.occ_eq,occ1 _ _ _ _ (λi _=>Nat.zero_le i)];simp only[qF];rw[aN];rfl
theorem gs {t:Tq}{c:Nat}(h:c∉t):Txt.partition (mkS t) (mkS [c])=(mkS t,⟨#[]⟩,⟨#[]⟩):=by unfold Txt.partition;rw[kO,List.find?_eq_none.mpr λi _ z=>h (mem_of_getElem? (of_decide_eq_true z))];rfl
theorem Dt {a b:Tq}{c:Nat}(h:c∉a):Txt.partition (mkS (a++c::b)) (mkS [c])=(mkS a,mkS [c],mkS b):=by
 unfold Txt.partition;have e:(List.range' 0 ((a++c::b).length+1)).find? (λi=>decide ((a++c::b)[i]?=some c))=some a.length:=by
  rw[List.find?_range'_eq_some];refine⟨decide_eq_true `s,?_,λj _ hj=>?_⟩
  .rw[mem_range'_1];simp only[length_append,length_cons];lia
  .rw[decide_eq_false λz=>?_]
   .rfl
   .rw[List.getElem?_append_left hj] at z;exact h (mem_of_getElem? z)
 rw[kO,e];show (Builtin.Str.strSub (mkS (a++c::b)) 0 a.length,mkS [c],Builtin.Str.strSub (mkS (a++c::b)) (a.length+(mkS [c]).length) (mkS (a++c::b)).length)=_;rw[aN,aN];refine Prod.ext ?_ (Prod.ext rfl ?_)
 .show (⟨(a++c::b).toArray.extract 0 a.length⟩:Str)=_;simp
 .show (⟨(a++c::b).toArray.extract (a.length+1) (a++c::b).length⟩:Str)=_;simp;exact take_of_length_le `l
theorem qG {K:`F}{H:Hp}:∀{ss:List Str}{xs:`V},IsKAll K H (ss.map PyData.str) xs->xs=ss.map V.str
 |[],_,.nil=>rfl
 |s::ss,_,.cons h r=>by cases h;rw[qG r];rfl
theorem gt {K:`F}{H:Hp}{ss:List Str}{p:Addr}(h:IsK K H (.tuple (ss.map PyData.str)) (.ref p)):SqT K H p (ss.map V.str):=by
 cases h with
 |tup hp r=>rw[<- qG r];exact hp
theorem cv (k:Str):∀ss:List Str,inV (.str k) (ss.map V.str)=decide (k∈ss)
 |[]=>rfl
 |s::ss=>by
  have ih:=cv k ss;have e:eqV (.str s) (.str k)=decide (k=s):=by show (s == k)=decide (k=s);rw[Bool.eq_iff_iff,beq_iff_eq,decide_eq_true_eq];exact⟨Eq.symm,Eq.symm⟩
  unfold inV at ih ⊢;rw[map_cons,any_cons,ih,e,Bool.eq_iff_iff,Bool.or_eq_true,decide_eq_true_eq,decide_eq_true_eq,decide_eq_true_eq,mem_cons]
theorem qH (sep:Nat):∀ys:List Tq,Str.join (mkS [sep]) (ys.map mkS)=mkS (joinT sep ys)
 |[]=>by rw[map_nil,Str.join.eq_1];rfl
 |[x]=>by rw[map_cons,map_nil,Str.join.eq_2];simp[joinT,tlT]
 |x::y::r=>by rw[map_cons,Str.join.eq_3 _ _ _ `s,qH sep (y::r),ay,ay];simp[joinT,tlT]
theorem bI (z:Str):mkS z.cps.toList=z:=by cases z;simp
theorem qI {c:Nat}{ts:List Tq}(hf:Free c ts)(h:ts≠[]):Txt.split (mkS (joinT c ts)) ⟨#[c]⟩=ts.map mkS:=by
 obtain⟨qs,hq⟩:∃qs:List Tq,qs=(Txt.split (mkS (joinT c ts)) ⟨#[c]⟩).map (λz=>z.cps.toList):=`o;have e:Txt.split (mkS (joinT c ts)) ⟨#[c]⟩=qs.map mkS:=by
  rw[hq,map_map]
  conv=>lhs;rw[<- map_id (Txt.split (mkS (joinT c ts)) ⟨#[c]⟩)]
  exact map_congr_left λz _=>(bI z).symm
 have hj:=StrLaws.join_split (mkS (joinT c ts)) ⟨#[c]⟩;rw[e] at hj;have ad:joinT c qs=joinT c ts:=ac.mp ((qH c qs).symm.trans hj);have dl:Free c qs:=λs hs d hd=>by rw[hq] at hs;obtain⟨z,hz,rfl⟩:=mem_map.mp hs;exact λy=>StrLaws.split_free _ c z hz (by rw[<- y];exact hd)
 have hn:qs≠[]:=λz=>by
  have hl:=PyProof.Rows.len_of_split (l:=(Txt.split (mkS (joinT c ts)) ⟨#[c]⟩).map λz=>(z,0)) (x:=mkS (joinT c ts)) (y:=⟨#[c]⟩) (by
   rw[map_map]
   conv=>rhs;rw[<- map_id (Txt.split (mkS (joinT c ts)) ⟨#[c]⟩)]
   rfl)
  rw[length_map,e,z] at hl;exact absurd hl `d
 rw[e,AM dl hf hn h ad]
noncomputable def nameD:PyData->Bool
 |.str s=>decide (1<=s.length/\s.length<=8) && s.cps.toList.all isSma
 |_=>false
noncomputable def endsD:PyData->PyData->Bool
 |.str a,.str b=>a.cps.toList.all isSg && b.cps.toList.all isSg && !decide (a.cps.toList++b.cps.toList=[])
 |_,_=>false
def NmOk (n:Tq):Prop:=(1<=n.length/\n.length<=8)/\n.all isSma=true
inductive PcW:Pc->Tq->Prop
 |step {s w:Tq}:WrT frS s w->s≠[]->PcW (.step s) w
 |part {h n t a b:Tq}:WrT frS h a->WrT frS t b->h++t≠[]->NmOk n->PcW (.part h n t) (a++123::(n++125::b))
 |gap {n:Tq}:NmOk n->PcW (.gap n) (123::(n++[125]))
 |num {n:Tq}:NmOk n->PcW (.num n) (123::(n++58::([110,117,109,98,101,114]++[125])))
 |word {n:Tq}:NmOk n->PcW (.word n) (123::(n++58::([119,111,114,100]++[125])))
 |rest {n:Tq}:NmOk n->PcW (.rest n) (123::(n++58::([114,101,115,116]++[125])))
theorem dk {n:Tq}(h:n.all isSma=true):∀c∈n,97<=c/\c<=122:=λc hc=>by have:=all_eq_true.mp h c hc;unfold isSma at this;simpa using this
theorem fX {s w:Tq}(h:WrT frS s w):∀c∈w,c≠47/\c≠123/\c≠125:=by
 have ad:∀c,(isPl c=true\/c∈frS)->c≠47/\c≠123/\c≠125:=λc hc=>by
  rcases hc with hc|hc
  .refine⟨λz=>?_,λz=>?_,λz=>?_⟩ <;> (rw[z] at hc;exact absurd hc `k)
  .refine⟨λz=>?_,λz=>?_,λz=>?_⟩ <;> (rw[z] at hc;exact absurd hc `k)
 induction h with
 |nil=>intro c hc;cases hc
 |self h1 h2 _ ih=>
  intro c hc;rcases mem_cons.mp hc with rfl|hc
  .exact ad c h1
  .exact ih c hc
 |pair h1 _ ih=>
  intro c hc;obtain⟨f1,f2,f3,_⟩:=oU h1;simp only[mem_cons] at hc;have fg:∀{a b d:Nat},sgO a b=some d->(a≠47/\a≠123/\a≠125)/\(b≠47/\b≠123/\b≠125):=λ{a b d} h=>by refine⟨⟨λz=>?_,λz=>?_,λz=>?_⟩,⟨λz=>?_,λz=>?_,λz=>?_⟩⟩ <;> (subst z;unfold sgO at h;simp[fig] at h)
  obtain⟨g1,g2⟩:=fg h1;rcases hc with rfl|rfl|rfl|hc
  .decide
  .exact g1
  .exact g2
  .exact ih c hc
noncomputable def kwN:List Str:=[ofString "number",ofString "word",ofString "gap",ofString "rest"]
noncomputable def stepD:List PyData->Bool
 |[x]=>canD x
 |_=>false
noncomputable def partD:List PyData->Bool
 |[h,n,t]=>nameD n && endsD h t
 |_=>false
noncomputable def namD:List PyData->Bool
 |[n]=>nameD n
 |_=>false
noncomputable def pieceK (k:Str)(r:List PyData):Bool:=if k=ofString "step" then stepD r else if k=ofString "part" then partD r else decide (k∈kwN) && namD r
noncomputable def pieceD:PyData->Bool
 |.tuple (.str k::r)=>pieceK k r
 |_=>false
noncomputable def pcOne (k:Str)(a:Tq):Pc:=if k=ofString "step" then .step a else if k=ofString "number" then .num a else if k=ofString "word" then .word a else if k=ofString "gap" then .gap a else .rest a
noncomputable def pcOf:PyData->Pc
 |.tuple [.str k,.str a]=>pcOne k a.cps.toList
 |.tuple [_,.str h,.str n,.str t]=>.part h.cps.toList n.cps.toList t.cps.toList
 |_=>.step []
noncomputable def restsL (cs:List Pc):Bool:=cs.dropLast.all λc=>!c.isRest
noncomputable def piecesD (ds:List PyData):Bool:=decide (ds.length<=12) && (ds.all pieceD && (restsL (ds.map pcOf) && decide ((gapsM (ds.map pcOf)).Nodup)))
noncomputable def patD:PyData->Bool
 |.tuple [.tuple ds,.bool e]=>piecesD ds && (e || decide (0 < ds.length))
 |_=>false
theorem qJ:ofString "number" ≠ ofString "step"/\ofString "word" ≠ ofString "step"/\ofString "gap" ≠ ofString "step"/\ofString "rest" ≠ ofString "step"/\ofString "part" ≠ ofString "step"/\ofString "number" ≠ ofString "part"/\ofString "word" ≠ ofString "part"/\ofString "gap" ≠ ofString "part"/\ofString "rest" ≠ ofString "part"/\ofString "word" ≠ ofString "number"/\ofString "gap" ≠ ofString "number"/\ofString "rest" ≠ ofString "number"/\ofString "gap" ≠ ofString "word"/\ofString "rest" ≠ ofString "word"/\ofString "rest" ≠ ofString "gap" := by fail "k"
theorem fY (z:Str):st z.cps.toList=.str z:=congrArg PyData.str (bI z)
theorem qK {x:PyData}(hx:nameD x=true):∃s:Str,x=.str s/\NmOk s.cps.toList:=by
 cases x with
 |str s=>simp only[nameD,Bool.and_eq_true,decide_eq_true_eq] at hx;exact⟨s,rfl,⟨hx.1,hx.2⟩⟩
 |_=>cases hx
theorem Du {r:List PyData}(h:stepD r=true):∃s:Str,r=[.str s]:=by
 cases r with
 |nil=>cases h
 |cons a r=>
  cases r with
  |nil=>
   cases a with
   |str s=>exact⟨s,rfl⟩
   |_=>cases h
  |cons b r=>cases h
theorem Dv {r:List PyData}(h:namD r=true):∃s:Str,r=[.str s]/\NmOk s.cps.toList:=by
 cases r with
 |nil=>cases h
 |cons a r=>
  cases r with
  |nil=>obtain⟨s,rfl,hs⟩:=qK (show nameD a=true from h);exact⟨s,rfl,hs⟩
  |cons b r=>cases h
theorem Dw {r:List PyData}(h:partD r=true):∃a s b:Str,r=[.str a,.str s,.str b]/\NmOk s.cps.toList:=by
 match r,h with
 |[x,y,z],h=>
  have h:(nameD y && endsD x z)=true:=h;rw[Bool.and_eq_true] at h;obtain⟨s,rfl,hs⟩:=qK h.1;cases x with
  |str a=>
   cases z with
   |str b=>exact⟨a,s,b,rfl,hs⟩
   |_=>cases h.2
  |_=>cases h.2
theorem Dx {d:PyData}(h:pieceD d=true):d=pcD (pcOf d)/\((pcOf d).isStep=false->NmOk (pcOf d).name):=by
 obtain⟨n1,n2,n3,n4,n5,n6,n7,n8,n9,Fn,Cl,BT,mt,dl,ad⟩:=qJ;cases d with
 |tuple l=>
  cases l with
  |nil=>cases h
  |cons a r=>
   cases a with
   |str k=>
    have h:pieceK k r=true:=h;unfold pieceK at h;by_cases h1:k=ofString "step"
    .rw[if_pos h1] at h;obtain⟨s,rfl⟩:=Du h;have ep:pcOf (.tuple [.str k,.str s])=.step s.cps.toList:=by
      show pcOne k s.cps.toList=_;unfold pcOne;rw[if_pos h1]
     rw[ep,h1];refine⟨?_,λz=>by cases z⟩;show _=PyData.tuple [.str (ofString "step"),st s.cps.toList];rw[fY]
    .rw[if_neg h1] at h;by_cases h2:k=ofString "part"
     .rw[if_pos h2] at h;obtain⟨a,s,b,rfl,hs⟩:=Dw h;refine⟨?_,λ_=>hs⟩;show _=PyData.tuple [.str (ofString "part"),st a.cps.toList,st s.cps.toList,st b.cps.toList];rw[fY,fY,fY,h2]
     .rw[if_neg h2,Bool.and_eq_true] at h;obtain⟨hk,h⟩:=h;obtain⟨s,rfl,hs⟩:=Dv h;have hk:=of_decide_eq_true hk;unfold kwN at hk;simp only[mem_cons,not_mem_nil,or_false] at hk;have e:∀(kk:Str) (c:Pc),pcOf (.tuple [.str kk,.str s])=c->pcD c=.tuple [.str kk,st s.cps.toList]->c.name=s.cps.toList->PyData.tuple [.str kk,.str s]=pcD (pcOf (.tuple [.str kk,.str s]))/\((pcOf (.tuple [.str kk,.str s])).isStep=false->NmOk (pcOf (.tuple [.str kk,.str s])).name):=λkk c e1 e2 e3=>by
       rw[e1,e2,e3,fY];exact⟨rfl,λ_=>hs⟩
      rcases hk with rfl|rfl|rfl|rfl
      .exact e _ (.num s.cps.toList) (by show pcOne _ _=_;unfold pcOne;rw[if_neg h1,if_pos rfl]) rfl rfl
      .exact e _ (.word s.cps.toList) (by show pcOne _ _=_;unfold pcOne;rw[if_neg h1,if_neg Fn,if_pos rfl]) rfl rfl
      .exact e _ (.gap s.cps.toList) (by show pcOne _ _=_;unfold pcOne;rw[if_neg h1,if_neg Cl,if_neg mt,if_pos rfl]) rfl rfl
      .exact e _ (.rest s.cps.toList) (by show pcOne _ _=_;unfold pcOne;rw[if_neg h1,if_neg BT,if_neg dl,if_neg ad]) rfl rfl
   |_=>cases h
 |_=>cases h
theorem Dy {c:Pc}(ok:PcOk c)(hn:c.isStep=false->NmOk c.name):pieceD (pcD c)=true/\pcOf (pcD c)=c:=by
 obtain⟨n1,n2,n3,n4,n5,n6,n7,n8,n9,Fn,Cl,BT,mt,dl,ad⟩:=qJ;have nm:∀{n:Tq},NmOk n->nameD (st n)=true:=λ{n} h=>by show (decide (1<=(mkS n).length/\(mkS n).length<=8) && n.all isSma)=true;rw[aN,decide_eq_true h.1,h.2];rfl
 cases c with
 |step s=>
  obtain⟨o1,o2,o3,o4⟩:=ok;refine⟨?_,?_⟩
  .show pieceK (ofString "step") _=true;unfold pieceK;rw[if_pos rfl];show (s.all isSg && decide (0 < (mkS s).length) && !isDot s)=true;rw[aN,decide_eq_true o1,o4,all_eq_true.mpr o3];rfl
  .show pcOne (ofString "step") _=_;unfold pcOne;rw[if_pos rfl]
 |part h n t=>obtain⟨o1,o2,o3,o4,o5⟩:=ok;refine⟨?_,rfl⟩;show pieceK (ofString "part") _=true;unfold pieceK;rw[if_neg n5,if_pos rfl];show (nameD (st n) && endsD (st h) (st t))=true;rw[show nameD (st n)=true from nm (hn rfl),Bool.true_and];show (h.all isSg && t.all isSg && !decide (h++t=[]))=true;rw[all_eq_true.mpr o3,all_eq_true.mpr o4,decide_eq_false o5];rfl
 |num n=>
  refine⟨?_,?_⟩
  .show pieceK (ofString "number") _=true;unfold pieceK;rw[if_neg n1,if_neg n6,decide_eq_true (by unfold kwN;simp),show namD [st n]=true from nm (hn rfl)];rfl
  .show pcOne (ofString "number") _=_;unfold pcOne;rw[if_neg n1,if_pos rfl]
 |word n=>
  refine⟨?_,?_⟩
  .show pieceK (ofString "word") _=true;unfold pieceK;rw[if_neg n2,if_neg n7,decide_eq_true (by unfold kwN;simp),show namD [st n]=true from nm (hn rfl)];rfl
  .show pcOne (ofString "word") _=_;unfold pcOne;rw[if_neg n2,if_neg Fn,if_pos rfl]
 |gap n=>
  refine⟨?_,?_⟩
  .show pieceK (ofString "gap") _=true;unfold pieceK;rw[if_neg n3,if_neg n8,decide_eq_true (by unfold kwN;simp),show namD [st n]=true from nm (hn rfl)];rfl
  .show pcOne (ofString "gap") _=_;unfold pcOne;rw[if_neg n3,if_neg Cl,if_neg mt,if_pos rfl]
 |rest n=>
  refine⟨?_,?_⟩
  .show pieceK (ofString "rest") _=true;unfold pieceK;rw[if_neg n4,if_neg n9,decide_eq_true (by unfold kwN;simp),show namD [st n]=true from nm (hn rfl)];rfl
  .show pcOne (ofString "rest") _=_;unfold pcOne;rw[if_neg n4,if_neg BT,if_neg dl,if_neg ad]
theorem bj {n:Nat}{ds:List PyData}:tupN (n:Int) (.tuple ds)=true↔ds.length=n:=by show decide ((ds.length:Int)=(n:Int))=true↔_;rw[decide_eq_true_iff];lia
theorem qL (xs:`V):cutV xs none (some (-1))=xs.dropLast:=B6 xs
theorem qM {H:Hp}:∀{ds:List PyData}{xs:`V},IsAll H ds xs->∀{i:Nat}{x:V},xs[i]?=some x->∃d,ds[i]?=some d/\Is H d x
 |_,_,.nil,i,x,h=>by simp at h
 |_,_,.cons q t,0,x,h=>by simp at h;subst h;exact⟨_,rfl,q⟩
 |_,_,.cons _ t,i+1,x,h=>by obtain⟨d,h1,h2⟩:=qM t (i:=i) (by simpa using h);exact⟨d,by simpa using h1,h2⟩
theorem kP {H:Hp}:∀{ds:List PyData}{xs:`V},IsAll H ds xs->`x=ds.length
 |_,_,.nil=>rfl
 |_,_,.cons _ t=>by rw[length_cons,length_cons,kP t]
theorem qN {H:Hp}:∀{l:List Tq}{xs:`V},IsAll H (l.map st) xs->xs=l.map tV
 |[],_,.nil=>rfl
 |a::l,_,.cons h r=>by cases h;rw[qN r];rfl
theorem qO {H:Hp}{c:Pc}{x:V}(h:Is H (pcD c) x):∃p,x=.ref p/\H p=some (.tup c.vals):=by
 have ad:∀(k:Str) (l:List Tq),Is H (.tuple (.str k::l.map st)) x->∃p,x=.ref p/\H p=some (.tup (.str k::l.map tV)):=λk l h=>by
  cases h with
  |tup hp r=>
   cases r with
   |cons h1 r=>cases h1;have e:=qN r;subst e;exact⟨_,rfl,hp⟩
 cases c with
 |step s=>exact ad _ [s] h
 |part a n t=>exact ad _ [a,n,t] h
 |num n=>exact ad _ [n] h
 |word n=>exact ad _ [n] h
 |gap n=>exact ad _ [n] h
 |rest n=>exact ad _ [n] h
theorem kQ {K:`F}{H:Hp}:∀{ds:List PyData}{xs:`V},IsAll H ds xs->ds.all pieceD=true->PcAll K H (ds.map pcOf) xs
 |_,_,.nil,_=>.nil
 |d::ds,_,.cons h t,ha=>by rw[all_cons,Bool.and_eq_true] at ha;have hb:=(Dx ha.1).1;rw[hb] at h;obtain⟨p,rfl,hp⟩:=qO h;exact .cons (.of hp) (kQ t ha.2)
theorem Dz {l:List Tq}:(l.map mkS).Nodup↔l.Nodup:=by
 constructor
 .intro h;rw[List.nodup_iff_pairwise_ne] at h ⊢;rw[List.pairwise_map] at h;exact h.imp λa b=>a (congrArg mkS b)
 .intro h;rw[List.nodup_iff_pairwise_ne] at h ⊢;rw[List.pairwise_map];exact h.imp λa b=>a (ac.mp b)
inductive PcWs:List Pc->List Tq->Prop
 |nil:PcWs [] []
 |cons {c:Pc}{w:Tq}{cs:List Pc}{ws:List Tq}:PcW c w->PcWs cs ws->PcWs (c::cs) (w::ws)
theorem PcWs.get {cs:List Pc}{ws:List Tq}(h:PcWs cs ws):∀{i:Nat}{w:Tq},ws[i]?=some w->∃c,cs[i]?=some c/\PcW c w:=by
 induction h with
 |nil=>intro i w h;simp at h
 |cons a r ih=>
  intro i w hw;cases i with
  |zero=>cases hw;exact⟨_,rfl,a⟩
  |succ i=>exact ih (by simpa using hw)
theorem kR {s w:Tq}(h:WrT frS s w):und frS w=some s:=by
 induction h with
 |nil=>exact jl _
 |self h1 h2 _ ih=>rw[jo h2 (by rcases h1 with h|h;rw[h];rfl;rw[decide_eq_true h,Bool.or_true]),ih];rfl
 |pair h1 _ ih=>rw[jm h1,ih];rfl
theorem DA {c:Pc}{w:Tq}(h:PcW c w):w≠[]/\∀x∈w,x≠47:=by
 have nm:∀{n:Tq},NmOk n->∀x∈n,x≠47:=λ{n} hn x hx=>by have:=dk hn.2 x hx;lia
 cases h with
 |@step s w h hs=>refine⟨λz=>?_,λx hx=>(fX h x hx).1⟩;have:=gj h;rw[z,length_nil] at this;exact hs (length_eq_zero_iff.mp `l)
 |part h1 h2 h3 h4=>
  refine⟨`s,λx hx=>?_⟩;simp only[mem_append,mem_cons] at hx;rcases hx with hx|rfl|hx|rfl|hx
  .exact (fX h1 x hx).1
  .decide
  .exact nm h4 x hx
  .decide
  .exact (fX h2 x hx).1
 |gap h1=>
  refine⟨`s,λx hx=>?_⟩;simp only[mem_append,mem_cons,not_mem_nil,or_false] at hx;rcases hx with rfl|hx|rfl
  .decide
  .exact nm h1 x hx
  .decide
 |num h1=>
  refine⟨`s,λx hx=>?_⟩;simp only[mem_append,mem_cons,not_mem_nil,or_false] at hx;rcases hx with rfl|hx|hx
  .decide
  .exact nm h1 x hx
  .lia
 |word h1=>
  refine⟨`s,λx hx=>?_⟩;simp only[mem_append,mem_cons,not_mem_nil,or_false] at hx;rcases hx with rfl|hx|hx
  .decide
  .exact nm h1 x hx
  .lia
 |rest h1=>
  refine⟨`s,λx hx=>?_⟩;simp only[mem_append,mem_cons,not_mem_nil,or_false] at hx;rcases hx with rfl|hx|hx
  .decide
  .exact nm h1 x hx
  .lia
noncomputable def kwW:List Str:=[ofString "number",ofString "word",ofString "rest"]
noncomputable def bfo (c:Nat)(t:Tq):Tq:=t.takeWhile λx=>decide (x≠c)
noncomputable def aft (c:Nat)(t:Tq):Tq:=(t.dropWhile λx=>decide (x≠c)).tail
theorem bn {c:Nat}:∀{a b:Tq},c∉a->bfo c (a++c::b)=a/\aft c (a++c::b)=b
 |[],b,_=>by simp[bfo,aft]
 |x::a,b,h=>by
  have hx:x≠c:=λz=>h (by rw[z];exact mem_cons_self ..);obtain⟨h1,h2⟩:=bn (a:=a) (b:=b) λz=>h (mem_cons_of_mem _ z);refine⟨?_,?_⟩
  .unfold bfo at h1 ⊢;rw[cons_append,List.takeWhile_cons_of_pos (p:=λx=>decide (x≠c)) (decide_eq_true hx),h1]
  .unfold aft at h2 ⊢;rw[cons_append,List.dropWhile_cons_of_pos (p:=λx=>decide (x≠c)) (decide_eq_true hx),h2]
theorem dm {c:Nat}{t:Tq}(h:c∈t):∃a b,t=a++c::b/\c∉a/\bfo c t=a/\aft c t=b:=by obtain⟨a,b,e,h1⟩:=List.eq_append_cons_of_mem h;obtain⟨e1,e2⟩:=bn (b:=b) h1;rw[<- e] at e1 e2;exact⟨a,b,e,h1,e1,e2⟩
noncomputable def gapD (h i t:Tq):PyData:=if h=[]/\t=[] then (if 58∈i then (if mkS (aft 58 i)∈kwW then .tuple [.str (mkS (aft 58 i)),st (bfo 58 i)] else .none) else .tuple [.str (ofString "gap"),st i]) else .tuple [.str (ofString "part"),oD (und frS h),st i,oD (und frS t)]
noncomputable def rpcD (t:Tq):PyData:=if 123∈t then (if 125∈aft 123 t then gapD (bfo 123 t) (bfo 125 (aft 123 t)) (aft 125 (aft 123 t)) else .none) else .tuple [.str (ofString "step"),oD (und frS t)]
noncomputable def rptE (ts:List Tq):Bool:=decide (ts.getLast?=some [])
noncomputable def rptL (ts:List Tq):List Tq:=if rptE ts then ts.dropLast else ts
noncomputable def rptD (ts:List Tq):PyData:=.tuple [.tuple ((rptL ts).map rpcD),.bool (rptE ts)]
theorem kS {fr:Tq}:∀(n:Nat) (t s:Tq),`t<=n->und fr t=some s->s.length<=`t
 |n,[],s,_,h=>by rw[jl] at h;cases h;exact Nat.le_refl _
 |n+1,c::r,s,hn,h=>by
  rw[length_cons] at hn;by_cases hc:c=126
  .subst hc;match r with
   |[]=>rw[jn `d] at h;cases h
   |[a]=>rw[jn `s] at h;cases h
   |a::b::r=>
    cases e:sgO a b with
    |none=>rw[nM e] at h;cases h
    |some d=>
     rw[jm e] at h;cases e2:und fr r with
     |none=>rw[e2] at h;cases h
     |some s'=>rw[e2] at h;cases h;simp only[length_cons] at hn ⊢;have:=kS n r s' `l e2;lia
  .by_cases h2:(isPl c || decide (c∈fr))=true
   .rw[jo hc h2] at h;cases e2:und fr r with
    |none=>rw[e2] at h;cases h
    |some s'=>rw[e2] at h;cases h;have:=kS n r s' `l e2;simp only[length_cons];lia
   .rw[nN hc h2] at h;cases h
theorem kT {t:Tq}(h:`t<=100000):smallD (oD (und frS t))=true:=by
 cases e:und frS t with
 |none=>rfl
 |some s=>have:=kS _ t s `n e;show decide ((mkS s).length<=100000)=true;rw[aN];exact decide_eq_true `l
theorem fZ {t:Tq}(h:`t<=100000):smallD (st t)=true:=by show decide ((mkS t).length<=100000)=true;rw[aN];exact decide_eq_true h
theorem DB {h i t:Tq}(h1:h.length<=100000)(h2:i.length<=100000)(h3:`t<=100000):smallD (gapD h i t)=true:=by
 unfold gapD;split
 .split
  .rename_i hm;obtain⟨a,b,e,_,e1,e2⟩:=dm hm;have hl:=congrArg List.length e;rw[length_append,length_cons] at hl;split
   .exact dW `s (by simp only[smallAll];rw[show smallD (.str (mkS (aft 58 i)))=true from fZ (by rw[e2];lia),fZ (by rw[e1];lia)];rfl)
   .rfl
  .exact dW `s (by simp only[smallAll];rw[show smallD (.str (ofString "gap"))=true by fail "k",fZ h2];rfl)
 .exact dW `s (by simp only[smallAll];rw[show smallD (.str (ofString "part"))=true by fail "k",fZ h2,kT h1,kT h3];rfl)
theorem DC {t:Tq}(h:`t<=100000):smallD (rpcD t)=true:=by
 unfold rpcD;split
 .rename_i hm;obtain⟨a,b,e,_,e1,e2⟩:=dm hm;have hl:=congrArg List.length e;rw[length_append,length_cons] at hl;rw[e1,e2];split
  .rename_i hm2;obtain⟨a2,b2,e3,_,e4,e5⟩:=dm hm2;have ad:=congrArg List.length e3;rw[length_append,length_cons] at ad;rw[e4,e5];exact DB `l `l `l
  .rfl
 .exact dW `s (by simp only[smallAll];rw[show smallD (.str (ofString "step"))=true by fail "k",kT h];rfl)
theorem DD {ts:List Tq}(h1:ts.length<=100000)(h2:∀t∈ts,`t<=100000):smallD (rptD ts)=true:=by
 have hs:(rptL ts).length<=ts.length/\∀t∈rptL ts,t∈ts:=by
  unfold rptL;split
  .exact⟨by rw[length_dropLast];lia,λt ht=>List.dropLast_subset _ ht⟩
  .exact⟨Nat.le_refl _,λt ht=>ht⟩
 refine dW `s ?_;simp only[smallAll];rw[dW (by rw[length_map];lia) (nT λd hd=>?_)]
 .rfl
 .obtain⟨t,ht,rfl⟩:=mem_map.mp hd;exact DC (h2 t (hs.2 t ht))
theorem DE {c:Pc}{w:Tq}(h:PcW c w):rpcD w=pcD c:=by
 have nm:∀{n:Tq},NmOk n->125∉n/\58∉n:=λ{n} hn=>⟨λz=>by have:=dk hn.2 _ z;lia,λz=>by have:=dk hn.2 _ z;lia⟩;have kw:∀(k n:Tq) (z:Str),NmOk n->125∉k->z=mkS k->z∈kwW->rpcD (123::(n++58::(k++[125])))=.tuple [.str z,st n]:=λk n z hn hk ez hz=>by obtain⟨n1,n2⟩:=nm hn;have e1:=bn (c:=123) (a:=[]) (b:=n++58::(k++[125])) `s;have e2:=bn (c:=125) (a:=n++58::k) (b:=[]) (by simp;exact⟨n1,hk⟩);have e3:=bn (c:=58) (a:=n) (b:=k) n2;rw[nil_append] at e1;rw[append_assoc,cons_append] at e2;unfold rpcD;rw[if_pos `f,e1.1,e1.2,if_pos `s,e2.1,e2.2];unfold gapD;rw[if_pos `R,if_pos `s,e3.1,e3.2,<- ez,if_pos hz]
 cases h with
 |step h1 h2=>unfold rpcD;rw[if_neg (λz=>(fX h1 _ z).2.1 rfl),kR h1];rfl
 |@part h n t a b h1 h2 h3 h4=>
  obtain⟨n1,n2⟩:=nm h4;have e1:=bn (c:=123) (a:=a) (b:=n++125::b) (λz=>(fX h1 _ z).2.1 rfl);have e2:=bn (c:=125) (a:=n) (b:=b) n1;unfold rpcD;rw[if_pos `s,e1.1,e1.2,if_pos `s,e2.1,e2.2];unfold gapD;rw[if_neg (λz=>h3 ?_),kR h1,kR h2]
  .rfl
  .have l1:=gj h1;have l2:=gj h2;rw[z.1,length_nil] at l1;rw[z.2,length_nil] at l2;rw[length_eq_zero_iff.mp (show h.length=0 by lia),length_eq_zero_iff.mp (show `t=0 by lia)];rfl
 |@gap n h1=>obtain⟨n1,n2⟩:=nm h1;have e1:=bn (c:=123) (a:=[]) (b:=n++[125]) `s;have e2:=bn (c:=125) (a:=n) (b:=[]) n1;rw[nil_append] at e1;unfold rpcD;rw[if_pos `f,e1.1,e1.2,if_pos `s,e2.1,e2.2];unfold gapD;rw[if_pos `R,if_neg n2];rfl
 |num h1=>exact kw _ _ (ofString "number") h1 `d `k (by unfold kwW;simp)
 |word h1=>exact kw _ _ (ofString "word") h1 `d `k (by unfold kwW;simp)
 |rest h1=>exact kw _ _ (ofString "rest") h1 `d `k (by unfold kwW;simp)
theorem DF {cs:List Pc}{ws:List Tq}{e:Bool}(h:PcWs cs ws):rptD (ws++if e then [[]] else [])=.tuple [.tuple (cs.map pcD),.bool e]:=by
 have em:∀{cs:List Pc}{ws:List Tq},PcWs cs ws->ws.map rpcD=cs.map pcD:=λ{cs ws} h=>by
  induction h with
  |nil=>rfl
  |cons a _ ih=>rw[map_cons,map_cons,ih,DE a]
 have e1:rptE (ws++if e then [[]] else [])=e:=by
  unfold rptE;cases e with
  |true=>simp
  |false=>rw[if_neg `d,append_nil];refine decide_eq_false λz=>?_;obtain⟨c,_,hc⟩:=h.get (i:=ws.length - 1) (w:=[]) (by rw[<- List.getLast?_eq_getElem?];exact z);exact (DA hc).1 rfl
 unfold rptD;rw[e1,<- em h]
 congr 3
 unfold rptL;rw[e1];cases e <;> simp
theorem gu {t:Tq}{c:Nat}(h:c∈t):Txt.partition (mkS t) (mkS [c])=(mkS (bfo c t),mkS [c],mkS (aft c t)):=by obtain⟨a,b,e,h1,e1,e2⟩:=dm h;rw[e1,e2,e,Dt h1]
theorem kU {H:Hp}(o:Option Tq):IsT H (oD o) (undV o):=by
 cases o with
 |none=>exact .non
 |some l=>exact .str _
theorem DG (sep n:Nat):∀{ws:List Tq},(∀w∈ws,w.length<=n)->(joinT sep ws).length<=ws.length * (n+1)/\(ws.map (·.length)).sum<=ws.length * n
 |[],_=>⟨by simp[joinT],`s⟩
 |w::ws,h=>by
  have tl:∀{ws:List Tq},(∀w∈ws,w.length<=n)->(tlT sep ws).length<=ws.length * (n+1)/\(ws.map (·.length)).sum<=ws.length * n:=λ{ws}=>by
   induction ws with
   |nil=>exact λ_=>⟨by simp[tlT],`s⟩
   |cons a r ih=>intro h;obtain⟨i1,i2⟩:=ih λw hw=>h w (mem_cons_of_mem _ hw);have:=h a `f;simp only[tlT,length_cons,length_append,map_cons,sum_cons,Nat.add_mul,Nat.one_mul];exact⟨`l,`l⟩
  obtain⟨i1,i2⟩:=tl λw hw=>h w (mem_cons_of_mem _ hw);have:=h w `f;simp only[joinT,length_cons,length_append,map_cons,sum_cons,Nat.add_mul,Nat.one_mul];exact⟨`l,`l⟩
end Wm
namespace L2
open PySem PySem.Spec PyProof.Rows
structure Fd (K:`F)(mg:Str->Option Value)(x:Str)(s:Stmt)(ps:List Str) where
 a:Addr
 fd:FuncData
 F:Fun K x x s a fd
 m:mg x=some (.ref a)
 b:Binds K fd ps []
noncomputable def DH {K:`F}{h:Heap}{mg:Str->Option Value}{x:Str}{s:Stmt}{ps:List Str}{f:Addr}{oc:Value}{od an:Option Addr}{osl:Array (Option Value)}{kV doc pm cdv ct:Value}(X:K.In h)(Gl:h.Ns mainGlobals mg)
  (a:PySem.W.nsIn K mainGlobals x=some (some (.ref f))) (l:K.lookup f=some ⟨oc,od,.func (PySem.W.fnOf x x (defArgs s) (defBody s) (defScope s) .none kV doc pm an cdv ct),osl⟩) (c:PySem.W.codeIn K cdv x=true) (k:PySem.W.keepIn K (.ref f)=true)
  (hb:∀(kV doc pm:Value) (an:Option Addr) (cdv ct:Value) (us:List Value),us.length=ps.length->bindArgs (PySem.W.fnOf x x (defArgs s) (defBody s) (defScope s) .none kV doc pm an cdv ct) ⟨us,[]⟩=pure (ps.zip us)):Fd K mg x s ps:=
 ⟨f,_,bL l c k,PySem.W.mg_of X Gl a,(bL l c k).binds hb⟩
abbrev Fd.Ok {K:`F}{mg:Str->Option Value}{x:Str}{s:Stmt}{ps:List Str}(f:Fd K mg x s ps)(P:Program)(w:World)(base:Heap)(k:Nat)(sp:Sp):Prop:=FnOk P w K mg base CX0 k f.a f.fd ps sp
theorem aQ {X:Cx}{k k':Nat}{sp:Sp}{x:Str}{st:Stmt}{ps:List Str}{e:Expr}{es:List Expr}{t:TA}{p pos:Pos}(f:Fd X.K X.mg x st ps)(F:FnOk X.prog X.w X.K X.mg X.base CX0 k f.a f.fd ps sp)(hr:Room k' X.A)(hg:Gl X x)
  (ha:PA X (e::es) t) (hk:k<=k':=by decide) (hdb:(x == ("__debug__" : Str))=false:=by decide) (he:starEach (e::es) X.env=(false,eval e X.env)::starEach es X.env:=by rfl) (hpl:(backTo pos (starEach es X.env)).any (·.1)=false:=by rfl) :
  PE X (.Call (.Name x p) (e::es) [] pos) (tCall sp [] E0 t):=aj F (hr.mono hk) hg f.m f.F.kp f.b .nil pass0 ha hdb he hpl
structure CpOk (X:Cx)(xs fx:List Str)(fr:Tq)(scope:Scope)(cl:List (Str×Addr))(iter:Expr):Prop where
 hc:X.calm=true
 hclos:closureFor scope X.env=pure cl
 hcell:∀y∈scope.names,y.2≠.cell
 hkind:scope.kind=.function
 hnames:∀y∈scope.names,y.2=.local->scope.names.lookup y.1=some .local
 hx:∀x∈xs,scope.names.lookup x=some .local
 hnd:(xs++fx).Nodup
 hk:(cl.all λq=>fx.contains q.1)=true
 F:Frees X (relabel scope X.env) cl fx fr
 hfx:((relabel scope X.env).names.all λp=>if (p.2 == .cell || p.2 == .free) then fx.contains p.1 else true)=true
 hs:∀x,foldedSetIterable iter X.env x=pure x
section
variable {X:Cx}{pins:`O}{Z:St}{H1:Hp}{s3:Shared}{xs fx:List Str}{fr:Tq}{scope:Scope}{cl:List (Str×Addr)}{fp:List Addr}{iter:Expr}
theorem CpOk.clo (c:CpOk X xs fx fr scope cl iter){y:Str}{a:Addr}(e:cl.lookup y=some a):X.env.cells.lookup y=some a:=by have q:=all_eq_true.mp c.hk _ (PySem.mem_of_lookup e);rw[<- (c.F.mem y (by simpa using q)).2];exact e
theorem DI (c:CpOk X xs fx fr scope cl iter)(I:Inv X pins Z H1 s3)(ffp:∀b∈fp,FpOk X pins H1 b)(flt:∀b∈fp,b < s3.heap.objs.size):(compCx X (xs++fx) scope cl s3 H1 fp).Ok where
 mod:=I.ok.mod
 kind:=c.hkind
 glob:=I.ok.glob
 blt:=I.ok.blt
 above:=Nat.le_refl _
 inj:=λy z a h1 h2=>I.ok.inj y z a (c.clo h1) (c.clo h2)
 has:=λy h=>by
  have h:(relabel scope X.env).names.lookup y=some .cell\/(relabel scope X.env).names.lookup y=some .free:=h;have key:y∈fx:=by rcases h with h|h <;> have q:=all_eq_true.mp c.hfx _ (PySem.mem_of_lookup h) <;> simpa using q
  obtain⟨k1,k2⟩:=c.F.mem y key;obtain⟨a,e⟩:=I.ok.has y (.inl k1);exact⟨a,k2.trans e⟩
 cab:=λy c h=>by cases (show false=true from h)
 hd:=I.ok.hd
 frames:=I.ok.frames
 stk:=.inl rfl
 exf:=λb hb=>⟨Nat.ne_of_lt (flt b hb),λy a e=>(ffp b hb).2.2.2.2.1 y a (c.clo e)⟩
 bs:=I.bs
 bsz:=Nat.le_trans I.ok.bsz I.sz
 noex:=λb o e hb=>by
  rcases (ffp b hb).2.2.2.1 with z|z
  .exact I.ok.noex b o e z
  .exact absurd (Nat.lt_of_lt_of_le (Heap.lt_size (I.ok.bs b o e).1) z) (Nat.lt_irrefl _)
 exfs:=λb hb z=>by
  rcases mem_cons.mp (I.stkSub b z) with q|q
  .exact (ffp b hb).2.1 q
  .exact (ffp b hb).2.2.1 q
 funs:=I.stack
 frf:=I.stkFree
theorem DJ (c:CpOk X xs fx fr scope cl iter)(I:Inv X pins Z H1 s3)(ffp:∀b∈fp,FpOk X pins H1 b)(flt:∀b∈fp,b < s3.heap.objs.size){h1:Heap}{t:Nat}{m:Str->Option Value}(hn:h1.Ns s3.heap.objs.size m)
  (keep:∀b u,s3.heap.get? b=some u->h1.get? b=some u):Inv (compCx X (xs++fx) scope cl s3 H1 fp) [] (xs.map (λ_=>none)++frV Z fr) H1 {s3 with heap:=h1,toks:=t}:=by
 refine⟨DI c I ffp flt,rfl,I.bare,Un.kept keep,⟨m,hn,λi y v e1 e2 e3=>?_⟩,λy a e=>?_,I.hok.fresh `n,λy a e=>I.freeC y a (c.clo e),λp hp=>absurd (show p∈([]:`O) from hp) `s,I.hok.kept keep,?_⟩
 .by_cases hi:i < `x
  .rw[List.getElem?_append_left (by simpa using hi)] at e2;simp[List.getElem?_map] at e2
  .have e1:(xs++fx)[i]?=some y:=e1;rw[List.getElem?_append_right `l] at e1;rw[List.getElem?_append_right (by simp;lia),length_map] at e2;obtain⟨i0,k1,k2,k3,k4,k5⟩:=c.F.at (Z:=Z) _ y v e1 e2;obtain⟨m0,dl,ad⟩:=I.loc;obtain⟨u,r,l⟩:=ad i0 y v k1 k2 (.inr (.inl k3));refine⟨u,r,?_⟩;rcases l with⟨z,_⟩|⟨_,a,e,o,ho,hd⟩
   .rw[k3] at z;cases z
   .exact .inr ⟨.inl k4,a,k5.trans e,o,keep a o ho,hd⟩
 .obtain⟨v,o,ho,hd⟩:=I.cell y a (c.clo e);exact⟨v,o,keep a o ho,hd⟩
 .show (xs.map (λ_=>none)++frV Z fr).length=(xs++fx).length;simp[frV,c.F.len]
end
def CompG (J:It)(p:Addr)(g:TG)(k:Nat)(fv:St)(tt:TT)(te:TE)(Q:VK)(H1:Hp):Prop:=
 ∃W:Nat->Nat->`V->Hp->Prop,(∃m,W 0 m [] (upd H1 p (.lst [])))/\∀i m ys H2,W i m ys H2->H2 p=some (.lst ys)/\
  ((J.stop i H2/\Q (.ref p) H2)\/(J.go i H2/\ys.length < sizeLine/\∀z H3,J.yld i H2 z H3->∀os:St,os.length=k->g z (os++fv) H3 λZ' H'=>∃os':St,os'.length=k/\Z'=os'++fv/\tt Z' H' λb H4=>
   if b=true then te Z' H4 λy H5=>H5 p=some (.lst ys)/\∃m',m' < m/\W (i+1) m' (ys++[y]) (upd H5 p (.lst (ys++[y])))
   else ∃m',m' < m/\W (i+1) m' ys H4))
section
variable {C:It->Addr->St->TT->TE->VK->Hp->Prop}{X:Cx}{tg elt iter:Expr}{pos:Pos}{ifs:List Expr}{scope:Scope}{cl:List (Str×Addr)}{xs fx:List Str}{fr:Tq}{wi:TI}{tt:TT}{te:TE}{g:TG}
theorem DK {pins:`O}{Z:St}{H3:Hp}{s3:Shared}{it p:Addr}{fp:List Addr}{tn:Nat->Heap->Prop}{J:It}{Q:VK}{W:Nat->Nat->`V->Hp->Prop}{m0 t:Nat}{h₁:Heap}{m:Str->Option Value}{RR:Result->Shared->Prop}
  (c:CpOk X xs fx fr scope cl iter) (hg:∀s H fp,PG (compCx X (xs++fx) scope cl s H fp) tg g) (ht:∀s H fp,PF (compCx X (xs++fx) scope cl s H fp) ifs tt) (he:∀s H fp,PE (compCx X (xs++fx) scope cl s H fp) elt te)
  (I3:Inv X pins Z H3 s3) (T:Turn X.prog X.w X.K tg J fp it tn) (st3:tn 0 s3.heap) (ffp:∀b∈fp,FpOk X pins H3 b) (flt3:∀b∈fp,b < s3.heap.objs.size)
  (w0:W 0 m0 [] H3) (turn:∀i m ys H2,W i m ys H2->H2 p=some (.lst ys)/\
   ((J.stop i H2/\Q (.ref p) H2)\/(J.go i H2/\ys.length < sizeLine/\∀z H3,J.yld i H2 z H3->∀os:St,os.length=`x->g z (os++frV Z fr) H3 λZ' H'=>∃os':St,os'.length=`x/\Z'=os'++frV Z fr/\tt Z' H' λb H4=>
    if b=true then te Z' H4 λy H5=>H5 p=some (.lst ys)/\∃m',m' < m/\W (i+1) m' (ys++[y]) (upd H5 p (.lst (ys++[y])))
    else ∃m',m' < m/\W (i+1) m' ys H4)))
  (hns:h₁.Ns s3.heap.objs.size m) (keep1:∀b u,s3.heap.get? b=some u->h₁.get? b=some u)
  (fin:∀s6 H5 Z',Inv (compCx X (xs++fx) scope cl s3 H3 fp) [] Z' H5 s6->Q (.ref p) H5->RR (.ok .next) s6) :
  codeAny `m X.A (.compStart (.ListComp elt [⟨tg,iter,ifs,0⟩] scope pos) 0 (.ref it) (.ref p) (compEnvC scope cl s3.heap.objs.size X.env)) RR {s3 with heap:=h₁,toks:=t}:=by
 have I4:=DJ (t:=t) c I3 ffp flt3 hns keep1;have HA:tn 0 h₁:=T.keep _ _ _ st3 λb hb o e=>keep1 b o e;have HK:∀b∈fp,H3 b=none:=λb hb=>(ffp b hb).1;have BT:(compCx X (xs++fx) scope cl s3 H3 fp).calm=true:=c.hc;have dl:∀{H':Hp},(∀b∈fp,H' b=none)->∀b∈fp,FpOk (compCx X (xs++fx) scope cl s3 H3 fp) [] H' b:=λ{H'} hn b hb=>by obtain⟨f0,f1,f2,f3,f4,f5⟩:=ffp b hb;exact⟨hn b hb,Nat.ne_of_lt (flt3 b hb),I4.ok.exfs b hb,.inl hb,λy a e=>f4 y a (c.clo e),λq hq=>absurd (show q∈([]:`O) from hq) `s⟩
 have mt:codeAny `m X.A (.compLoop (.ListComp elt [⟨tg,iter,ifs,0⟩] scope pos) 0 (.ref it) (.ref p) (compEnvC scope cl s3.heap.objs.size X.env)) RR {s3 with heap:=h₁,toks:=t}:=by
  refine zL (λn s'=>∃i ys H' os,os.length=`x/\Inv (compCx X (xs++fx) scope cl s3 H3 fp) [] (os++frV Z fr) H' s'/\tn i s'.heap/\(∀b∈fp,H' b=none)/\W i n ys H') ?_ m0 ⟨0,[],_,_,length_map _,I4,HA,HK,w0⟩;rintro n s5 ⟨i,ys,H5,os,ho,I5,GT,HC,w5⟩;obtain⟨HP,HM⟩:=turn i n ys H5 w5;rcases HM with⟨stop,qn⟩|⟨go,GE,step⟩
  .refine thn (T.done (compCx X (xs++fx) scope cl s3 H3 fp) rfl rfl rfl BT i [] s5 _ H5 _ I5 (dl HC) GT stop) λr s6 W'=>?_;obtain⟨hr,I6⟩:=W';subst hr;exact fin s6 H5 _ I6 qn
  .refine thn (T.item (compCx X (xs++fx) scope cl s3 H3 fp) rfl rfl rfl BT i [] s5 _ H5 _ I5 (dl HC) GT go) λr s6 W'=>?_;obtain⟨u,hr,h6⟩:=W';subst hr;refine thn h6 λ_ s7 W'=>?_;obtain⟨y7,H7,I7,r7,HD,Fn,HJ⟩:=W';have I7':=I7.pinned (dl HJ) (T.obj _ _ Fn);have ad:∀{Z':St}{H':Hp}{s':Shared},Inv (compCx X (xs++fx) scope cl s3 H3 fp) ([]++pinsAt fp s7.heap) Z' H' s'->tn (i+1) s'.heap/\∀b∈fp,H' b=none:=λ{Z' H' s'} I'=>by
    refine⟨T.keep _ _ _ Fn λb hb o e=>(I'.pin (b,o) (mem_append_right _ (mem_append_right _ (gO hb e)))).1,λb hb=>?_⟩;obtain⟨o,e,d⟩:=T.obj _ _ Fn b hb;exact (I'.pin (b,o) (mem_append_right _ (mem_append_right _ (gO hb e)))).2.1
   refine thn (hg s3 H3 fp _ s7 _ H7 y7 u _ I7' r7 (step y7 _ HD os ho)) λ_ s8 W'=>?_;obtain⟨Z8,H8,I8,os',HB,e8,q8⟩:=W';subst e8;refine thn (ht s3 H3 fp _ s8 _ _ _ I8 q8) λb s9 W'=>?_;obtain⟨H9,I9,q9⟩:=W';cases b with
   |false=>rw[if_neg Bool.false_ne_true] at q9 ⊢;obtain⟨m',hm,w9⟩:=q9;exact⟨m',hm,i+1,ys,H9,os',HB,I9.unpinned,(ad I9).1,(ad I9).2,w9⟩
   |true=>rw[if_pos rfl] at q9 ⊢;refine thn (he s3 H3 fp _ s9 _ H9 _ I9 q9) λHF HG W'=>?_;obtain⟨Cl,H10,I10,HI,Fr,m',hm,HE⟩:=W';refine thn (dL _ HG _ H10 (.ref p) [Cl] (.ref p) [HF] (λ_ H'=>H'=upd H10 p (.lst (ys++[Cl]))) I10 rfl (.cons HI .nil) ⟨p,ys,Cl,rfl,rfl,Fr,GE,rfl⟩) λ_ HN W'=>?_;obtain⟨_,H11,I11,_,HL⟩:=W';subst HL;exact⟨m',hm,i+1,ys++[Cl],_,os',HB,I11.unpinned,(ad I11).1,(ad I11).2,HE⟩
 exact codeAny_compStart_list mt (T.self _ 0 _ _ _ HA mt)
theorem qP {use:Option (Value->Sem Unit)}{pins:`O}{Z:St}{H:Hp}{s:Shared}{Q:VK}{R:`T}{q:Pos}
  (c:CpOk X xs fx fr scope cl iter) (hi:PI X tg iter wi) (hg:∀s H fp,PG (compCx X (xs++fx) scope cl s H fp) tg g) (ht:∀s H fp,PF (compCx X (xs++fx) scope cl s H fp) ifs tt) (he:∀s H fp,PE (compCx X (xs++fx) scope cl s H fp) elt te)
  (hC:∀{J p fv Q H1},C J p fv tt te Q H1->CompG J p g `x fv tt te Q H1) (I:Inv X pins Z H s) (h:wi Z H λJ H1=>∀p,H1 p=none->C J p (frV Z fr) tt te Q H1)
  (fin:∀(p:Addr) (s3:Shared) (H3:Hp) (fp:List Addr) (s6:Shared) (H5:Hp) (Z':St),Inv X pins Z H3 s3->(∀b∈fp,FpOk X pins H3 b)->Inv (compCx X (xs++fx) scope cl s3 H3 fp) [] Z' H5 s6->Q (.ref p) H5 ->
   compPost `m X.A X.xe use R (.ref p) s3.heap.objs.size (.ok .next) s6) :
  wpAny `m X.A (comprehension (.ListComp elt [⟨tg,iter,ifs,0⟩] scope pos) scope X.env q (newList []) false (eval iter X.env) use) R X.xe s:=by
 refine wpAny_comprehension_free rfl c.hs c.hclos c.hkind c.hnames ?_;refine thn (hi pins s Z H _ I h) λv s1 h1=>thn h1 λHB s2 h2=>?_;obtain⟨it,fp,tn,J,H2,e,I2,T,Fr,f2,q2⟩:=h2;subst e;obtain⟨W,⟨m0,w0⟩,Cl⟩:=hC (q2 _ (I2.hok.fresh `n));have flt:∀b∈fp,b < s2.heap.objs.size:=λb hb=>by obtain⟨o,e,_⟩:=T.obj _ _ Fr b hb;exact Heap.lt_size e
 refine wpAny_newObj_type (wpAny_newFunctionEnv c.hcell (by intro y hy;simp at hy) (λh₁ dl ad=>?_) c.hkind);dsimp only at dl ad ⊢;obtain⟨HH,BT⟩:∃HH,HH=s2.heap.push {cls:=.type "list",dict:=none,data:=.seq ([]:List Value).toArray}:=`o;have mt:∀b u,s2.heap.get? b=some u->HH.get? b=some u:=λb u e=>BT▸Heap.get?_push_of_some _ e;have Fn:HH.get? s2.heap.objs.size=some {cls:=.type "list",dict:=none,data:=.seq ([]:List Value).toArray}:=BT▸Heap.get?_push_size _ rfl;have GT:HH.objs.size=s2.heap.objs.size+1:=BT▸Heap.size_push _ _;rw[<- BT] at dl ad ⊢;have I3:Inv X pins Z (upd H2 s2.heap.objs.size (.lst [])) {s2 with heap:=HH,toks:=s2.toks}:=
  I2.laid (t':=s2.toks) (o:=.lst []) mt `n ⟨Nat.zero_le _,[],0,.nil,Fn⟩
 have GE:∀b∈fp,FpOk X pins (upd H2 s2.heap.objs.size (.lst [])) b:=λb hb=>by obtain⟨f0,HA⟩:=f2 b hb;exact⟨by rw[aD (Nat.ne_of_lt (flt b hb))];exact f0,HA⟩
 exact DK (s3:={ s2 with heap:=HH,toks:=s2.toks}) c hg ht he I3 T (T.keep _ _ _ Fr λb hb o e=>mt b o e) GE (λb hb=>by show b < HH.objs.size;rw[GT];exact Nat.lt_succ_of_lt (flt b hb)) w0 Cl dl
  (λb u e=>ad.extBut b u (Nat.ne_of_lt (Heap.lt_size e)) (Heap.get?_push_of_some _ e)) λs6 H5 Z' I6 qn=>fin _ _ _ fp s6 H5 Z' I3 GE I6 qn
theorem qQ (c:CpOk X xs fx fr scope cl iter)(hi:PI X tg iter wi)(hg:∀s H fp,PG (compCx X (xs++fx) scope cl s H fp) tg g)(ht:∀s H fp,PF (compCx X (xs++fx) scope cl s H fp) ifs tt)(he:∀s H fp,PE (compCx X (xs++fx) scope cl s H fp) elt te)
  (hC:∀{J p fv Q H1},C J p fv tt te Q H1->CompG J p g `x fv tt te Q H1) :
  PE X (.ListComp elt [⟨tg,iter,ifs,0⟩] scope pos) λZ H Q=>wi Z H λJ H1=>∀p,H1 p=none->C J p (frV Z fr) tt te Q H1:=by
 intro pins s Z H Q I h;rw[eval_ListComp];exact qP c hi hg ht he hC I h λp s3 H3 fp s6 H5 Z' I3 ffp I6 qn=>by obtain⟨m,hn6,_⟩:=id I6.loc;exact⟨m,hn6,λh' sb=>⟨.ref _,H5,my I3 I6 ffp sb,rfl,qn⟩⟩
theorem qR {i:Nat}{y:Str}{py spos:Pos}(hN:X.N.Nodup)(hiN:X.N[i]?=some y)(hy:X.env.scope.names.lookup y=some .local)
  (c:CpOk X xs fx fr scope cl iter) (hi:PI X tg iter wi) (hg:∀s H fp,PG (compCx X (xs++fx) scope cl s H fp) tg g) (ht:∀s H fp,PF (compCx X (xs++fx) scope cl s H fp) ifs tt) (he:∀s H fp,PE (compCx X (xs++fx) scope cl s H fp) elt te)
  (hC:∀{J p fv Q H1},C J p fv tt te Q H1->CompG J p g `x fv tt te Q H1) (hsw:swapsWith (.ListComp elt [⟨tg,iter,ifs,0⟩] scope pos) (some (.Name y py)) spos.line X.env=pure true) :
  PS X (.Assign [.Name y py] (.ListComp elt [⟨tg,iter,ifs,0⟩] scope pos) spos) (tAsg (λZ H Q=>wi Z H λJ H1=>∀p,H1 p=none->C J p (frV Z fr) tt te Q H1) (gName i)):=by
 intro ad s Z H D I h;rw[exec_Assign_Name_used _ _ _ _ hsw];refine wpAny_bind (wpAny_standAt (wpAny_bind ?_));show wpAny _ X.A (do let _ <- comprehension (.ListComp elt [⟨tg,iter,ifs,0⟩] scope pos) scope X.env _ (newList []) false (eval iter X.env) (some (assign (.Name y py) X.env))) _ _ s;refine wpAny_bind (wpAny_mono (qP (R:=λ_ s'=>SP X ad D .next s') c hi hg ht he hC I h λp s3 H3 fp s6 H5 Z' I3 Fn I6 qn=>?_) (λ_ s' hq=>wpAny_pure (wpAny_pure hq)) λ_ _ e=>e);have nC:H5 s3.heap.objs.size=none:=I6.free;have I7:Inv X ad Z H5 s6:=my (h':=s6.heap) I3 I6 Fn ⟨rfl,λ_ _=>rfl⟩;obtain⟨f0,f1,f2,f3,f4,f5⟩:=I3.fpOk (H':=H5) (b:=s3.heap.objs.size) `n nC;obtain⟨m,Cl,_⟩:=id I6.loc;show wpAny _ X.A (assign (.Name y py) X.env (.ref _)) _ _ s6;refine wpAny_assign_Name (lr I7 hN hiN (.inl hy) (v:=.ref _) rfl (λs8 I8 dl=>?_) (.inr hy));obtain⟨a,sb,ha⟩:=dl;have BT:s3.heap.objs.size≠a:=by
  rcases ha with rfl|ha
  .exact f1
  .exact λz=>f4 y a ha z.symm
 refine⟨m,Cl.sameBut sb BT,λh' mt=>?_⟩;exact⟨_,H5,I8.turned (t':=s8.toks) (it:=s3.heap.objs.size) (λb o hb e=>mt.extBut b o hb e) f0 f1 f3 f4 f5,qn⟩
end
theorem CompI.g {J:It}{p:Addr}{fv:St}{tt:TT}{te:TE}{Q:VK}{H1:Hp}(h:CompI J p fv tt te Q H1):CompG J p (gName 0) 1 fv tt te Q H1:=by obtain⟨W,h0,h⟩:=h;refine⟨W,h0,λi m ys H2 hw=>⟨(h i m ys H2 hw).1,(h i m ys H2 hw).2.imp_right λ⟨a,b,k⟩=>⟨a,b,λz H3 y os ho=>?_⟩⟩⟩;obtain⟨o,rfl⟩:=List.length_eq_one_iff.mp ho;exact⟨[some z],rfl,rfl,k z H3 y⟩
section
variable {X:Cx}{elt iter:Expr}{x y:Str}{px py pos spos:Pos}{ifs:List Expr}{scope:Scope}{cl:List (Str×Addr)}{fx:List Str}{fr:Tq}{wi:TI}{tt:TT}{te:TE}
theorem qS (c:CpOk X [x] fx fr scope cl iter)(s:Shared)(H:Hp)(fp:List Addr):PG (compCx X ([x]++fx) scope cl s H fp) (.Name x px) (gName 0):=
 have h:(relabel scope X.env).names.lookup x=some .local:=lookup_relabel_local (c.hx x (.head _))
 ee (i:=0) c.hnd rfl (.inl h) (.inr h)
theorem cmp1 (fx:List Str)(fr:Tq)(hi:PI X (.Name x px) iter wi)(ht:∀{s H fp},PF (compCx X ([x]++fx) scope cl s H fp) ifs tt)(he:∀{s H fp},PE (compCx X ([x]++fx) scope cl s H fp) elt te)
  (c:CpOk X [x] fx fr scope cl iter:=by exact⟨rfl,rfl,`k,rfl,`k,`k,`k,rfl,by repeat' first|exact .nil|refine .cons rfl rfl rfl rfl ?_,rfl,λ_=>rfl⟩):PE X (.ListComp elt [⟨.Name x px,iter,ifs,0⟩] scope pos) (tComp wi fr tt te):=qQ c hi (qS c) (λ_ _ _=>ht) (λ_ _ _=>he) λh=>h.g
theorem cmpS (fx:List Str)(fr:Tq)(i:Nat)(hN:X.N.Nodup)(hi:PI X (.Name x px) iter wi)(ht:∀{s H fp},PF (compCx X ([x]++fx) scope cl s H fp) ifs tt)(he:∀{s H fp},PE (compCx X ([x]++fx) scope cl s H fp) elt te)
  (hiN:X.N[i]?=some y:=by rfl) (hy:X.env.scope.names.lookup y=some .local:=by rfl) (c:CpOk X [x] fx fr scope cl iter:=by exact⟨rfl,rfl,`k,rfl,`k,`k,`k,rfl,by repeat' first|exact .nil|refine .cons rfl rfl rfl rfl ?_,rfl,λ_=>rfl⟩) (hsw:swapsWith (.ListComp elt [⟨.Name x px,iter,ifs,0⟩] scope pos) (some (.Name y py)) spos.line X.env=pure true:=by rfl) :
  PS X (.Assign [.Name y py] (.ListComp elt [⟨.Name x px,iter,ifs,0⟩] scope pos) spos) (tAsg (tComp wi fr tt te) (gName i)):=qR hN hiN hy c hi (qS c) (λ_ _ _=>ht) (λ_ _ _=>he) (λh=>h.g) hsw
end
theorem CompI2.g {K:`F}{J:It}{p:Addr}{fv:St}{tt:TT}{te:TE}{Q:VK}{H1:Hp}(h:CompI2 K J p fv tt te Q H1):CompG J p (gTup K 2 (gCons (gName 0) (gCons (gName 1) gNil))) 2 fv tt te Q H1:=by obtain⟨W,h0,h⟩:=h;refine⟨W,h0,λi m ys H2 hw=>⟨(h i m ys H2 hw).1,(h i m ys H2 hw).2.imp_right λ⟨a,b,k⟩=>⟨a,b,λz H3 y os ho=>?_⟩⟩⟩;obtain⟨o,l,rfl⟩:=List.exists_cons_of_length_eq_add_one ho;obtain⟨o2,rfl⟩:=List.length_eq_one_iff.mp (Nat.succ.inj ho);obtain⟨a,u,v,rfl,q,k⟩:=k z H3 y;exact⟨a,[u,v],rfl,q,rfl,u,[v],rfl,v,[],rfl,rfl,[some u,some v],rfl,rfl,k⟩
section
variable {X:Cx}{K:`F}{elt iter:Expr}{x x2 y:Str}{px px2 ptx py pos spos:Pos}{kx:Nat}{ifs:List Expr}{scope:Scope}{cl:List (Str×Addr)}{fx:List Str}{fr:Tq}{wi:TI}{tt:TT}{te:TE}
theorem qU (h:X.K=K)(c:CpOk X [x,x2] fx fr scope cl iter)(s:Shared)(H:Hp)(fp:List Addr):PG (compCx X ([x,x2]++fx) scope cl s H fp) (.Tuple [.Name x px,.Name x2 px2] kx ptx) (gTup K 2 (gCons (gName 0) (gCons (gName 1) gNil))):=
 have a:(relabel scope X.env).names.lookup x=some .local:=lookup_relabel_local (c.hx x (.head _));have b:(relabel scope X.env).names.lookup x2=some .local:=lookup_relabel_local (c.hx x2 (.tail _ (.head _)))
 h▸m5 c.hc (cW (ee (i:=0) c.hnd rfl (.inl a) (.inr a)) (cW (ee (i:=1) c.hnd rfl (.inl b) (.inr b)) gN))
theorem cmp2 (K:`F)(fx:List Str)(fr:Tq)(hi:PI X (.Tuple [.Name x px,.Name x2 px2] kx ptx) iter wi)(ht:∀{s H fp},PF (compCx X ([x,x2]++fx) scope cl s H fp) ifs tt)(he:∀{s H fp},PE (compCx X ([x,x2]++fx) scope cl s H fp) elt te)
  (h:X.K=K:=by rfl) (c:CpOk X [x,x2] fx fr scope cl iter:=by exact⟨rfl,rfl,`k,rfl,`k,`k,`k,rfl,by repeat' first|exact .nil|refine .cons rfl rfl rfl rfl ?_,rfl,λ_=>rfl⟩):PE X (.ListComp elt [⟨.Tuple [.Name x px,.Name x2 px2] kx ptx,iter,ifs,0⟩] scope pos) (tComp2 K wi fr tt te):=qQ c hi (qU h c) (λ_ _ _=>ht) (λ_ _ _=>he) λh=>h.g
theorem cmpS2 (K:`F)(fx:List Str)(fr:Tq)(i:Nat)(hN:X.N.Nodup)(hi:PI X (.Tuple [.Name x px,.Name x2 px2] kx ptx) iter wi)(ht:∀{s H fp},PF (compCx X ([x,x2]++fx) scope cl s H fp) ifs tt)(he:∀{s H fp},PE (compCx X ([x,x2]++fx) scope cl s H fp) elt te)
  (hiN:X.N[i]?=some y:=by rfl) (hy:X.env.scope.names.lookup y=some .local:=by rfl) (h:X.K=K:=by rfl) (c:CpOk X [x,x2] fx fr scope cl iter:=by exact⟨rfl,rfl,`k,rfl,`k,`k,`k,rfl,by repeat' first|exact .nil|refine .cons rfl rfl rfl rfl ?_,rfl,λ_=>rfl⟩) (hsw:swapsWith (.ListComp elt [⟨.Tuple [.Name x px,.Name x2 px2] kx ptx,iter,ifs,0⟩] scope pos) (some (.Name y py)) spos.line X.env=pure true:=by rfl) :
  PS X (.Assign [.Name y py] (.ListComp elt [⟨.Tuple [.Name x px,.Name x2 px2] kx ptx,iter,ifs,0⟩] scope pos) spos) (tAsg (tComp2 K wi fr tt te) (gName i)):=qR hN hiN hy c hi (qU h c) (λ_ _ _=>ht) (λ_ _ _=>he) (λh=>h.g) hsw
end
section
variable {X:Cx}{a b e:Expr}{ta tb te:TE}{pos pos':Pos}
theorem px (K:`F)(ha:PE X a ta)(hb:PE X b tb)(h:X.K=K:=by rfl)(hs:PlainIx b:=by exact λ_ _=>rfl):PE X (.Subscript a b pos) (tOp (rIy K) ta tb):=mX (mz h) ha hb hs
theorem sx {x:Str}(i:Nat)(hN:X.N.Nodup)(he:PE X e te)(hi:X.N[i]?=some x:=by rfl)(hx:Loc X.env.scope x:=by exact .inl rfl)(hs:swapsWith e (some (.Name x pos')) pos.line X.env=pure false:=by rfl)(hf:X.fn x=true\/X.env.scope.names.lookup x=some .local:=by first|exact .inl rfl|exact .inr rfl) :
  PS X (.Assign [.Name x pos'] e pos) (tAsg te (gName i)):=m6 hN hi hx he hs hf
theorem pcm {op:CmpOp}{r:R2}(ho:OpR X (compareOp op) r)(ha:PE X a ta)(hb:PE X b tb)(hm:behindInMarks op b=false:=by exact nomark _):PE X (.Compare a [op] [b] pos) (tOp r ta tb):=el ho ha hb hm
theorem ptm {op:CmpOp}{r:R2}(ho:OpR X (compareOp op) r)(ha:PE X a ta)(hb:PE X b tb)(hm:behindInMarks op b=false:=by exact nomark _):PT X (.Compare a [op] [b] pos) (tTest (tOp r ta tb)):=cH ho ha hb hm
theorem pgn {x:Str}(i:Nat)(hN:X.N.Nodup)(hi:X.N[i]?=some x:=by rfl)(hx:Loc X.env.scope x:=by exact .inl rfl)(hf:X.fn x=true\/X.env.scope.names.lookup x=some .local:=by first|exact .inl rfl|exact .inr rfl):PG X (.Name x pos) (gName i):=ee hN hi hx hf
end
end L2
namespace L2
open PySem
theorem lnT {A B C:Prop}(f:A->B->C)(b:B)(a:A:=by intro _ _ _ _ h;cases h;subst_vars;rfl):C:=f a b
end L2
namespace L2
open PySem PySem.Spec PyProof.Rows PyProof.V
section
variable {X:Cx}
def rNiT (p:Addr)(D:List (PyData×PyData)):R2:=λx y H Q=>y=.ref p/\∃k:Str,x=.str k/\Q (.bl (!(lookup (.str k) D).isSome)) H
theorem DL {p:Addr}{D:List (PyData×PyData)}(T:∀h:Heap,X.K.In h->StrTab X.prog X.w h p D):OpR X (compareOp .NotIn) (rNiT p D):=by intro pins s Z H x y v u Q I rx ry h;obtain⟨rfl,k,rfl,q⟩:=h;obtain⟨t,rfl⟩:=rx;obtain rfl:u=Value.ref p:=ry;exact notin_strTab (T _ I.kIn) ⟨.bl (!(lookup (.str k) D).isSome),H,I.tok _,rfl,q⟩
theorem valsF:∀(l:List Str) (n:Nat),Vals (l.map V.str) (strsFrom n l)
 |[],_=>.nil
 |z::l,n=>.cons ⟨n,rfl⟩ (valsF l (n+1))
def rSplit2:V->`V->Hp->VK->Prop:=λx vs H Q=>∃(z:Str) (c k:Nat),x=.str z/\vs=[.str ⟨#[c]⟩,.int (k:Int)]/\z.length<=100000/\k < 100/\∀p,H p=none->Q (.ref p) (upd H p (.lst ((Txt.splitMax z ⟨#[c]⟩ k).map V.str)))
theorem DM:MtR X "str.split" rSplit2:=by
 intro dl s Z H x vs v us Q I rx rv h;obtain⟨z,c,k,rfl,rfl,hz,hk,q⟩:=h;obtain⟨t,rfl⟩:=rx;obtain⟨t',t3,rfl⟩:∃t' t3,us=[.str ⟨#[c]⟩ t',.int (k:Int) t3]:=by
  cases rv with
  |cons r1 rv=>cases rv with
   |cons r2 rv=>cases rv;obtain⟨t',rfl⟩:=r1;obtain⟨t3,rfl⟩:=r2;exact⟨t',t3,rfl⟩
 have hf:H `z=none:=I.hok.fresh `n;have q:=q _ hf;have mt:z.length<=sizeLine:=Nat.le_trans hz `d;have ad:(decide ((k:Int) < -(2 ^ 63:Int)) || decide ((k:Int) ≥ 2 ^ 63))=false:=by rw[decide_eq_false `l,decide_eq_false `l];rfl
 have hn:(Builtin.Str.partsBetween z (Builtin.Str.occurrences z ⟨#[c]⟩ 0 z.length (limitOf z k)) (⟨#[c]⟩:Str).length).length<=sizeLine:=by have e1:=StrLaws.occ_length_le_len z ⟨#[c]⟩ 0 z.length (limitOf z k);rw[length_partsBetween];exact Nat.le_trans (show _<=100010 by lia) `d
 unfold Txt.splitMax at q;cases h1:(decide (z.length < (⟨#[c]⟩:Str).length) || decide (Builtin.Str.strKind z < Builtin.Str.strKind ⟨#[c]⟩)) with
 |true=>rw[if_pos h1] at q;refine call_meets F.slot_str_split (typeIs_str _ _ _) F.entry_str_split (F.args_str_split_3 _ _ _) (meets_str_split_max_cannot_occur z ⟨#[c]⟩ k t t' t3 ad h1) ?_;refine⟨.ref `z,_,I.laid (t':=s.toks) (o:=.lst [.str z]) (λb u e=>Heap.get?_push_of_some _ e) `n ?_,rfl,q⟩;exact⟨by show 1<=sizeLine;decide,[.str z t],0,.cons `o .nil,Heap.get?_push_size _ rfl⟩
 |false=>
  rw[if_neg (by rw[h1];decide)] at q;cases h2:(Builtin.Str.occurrences z ⟨#[c]⟩ 0 z.length (limitOf z k)).isEmpty with
  |true=>rw[if_pos h2] at q;refine call_meets F.slot_str_split (typeIs_str _ _ _) F.entry_str_split (F.args_str_split_3 _ _ _) (meets_str_split_max_not_found z ⟨#[c]⟩ k t t' t3 ad h1 rfl h2) ?_;refine⟨.ref `z,_,I.laid (t':=s.toks) (o:=.lst [.str z]) (λb u e=>Heap.get?_push_of_some _ e) `n ?_,rfl,q⟩;exact⟨by show 1<=sizeLine;decide,[.str z t],0,.cons `o .nil,Heap.get?_push_size _ rfl⟩
  |false=>rw[if_neg (by rw[h2];decide)] at q;refine call_meets F.slot_str_split (typeIs_str _ _ _) F.entry_str_split (F.args_str_split_3 _ _ _) (meets_str_split_sep_max z ⟨#[c]⟩ k t t' t3 ad h1 rfl h2 mt hn) ?_;refine⟨.ref `z,_,I.laid (o:=.lst _) (λb u e=>Heap.get?_push_of_some _ e) `n ?_,rfl,q⟩;exact⟨by rw[length_map];exact hn,_,0,valsF _ _,Heap.get?_push_size _ rfl⟩
end
theorem DN {z:Str}{c k:Nat}{H:Hp}{Q:VK}:rSplit2 (.str z) [.str ⟨#[c]⟩,.int (k:Int)] H Q↔z.length<=100000/\k < 100/\∀p,H p=none->Q (.ref p) (upd H p (.lst ((Txt.splitMax z ⟨#[c]⟩ k).map V.str))):=by
 constructor
 .rintro⟨z',c',k',e1,e2,h⟩;cases e1;injection e2 with e2 e3;injection e3 with e3 _;cases e2;injection e3 with e3;obtain rfl:=Int.ofNat.inj e3;exact h
 .exact λh=>⟨z,c,k,rfl,rfl,h⟩
end L2
namespace Wm
open PySem L2
theorem DO {a b:Tq}{c:Nat}(h:c∉a)(h2:c < 256):Txt.splitMax (mkS (a++c::b)) (mkS [c]) 1=[mkS a,mkS b]:=by
 have e:(List.range' 0 ((a++c::b).length+1)).find? (λi=>decide ((a++c::b)[i]?=some c))=some a.length:=by
  rw[List.find?_range'_eq_some];refine⟨decide_eq_true `s,?_,λj _ hj=>?_⟩
  .rw[mem_range'_1];simp only[length_append,length_cons];lia
  .rw[decide_eq_false λz=>?_]
   .rfl
   .rw[List.getElem?_append_left hj] at z;exact h (mem_of_getElem? z)
 have eo:Builtin.Str.occurrences (mkS (a++c::b)) (mkS [c]) 0 (mkS (a++c::b)).length (limitOf (mkS (a++c::b)) 1)=[a.length]:=by rw[show limitOf (mkS (a++c::b)) 1=1 from rfl,kO,e];rfl
 unfold Txt.splitMax;rw[eo,if_neg,if_neg (by intro z;cases z)]
 .show [Builtin.Str.strSub (mkS (a++c::b)) 0 a.length,Builtin.Str.strSub (mkS (a++c::b)) (a.length+(mkS [c]).length) (mkS (a++c::b)).length]=_;rw[aN,aN];refine congr (congrArg _ ?_) (congr (congrArg _ ?_) rfl)
  .show (⟨(a++c::b).toArray.extract 0 a.length⟩:Str)=_;simp
  .show (⟨(a++c::b).toArray.extract (a.length+1) (a++c::b).length⟩:Str)=_;simp;exact take_of_length_le `l
 .rw[aN,aN,decide_eq_false `s,Bool.false_or];intro z;have k1:Builtin.Str.strKind (mkS [c])=1:=by
   unfold Builtin.Str.strKind;rw[if_pos (by simp[h2])]
  rw[k1] at z;have:=of_decide_eq_true z;unfold Builtin.Str.strKind at this;split at this
  .lia
  .split at this <;> lia
section
variable {K:`F}{H H':Hp}{C p:Addr}{x y:Ad}
theorem DP {dx a:Addr}{fs:List (Str×V)}{xs:`V}(s:SameBut p H H')(hp:H p=some (.ins C dx fs))(h:SqT K H a xs):SqT K H' a xs:=by
 rcases h with (h|⟨o,h⟩)|h
 .exact .inl (.inl (s _ _ (bU h hp (by intro z;cases z)) h))
 .exact .inl (.inr ⟨o,s _ _ (bU h hp (by intro z;cases z)) h⟩)
 .exact .inr h
mutual
theorem IsK.but {dx:Addr}{fs:List (Str×V)}(s:SameBut p H H')(hp:H p=some (.ins C dx fs)):∀{d:PyData}{v:V},IsK K H d v->IsK K H' d v
 |_,_,.non=>.non
 |_,_,.bl b=>.bl b
 |_,_,.int i=>.int i
 |_,_,.str x=>.str x
 |_,_,.tup h r=>.tup (DP s hp h) (IsKAll.but s hp r)
theorem IsKAll.but {dx:Addr}{fs:List (Str×V)}(s:SameBut p H H')(hp:H p=some (.ins C dx fs)):∀{ds:List PyData}{xs:`V},IsKAll K H ds xs->IsKAll K H' ds xs
 |_,_,.nil=>.nil
 |_,_,.cons h r=>.cons (IsK.but s hp h) (IsKAll.but s hp r)
end
theorem DQ {dx:Addr}{o o':HO}(nd:H dx=none):SameBut p H (upd (upd H dx o') p o):=λb _ n e=>by rw[aD n,aD (aJ e nd)];exact e
theorem Same.free (s:Same H H')(h:H' p=none):H p=none:=by
 cases e:H p with
 |none=>rfl
 |some o=>rw[s _ _ e] at h;cases h
def Dsk (K:`F)(H:Hp)(C p:Addr)(x:Ad):Prop:=∃(dx:Addr) (v u:V),H p=some (.ins C dx [("address",v),("table",u)])/\IsK K H x.data v
theorem DR {v u:V}:List.lookup (ofString "address") [(ofString "address",v),(ofString "table",u)]=some v:=by rw[lookup_cons,beq_self_eq_true]
theorem qV {v u w:V}:putF (ofString "address") w [(ofString "address",v),(ofString "table",u)]=[(ofString "address",w),(ofString "table",u)]:=by simp only[putF,if_true]
theorem fb {R:V->Prop}(h:Dsk K H C p x)(cl:Cls K C)(n:NoAttr K C "address")(r:∀v,IsK K H x.data v->R v):FldE K (ofString "address") (.ref p) H R:=
 let ⟨dx,v,_,hp,hv⟩:=h
 ⟨p,C,dx,_,_,rfl,hp,cl,n,DR,r v hv⟩
theorem DS {dx:Addr}{v v' u:V}(hp:H p=some (.ins C dx [("address",v'),("table",u)]))(hv:IsK K H y.data v):Dsk K (upd H p (.ins C dx (putF (ofString "address") v [("address",v'),("table",u)]))) C p y:=
 ⟨dx,v,u,by rw[aE];exact congrArg (λz=>some (HO.ins C dx z)) qV,Wm.IsK.but b8 hp hv⟩
theorem az {R:Prop}{m:Str}(h:Dsk K H C p x)(r:R)(h1:(m == ofString "address")=false:=by fail "k")(h2:(m == ofString "table")=false:=by fail "k") :
  MeE C m (.ref p) H R:=
 let ⟨dx,_,_,hp,_⟩:=h
 ⟨p,dx,_,rfl,hp,by rw[lookup_cons,h1,lookup_cons,h2];rfl,r⟩
end
theorem occN (t:Tq)(c n:Nat):∀(m a:Nat) (acc:Array Nat) (free:Nat),free<=a ->
  (forIn (List.range' a m) (acc,free) (StrLaws.occBody (mkS t) (mkS [c]) (mkS t).length n)).run.fst.toList=acc.toList++((List.range' a m).filter λi=>decide (t[i]?=some c)).take (n - acc.size)
 |0,a,acc,free,_=>by simp
 |m+1,a,acc,free,hf=>by
  have e:=qF t c a;rw[List.range'_succ,forIn_cons,filter_cons,<- e];unfold StrLaws.occBody;by_cases h:(((acc.size < n/\free<=a)/\a+(mkS [c]).length<=(mkS t).length)/\Builtin.Str.subAt (mkS t) (mkS [c]) a=true)
  .rw[if_pos h,if_pos (by rw[decide_eq_true h.1.2,h.2];rfl)];show (forIn (List.range' (a+1) m) (acc.push a,a+(mkS [c]).length) (StrLaws.occBody (mkS t) (mkS [c]) (mkS t).length n)).run.fst.toList=_;rw[occN t c n m (a+1) (acc.push a) _ (by rw[aN];exact Nat.le_refl _),Array.size_push,Array.toList_push,append_assoc,show n - acc.size=n - (acc.size+1)+1 by have:=h.1.1.1;lia];rfl
  .rw[if_neg h];show (forIn (List.range' (a+1) m) (acc,free) (StrLaws.occBody (mkS t) (mkS [c]) (mkS t).length n)).run.fst.toList=_;rw[occN t c n m (a+1) acc free `l];by_cases hs:acc.size < n
   .rw[if_neg λz=>h ⟨⟨⟨hs,hf⟩,?_⟩,?_⟩]
    .exact of_decide_eq_true (by cases hd:decide (a+(mkS [c]).length<=(mkS t).length) <;> simp_all)
    .simp_all
   .rw[show n - acc.size=0 by lia,take_zero,take_zero]
theorem fc {t:Tq}{c:Nat}:∀(m a:Nat),(∀i,a<=i->i < a+m->t[i]?≠some c)->((List.range' a m).filter λi=>decide (t[i]?=some c))=[]
 |0,_,_=>rfl
 |m+1,a,h=>by rw[List.range'_succ,filter_cons,if_neg (by simpa using h a `n `l)];exact fc m (a+1) λi h1 h2=>h i `l `l
theorem DT {a b r:Tq}{c:Nat}(ha:c∉a)(hb:c∉b)(h2:c < 256):Txt.splitMax (mkS (a++c::(b++c::r))) (mkS [c]) 2=[mkS a,mkS b,mkS r]:=by
 generalize ht:a++c::(b++c::r)=t;have hl:`t=a.length+(b.length+(r.length+1)+1):=by rw[<- ht];simp
 have g1:∀i,i < a.length->t[i]?=a[i]?:=λi hi=>by rw[<- ht,List.getElem?_append_left hi]
 have g2:t[a.length]?=some c:=by rw[<- ht];simp
 have g3:∀i,i < b.length->t[a.length+1+i]?=b[i]?:=λi hi=>by rw[<- ht,List.getElem?_append_right `l,show a.length+1+i - a.length=i+1 by lia,List.getElem?_cons_succ,List.getElem?_append_left hi]
 have g4:t[a.length+1+b.length]?=some c:=by rw[<- ht,List.getElem?_append_right `l,show a.length+1+b.length - a.length=b.length+1 by lia,List.getElem?_cons_succ];simp
 have eo:Builtin.Str.occurrences (mkS t) (mkS [c]) 0 (mkS t).length (limitOf (mkS t) 2)=[a.length,a.length+1+b.length]:=by rw[show limitOf (mkS t) 2=2 from rfl,StrLaws.occ_eq,occN _ _ _ _ _ _ _ `n,aN];show ([]:Tq)++List.take (2 - 0) _=_;rw[show `t+1 - 0=a.length+(1+(b.length+(1+(r.length+1)))) by lia,List.range'_append_1.symm,List.range'_append_1.symm,List.range'_append_1.symm,List.range'_append_1.symm];rw[filter_append,filter_append,filter_append,filter_append,fc a.length 0 λi _ h=>by rw[g1 i `l];exact λz=>ha (mem_of_getElem? z)];rw[fc b.length _ λi h h'=>by obtain⟨j,rfl⟩:=Nat.le.dest h;rw[Nat.zero_add,g3 j `l];exact λz=>hb (mem_of_getElem? z)];rw[show List.range' (0+a.length) 1=[a.length] by simp,show List.range' (0+a.length+1+b.length) 1=[a.length+1+b.length] by simp,filter_cons,if_pos (decide_eq_true g2),filter_cons,if_pos (decide_eq_true g4)];rfl
 unfold Txt.splitMax;rw[eo,if_neg,if_neg (by intro z;cases z)]
 .show [Builtin.Str.strSub (mkS t) 0 a.length,Builtin.Str.strSub (mkS t) (a.length+(mkS [c]).length) (a.length+1+b.length),Builtin.Str.strSub (mkS t) (a.length+1+b.length+(mkS [c]).length) (mkS t).length]=_;rw[aN,aN];subst ht;refine congr (congrArg _ ?_) (congr (congrArg _ ?_) (congr (congrArg _ ?_) rfl))
  .show (⟨(a++c::(b++c::r)).toArray.extract 0 a.length⟩:Str)=_;simp
  .show (⟨(a++c::(b++c::r)).toArray.extract (a.length+1) (a.length+1+b.length)⟩:Str)=_;rw[List.extract_toArray,List.extract_eq_take_drop,show a++c::(b++c::r)=(a++[c])++(b++c::r) by simp,List.drop_left' `s];rw[show a.length+1+b.length - (a.length+1)=b.length by lia,List.take_left' rfl]
  .show (⟨(a++c::(b++c::r)).toArray.extract (a.length+1+b.length+1) (a++c::(b++c::r)).length⟩:Str)=_;rw[List.extract_toArray,List.extract_eq_take_drop,show a++c::(b++c::r)=(a++[c]++b++[c])++r by simp,List.drop_left' (by simp;lia),take_of_length_le (by simp;lia)]
 .rw[aN,aN,decide_eq_false (by rw[hl];simp),Bool.false_or];intro z;have k1:Builtin.Str.strKind (mkS [c])=1:=by
   unfold Builtin.Str.strKind;rw[if_pos (by simp[h2])]
  rw[k1] at z;have:=of_decide_eq_true z;unfold Builtin.Str.strKind at this;split at this
  .lia
  .split at this <;> lia
section
variable {K:`F}{H H':Hp}{C p:Addr}{x:Ad}{T:List Rw}
def DsT (K:`F)(H:Hp)(C p:Addr)(x:Ad)(T:List Rw)(l:Addr):Prop:=∃(dx:Addr) (v:V) (ws:`V),H p=some (.ins C dx [("address",v),("table",.ref l)])/\IsK K H x.data v/\H l=some (.lst ws)/\TbV H T ws
variable {l:Addr}
theorem DsT.dsk (h:DsT K H C p x T l):Dsk K H C p x:=let ⟨dx,v,_,e,hv,_⟩:=h;⟨dx,v,.ref l,e,hv⟩
theorem DsT.same (h:DsT K H C p x T l)(s:Same H H'):DsT K H' C p x T l:=let ⟨dx,v,ws,e,hv,hl,hT⟩:=h;⟨dx,v,ws,s _ _ e,hv.mono s,s _ _ hl,hT.mono s.toT⟩
theorem sb_T {q dx:Addr}{fs:List (Str×V)}(s:SameBut q H H')(h:H q=some (.ins C dx fs)):SameT H H':=λ_ _ e=>s _ _ (bU e h (by intro z;cases z)) e
theorem sb_l {q l dx:Addr}{fs:List (Str×V)}{ws:`V}(s:SameBut q H H')(h:H q=some (.ins C dx fs))(e:H l=some (.lst ws)):H' l=some (.lst ws):=s _ _ (bU e h (by intro z;cases z)) e
theorem DU {q dx a:Addr}{fs:List (Str×V)}{xs:`V}(s:SameBut q H H')(hp:H q=some (.ins C dx fs))(h:SqL K H a xs):SqL K H' a xs:=by
 rcases h with (h|⟨o,h⟩)|h
 .exact .inl (.inl (s _ _ (bU h hp (by intro z;cases z)) h))
 .exact .inl (.inr ⟨o,s _ _ (bU h hp (by intro z;cases z)) h⟩)
 .exact .inr h
theorem DsT.keepS (h:DsT K H C p x T l){a:Addr}{xs:`V}(s:SameBut p H H')(e:SqL K H a xs):SqL K H' a xs:=let ⟨_,_,_,e2,_⟩:=h;DU s e2 e
theorem DsT.keepL (h:DsT K H C p x T l){a:Addr}{ws:`V}(s:SameBut p H H')(e:H a=some (.lst ws)):H' a=some (.lst ws):=let ⟨_,_,_,e2,_⟩:=h;sb_l s e2 e
theorem DV {v u:V}:List.lookup (ofString "table") [(ofString "address",v),(ofString "table",u)]=some u:=by rw[lookup_cons,show (ofString "table" == ofString "address")=false by fail "k",lookup_cons,beq_self_eq_true]
theorem DW {v u w:V}:putF (ofString "table") w [(ofString "address",v),(ofString "table",u)]=[(ofString "address",v),(ofString "table",w)]:=by
 have h:¬ ofString "address"=ofString "table" := by fail "k"
 simp only[putF,if_true,if_neg h]
theorem dq {R:V->Prop}{dx:Addr}{v u:V}(hp:H p=some (.ins C dx [("address",v),("table",u)]))(cl:Cls K C)(n:NoAttr K C "table")(r:R u):FldE K (ofString "table") (.ref p) H R:=
 ⟨p,C,dx,_,_,rfl,hp,cl,n,DV,r⟩
end
noncomputable def wOnly (ss:List Tq)(e:Bool):Ad:=⟨[],none,none,true,ss,e,none,none⟩
def WyOk (ss:List Tq)(e:Bool):Prop:=ss.length<=12/\(∀l∈ss,(0 < `L/\`L<=300/\∀c∈l,isSg c=true)/\isDot l=false)/\(ss=[]->e=true)
theorem DX {ss:List Tq}{e:Bool}(h:WyOk ss e):(wOnly ss e).Wf:=⟨by show ([]:Tq).length<=8/\_;exact⟨`d,(λc z=>by cases z),λc z=>by cases z⟩,λl z=>(by cases z),λl z=>(by cases z),λs hs=>⟨(h.2.1 s hs).1.1,(h.2.1 s hs).1.2.2⟩,λ_=>rfl,h.2.2,λl z=>(by cases z),λl z=>by cases z⟩
theorem DY {ss:List Tq}{e:Bool}:(wOnly ss e).shw=wayT true ss e:=by simp[wOnly,Ad.shw,Ad.wayT,schT,houT,dooT,queT,oT]
theorem qW {H:Hp}:∀ss:List Tq,IsTAll H (ss.map st) (ss.map tV)
 |[]=>.nil
 |_::ss=>.cons (.str _) (qW ss)
end Wm
namespace L2
inductive Ex2 {A B:Type}(p:A->B->Prop):Prop|mk (a:A) (b:B) (h:p a b):Ex2 p
inductive Ex3 {A B C:Type}(p:A->B->C->Prop):Prop|mk (a:A) (b:B) (c:C) (h:p a b c):Ex3 p
inductive Ex4 {A B C D:Type}(p:A->B->C->D->Prop):Prop|mk (a:A) (b:B) (c:C) (d:D) (h:p a b c d):Ex4 p
inductive Ex5 {A B C D E:Type}(p:A->B->C->D->E->Prop):Prop|mk (a:A) (b:B) (c:C) (d:D) (e:E) (h:p a b c d e):Ex5 p
end L2
namespace L2
open PySem PySem.Spec PyProof.Rows
@[reducible] noncomputable def nth:List Str->Nat->Option Str
 |[],_=>none
 |x::_,0=>some x
 |_::l,n+1=>nth l n
theorem gv {x:Str}:∀{N:List Str}{i:Nat},nth N i=some x->N[i]?=some x
 |[],_,h=>by cases h
 |_::_,0,h=>h
 |_::l,n+1,h=>gv (N:=l) (i:=n) h
def Cn (mg:Str->Option Value)(x:Str)(v:V):Prop:=∃u,mg x=some u/\RelV v u
theorem DZ {mg:Str->Option Value}{x:Str}{i:Int}{t:Tok}(a:mg x=some (.int i t)):Cn mg x (.int i):=⟨_,a,_,rfl⟩
theorem E1 {mg:Str->Option Value}{x s:Str}{t:Tok}(a:mg x=some (.str s t)):Cn mg x (.str s):=⟨_,a,_,rfl⟩
structure BltN (mg:Str->Option Value)(x:Str)(u:Value):Prop where
 n:mg x=none
 b:bootBuiltins x=some u
inductive Hn (a b:Nat):Prop|mk:Hn a b
theorem hint (a b:Nat):Hn a b:=.mk
theorem hintE (a:Nat){p:Prop}(_:Hn a 0)(h:p):p:=h
noncomputable def rowS:Stmt->Nat
 |.Assign _ _ p|.If _ _ _ p|.For _ _ _ _ p|.While _ _ _ p|.Expr _ p|.Return _ p|.Raise _ _ p=>p.line
 |_=>0
section
variable {X:Cx}{st:Stmt}{rest:List Stmt}{t u:TS}{N:List Str}{i:Nat}{x:Str}{p q:Pos}{e:Expr}{te:TE}{a:List Expr}
theorem hintC (_:Hn 0 (rowS st))(h1:PS X st t)(h2:PSs X rest u):PSs X (st::rest) (tCut t u):=aR h1 h2
theorem hintN (_:Hn 1 (rowS st)):PS X st tNever:=lz
theorem nx (i:Nat){N:List Str}{x:Str}(h:nth N i=some x:=by exact rfl):nth N i=some x:=h
theorem forT {tg l:Expr}{b:List Stmt}{tl:TE}{g:TG}(K:`F)(_:Hn 11 p.line)(hl:PE X l tl)(hg:PG X tg g)(hb:PSs X b t)(h:X.K=K)(hc:X.calm=true)(hp:PassesOwn `m X.A X.env X.xe)
  (hs:∀x,foldedSetIterable l X.env x=pure x):PS X (.For tg l b [] p) (tFor (iTup K tl) g t):=cG hp hc (dN h hl) hg hb hs
theorem cB {mg:Str->Option Value}{id:String}{r:`V->Hp->VK->Prop}{es:List Expr}{ta:TA}(b:BltN mg x (.builtin id))(hc:CallR X (.builtin id) r)(ha:PA X (e::es) ta)(h:X.mg=mg)(hg:Gl X x)(hn:x ≠ "__name__")(hd:(x == ("__debug__" : Str))=false)
  (he:starEach (e::es) X.env=(false,eval e X.env)::starEach es X.env) (hp:(backTo q (starEach es X.env)).any (·.1)=false):PE X (.Call (.Name x p) (e::es) [] q) (tCB r ta):=by subst h;exact ax hc hg b.1 b.2 ha hn hd he hp
theorem cT {mg:Str->Option Value}{id:String}{r:`V->Hp->VK->Prop}{es:List Expr}{ta:TA}(b:BltN mg x (.type id))(hc:CallR X (.type id) r)(ha:PA X (e::es) ta)(h:X.mg=mg)(hg:Gl X x)(hn:x ≠ "__name__")(hd:(x == ("__debug__" : Str))=false)
  (he:starEach (e::es) X.env=(false,eval e X.env)::starEach es X.env) (hp:(backTo q (starEach es X.env)).any (·.1)=false):PE X (.Call (.Name x p) (e::es) [] q) (tCB r ta):=by subst h;exact br hc hg b.1 b.2 ha hn hd he hp
theorem tY {mg:Str->Option Value}{id:String}(b:BltN mg x (.type id))(h:X.mg=mg)(hg:Gl X x)(hn:x ≠ "__name__")(hd:(x == ("__debug__" : Str))=false):PE X (.Name x p) (tC (.ty id)):=by subst h;exact gL hg b.1 b.2 rfl hn hd
theorem cF {k k':Nat}{sp:Sp}{st:Stmt}{ps:List Str}{es:List Expr}{ta:TA}{f:Fd X.K X.mg x st ps}(F:FnOk X.prog X.w X.K X.mg X.base CX0 k f.a f.fd ps sp)(hr:Room k' X.A)(ha:PA X (e::es) ta)(hg:Gl X x)(hk:k<=k')(hd:(x == ("__debug__" : Str))=false)
  (he:starEach (e::es) X.env=(false,eval e X.env)::starEach es X.env) (hp:(backTo q (starEach es X.env)).any (·.1)=false):PE X (.Call (.Name x p) (e::es) [] q) (tCall sp [] E0 ta):=aQ f F hr hg ha hk hd he hp
theorem pvG (h:N.Nodup)(a:nth N i=some x)(e:X.N=N)(hv:Vis X.env.scope x)(hd:(x == ("__debug__" : Str))=false)(hcd:(x == ("__classdict__" : Str))=false):PE X (.Name x p) (tVar i):=lu (by rw[e];exact gv a) hv hd hcd
theorem sxG (h:N.Nodup)(a:nth N i=some x)(he:PE X e te)(n:X.N=N)(hx:Loc X.env.scope x)(hs:swapsWith e (some (.Name x q)) p.line X.env=pure false)(hf:X.fn x=true\/X.env.scope.names.lookup x=some .local) :
  PS X (.Assign [.Name x q] e p) (tAsg te (gName i)):=m6 (n▸h) (by rw[n];exact gv a) hx he hs hf
theorem pgG (h:N.Nodup)(a:nth N i=some x)(n:X.N=N)(hx:Loc X.env.scope x)(hf:X.fn x=true\/X.env.scope.names.lookup x=some .local):PG X (.Name x p) (gName i):=ee (n▸h) (by rw[n];exact gv a) hx hf
theorem pxG {a b:Expr}{ta tb:TE}(K:`F)(ha:PE X a ta)(hb:PE X b tb)(h:X.K=K)(hs:PlainIx b):PE X (.Subscript a b p) (tOp (rIy K) ta tb):=mX (mz h) ha hb hs
theorem glD {mg:Str->Option Value}{v:V}(c:Cn mg x v)(e:X.mg=mg)(hg:Gl X x)(hd:(x == ("__debug__" : Str))=false):PE X (.Name x p) (tC v):=let ⟨_,m,r⟩:=c;bC hg (e▸m) r hd
theorem glC {v:V}(c:Cn X.mg x v)(hg:Gl X x:=by rfl)(hd:(x == ("__debug__" : Str))=false:=by decide):PE X (.Name x p) (tC v):=glD c rfl hg hd
end
abbrev Sc (n:Nat)(N:List Str)(s:Stmt):Prop:=FnScope N (N.take n) (defScope s)
theorem lnF {P:Program}{w:World}{K:`F}{mg:Str->Option Value}{base:Heap}{x:Str}{st:Stmt}{N ps:List Str}{k:Nat}{sp:Sp}{f:Fd K mg x st ps}(sc:FnScope N ps (defScope st))
  (b:∀(cdv:Value) (A:Around) (outer:List Env) (s:Shared) (H:Hp) (vs:`V) (Q:VK) (E:XK),Room k (A.deeper (PyProof.Rows.envOfC x (defScope st) `z f.a cdv))->sp vs H Q E ->
   ∃t,PSs (cxOf CX0 P w K mg base N x (defScope st) f.a cdv A outer s H E).nox (defBody st) t/\t {nx:=λ_ H'=>Q .non H',rt:=Q} (start N vs) H)
  (a:∀(vs:`V) (H:Hp) (Q:VK) (E:XK),sp vs H Q E->vs.length=ps.length:=by intro _ _ _ _ h;cases h;subst_vars;rfl):f.Ok P w base (k+1) sp:=f.F.ok sc a b
section
variable {X:Cx}
noncomputable def blIs (k:Bool):Value->Bool
 |.bool z=>z == k
 |_=>false
def rCountB:V->`V->Hp->VK->Prop:=λx vs H Q=>∃(l:Addr) (bs:List Bool) (k:Bool),x=.ref l/\vs=[.bl k]/\H l=some (.lst (bs.map V.bl))/\Q (.int (bs.countP (· == k):Nat)) H
theorem qX {bs:List Bool}{its:List Value}(r:Vals (bs.map V.bl) its):its=bs.map Value.bool:=by
 induction bs generalizing its with
 |nil=>cases r;rfl
 |cons b bs ih=>
  cases r with
  |cons h r=>rw[ih r,show _=Value.bool b from h];rfl
theorem E2:MtR X "list.count" rCountB:=by
 intro ad s Z H x vs v us Q I rx rv h;obtain⟨l,bs,k,rfl,rfl,hH,q⟩:=h;cases rx;obtain⟨u,rfl,ru⟩:=vals1 rv;obtain rfl:u=Value.bool k:=ru;obtain⟨z,dl,n,r,hl,e⟩:=I.lstM hH;have hi:=qX r;subst hi;have hc:((bs.map Value.bool).toArray.toList.countP (blIs k):Nat)=bs.countP (· == k):=by rw[List.countP_map];rfl
 refine call_meets F.slot_list_count ⟨_,e,rfl⟩ F.entry_list_count (F.args_list_count_2 _ _) (SeqAt.list_countAt l _ n none #[] (.bool k) (blIs k)) ⟨e,λy hy=>?_,?_⟩
 .obtain⟨b,_,rfl⟩:=mem_map.mp (show y∈bs.map Value.bool by simpa using hy);exact SeqAt.EqAt.bool_bool b k
 .rw[hc];exact⟨.int (bs.countP (· == k):Nat),H,I.tok _,`o,q⟩
def rIndexB:V->`V->Hp->VK->Prop:=λx vs H Q=>∃(l:Addr) (bs:List Bool) (k:Bool) (j:Nat),x=.ref l/\vs=[.bl k]/\H l=some (.lst (bs.map V.bl))/\bs.length < 1000/\bs[j]?=some k/\(∀i,i < j->bs[i]?≠some k)/\Q (.int j) H
theorem E3:MtR X "list.index" rIndexB:=by
 intro ad s Z H x vs v us Q I rx rv h;obtain⟨l,bs,k,j,rfl,rfl,hH,BT,hj,dl,q⟩:=h;cases rx;obtain⟨u,rfl,ru⟩:=vals1 rv;obtain rfl:u=Value.bool k:=ru;obtain⟨z,Cl,n,r,hl,e⟩:=I.lstM hH;have hi:=qX r;subst hi;have hjl:=(List.getElem?_eq_some_iff.mp hj).1;refine call_meets F.slot_list_index ⟨_,e,rfl⟩ F.entry_list_index (F.args_list_index_2 _ _) (SeqAt.list_indexAt l _ n none #[] (.bool k) (blIs k) j (by rw[size_toArray,length_map];lia) `l ?_ ?_) ⟨e,λy hy=>?_,⟨.int j,H,I.tok _,`o,q⟩⟩
 .have:bs[j]=k:=(List.getElem?_eq_some_iff.mp hj).2;simp[blIs,this]
 .intro i hi mt;have h2:i < bs.length:=by simpa using hi
  have:bs[i]≠k:=λz=>dl i mt (by rw[List.getElem?_eq_getElem h2,z]);simpa [blIs] using this
 .obtain⟨b,_,rfl⟩:=mem_map.mp (show y∈bs.map Value.bool by simpa using hy);exact SeqAt.EqAt.bool_bool b k
theorem E4 {l:Addr}{k:Bool}{H:Hp}{Q:VK}:rCountB (.ref l) [.bl k] H Q↔∃bs:List Bool,H l=some (.lst (bs.map V.bl))/\Q (.int (bs.countP (· == k):Nat)) H:=
 ⟨λ⟨_,bs,_,e1,e2,h⟩=>by cases e1;cases e2;exact⟨bs,h⟩,λ⟨bs,h⟩=>⟨l,bs,k,rfl,rfl,h⟩⟩
theorem E5 {l:Addr}{k:Bool}{H:Hp}{Q:VK}:rIndexB (.ref l) [.bl k] H Q↔∃(bs:List Bool) (j:Nat),H l=some (.lst (bs.map V.bl))/\bs.length < 1000/\bs[j]?=some k/\(∀i,i < j->bs[i]?≠some k)/\Q (.int j) H:=
 ⟨λ⟨_,bs,_,j,e1,e2,h⟩=>by cases e1;cases e2;exact⟨bs,j,h⟩,λ⟨bs,j,h⟩=>⟨l,bs,k,j,rfl,rfl,h⟩⟩
end
end L2
namespace Wm
open PySem L2
noncomputable abbrev QuT:=Option (List (Tq×Option Tq))
def QSm (q:QuT):Prop:=∀ps,q=some ps->(ps.length<=3/\∀p∈ps,p.1.length<=5/\∀v,p.2=some v->v.length<=6)/\∀p∈ps,PairOk p
noncomputable def upS (L:List Stp)(s:Stp):List Stp:=if s=sUp then L.dropLast else if s=sStay then L else L++[s]
noncomputable def leftS (ss:List Stp):List Stp:=ss.foldl upS []
theorem gy {P:Stp->Prop}:∀{ss L:List Stp},(∀s∈L,P s/\isDot s=false)->(∀s∈ss,P s)->∀s∈ss.foldl upS L,P s/\isDot s=false
 |[],_,h,_=>h
 |a::ss,L,h,h2=>gy (ss:=ss) (λs hs=>by
   unfold upS at hs;split at hs
   .exact h s (List.dropLast_subset _ hs)
   .rename_i n1;split at hs
    .exact h s hs
    .rename_i n2;rcases mem_append.mp hs with hs|hs
     .exact h s hs
     .rw[mem_singleton.mp hs];exact⟨h2 a `f,ju.mpr ⟨n1,n2⟩⟩) λs hs=>h2 s (mem_cons_of_mem _ hs)
theorem kW:∀{ss L:List Stp},(ss.foldl upS L).length<=L.length+ss.length
 |[],_=>Nat.le_refl _
 |a::ss,L=>by
  have h:=kW (ss:=ss) (L:=upS L a);have:(upS L a).length<=L.length+1:=by
   unfold upS;split
   .rw[length_dropLast];lia
   .split
    .lia
    .simp
  rw[List.foldl_cons,length_cons];lia
theorem qY:∀{ss L:List Stp},(∀s∈ss,isDot s=false)->ss.foldl upS L=L++ss
 |[],_,_=>(append_nil _).symm
 |a::ss,L,h=>by have n:=ju.mp (h a `f);rw[List.foldl_cons,show upS L a=L++[a] by unfold upS;rw[if_neg n.1,if_neg n.2],qY λs hs=>h s (mem_cons_of_mem _ hs),append_assoc];rfl
noncomputable def endD (ss:List Stp):Bool:=match ss.getLast? with|some s=>isDot s|none=>false
noncomputable def goW (ss:List Stp)(e:Bool):List Stp×Bool:=if leftS ss=[] then ([],true) else (leftS ss,e || endD ss)
noncomputable def goR (x:Ad):Ad:={ x with steps:=(goW x.steps x.ends).1,ends:=(goW x.steps x.ends).2}
theorem kX (ss:List Stp)(e:Bool):(goW ss e).1=leftS ss:=by
 unfold goW;split
 .rename_i h;exact h.symm
 .rfl
theorem qZ {P:Stp->Prop}{ss:List Stp}{e:Bool}(h:∀s∈ss,P s):∀s∈(goW ss e).1,P s:=λs hs=>by rw[kX] at hs;exact (gy (P:=P) (L:=[]) (λ_ z=>nomatch z) h s hs).1
theorem E6 {ss:List Stp}{e:Bool}(h:(goW ss e).1=[]):(goW ss e).2=true:=by rw[kX] at h;unfold goW;rw[if_pos h]
theorem E7 (ss:List Stp)(e:Bool):goW (goW ss e).1 (goW ss e).2=goW ss e:=by
 have n:∀s∈leftS ss,True/\isDot s=false:=gy (P:=λ_=>True) (λ_ z=>nomatch z) λ_ _=>trivial;have e1:leftS (leftS ss)=leftS ss:=qY λs hs=>(n s hs).2;have e2:endD (leftS ss)=false:=by
  unfold endD;cases h:(leftS ss).getLast? with
  |none=>rfl
  |some s=>exact (n s (List.mem_of_getLast? h)).2
 by_cases h:leftS ss=[]
 .unfold goW;rw[if_pos h];rfl
 .have g:goW ss e=(leftS ss,e || endD ss):=by unfold goW;rw[if_neg h]
  rw[g];show goW (leftS ss) (e || endD ss)=_;unfold goW;rw[e1,if_neg h,e2,Bool.or_false]
theorem qa (x:Ad):goR (goR x)=goR x:=by show ({x with steps:=(goW (goW x.steps x.ends).1 (goW x.steps x.ends).2).1,ends:=(goW (goW x.steps x.ends).1 (goW x.steps x.ends).2).2}:Ad)=_;rw[E7];rfl
theorem qc {x:Ad}(h:x.Wf)(hr:x.rooted=true):(goR x).Wf:=
 ⟨h.sch,h.hou,h.doo,qZ (P:=StepOk) h.stp,λ_=>hr,λe=>(E6 e).trans hr.symm,h.que,h.mar⟩
theorem qd (x:Ad):(goR x).steps.length<=x.steps.length:=by
 show (goW x.steps x.ends).1.length<=_;rw[kX];have:=kW (ss:=x.steps) (L:=[])
 rwa [length_nil,Nat.zero_add] at this
noncomputable def lowA (x:Ad):Ad:={ x with scheme:=lowT x.scheme,house:=x.house.map lowT}
noncomputable def plR (x:Ad):Ad:=goR (lowA x)
theorem E8 {x:Ad}(h:x.Wf):(lowA x).Wf:=by
 refine⟨⟨by show (lowT _).length<=8;rw[jx];exact h.sch.1,λc hc=>?_,λc hc=>?_⟩,λl e=>?_,λi e=>?_,h.stp,λz=>h.roo (z.imp (λy e=>y (by show lowT _=[];rw[e];rfl)) (λy e=>y (by show Option.map _ _=none;rw[e];rfl))),h.end_,h.que,h.mar⟩
 .obtain⟨d,hd,rfl⟩:=mem_map.mp hc;have:=h.sch.2.1 d hd;exact Bh d (fH (gY this)) this
 .have hc:c∈(x.scheme.map low1).take 1:=hc;rw[<- map_take] at hc;obtain⟨d,hd,rfl⟩:=mem_map.mp hc;exact Bi d (fH (gY (h.sch.2.1 d (List.mem_of_mem_take hd)))) (h.sch.2.2 d hd)
 .obtain⟨m,hm,rfl⟩:=Option.map_eq_some_iff.mp e;obtain⟨h1,h2⟩:=h.hou m hm;refine⟨by rw[jx];exact h1,λc hc=>?_⟩;obtain⟨d,hd,rfl⟩:=mem_map.mp hc;exact Bg d (fH (h2 d hd)) (h2 d hd)
 .exact⟨(h.doo i e).1,λz=>(h.doo i e).2 (Option.map_eq_none_iff.mp z)⟩
theorem kY {n:Nat}{x:Ad}(g:GoodAd n x):GoodAd n (plR x):=
 ⟨qc (E8 g.wf) g.rt,⟨qZ (P:=λs=>s.length<=9) g.ti.stp,g.ti.que,g.ti.mar,λl e=>by obtain⟨m,hm,rfl⟩:=Option.map_eq_some_iff.mp e;rw[jx];exact g.ti.hou m hm⟩,(λz=>g.sc (List.map_eq_nil_iff.mp z)),Nat.le_trans (qd (lowA x)) g.ln⟩
theorem E9 (x:Ad):plR (goR x)=plR x:=qa (lowA x)
theorem Ea (x:Ad):plR (plR x)=plR x:=by
 have e:lowA (plR x)=plR x:=by
  have h2:(x.house.map lowT).map lowT=x.house.map lowT:=by cases x.house <;> simp[oN]
  show ({plR x with scheme:=lowT (lowT x.scheme),house:=(x.house.map lowT).map lowT}:Ad)=_;rw[oN,h2];rfl
 show goR (lowA (plR x))=_;rw[e];exact qa _
def RsX (x:Ad):Prop:=x.scheme≠[]\/(x.house=none/\x.rooted=true)
noncomputable def whX (b x:Ad):Ad:=if x.scheme≠[] then x else {x with scheme:=b.scheme,house:=b.house,door:=b.door}
noncomputable def goX (b x:Ad):Ad:=plR (whX b x)
theorem kZ {n m:Nat}{b x:Ad}(gb:GoodAd n b)(hx:x.Wf)(tx:x.Tiny)(lx:x.steps.length<=m)(h:RsX x):GoodAd m (whX b x):=by
 unfold whX;split
 .rename_i y;exact⟨hx,tx,y,lx⟩
 .rename_i y;exact⟨⟨gb.wf.sch,gb.wf.hou,gb.wf.doo,hx.stp,λ_=>(h.resolve_left y).2,hx.end_,hx.que,hx.mar⟩,⟨tx.stp,tx.que,tx.mar,gb.ti.hou⟩,gb.sc,lx⟩
noncomputable def wOk:Tq:=[111,107]
noncomputable def wAt:Tq:=[97,116]
noncomputable def wGo:Tq:=[103,111]
noncomputable def wLink:Tq:=[108,105,110,107]
noncomputable def wLead:Tq:=[108,101,97,100]
noncomputable def wAdd:Tq:=[97,100,100]
noncomputable def wBoth:Tq:=[98,111,116,104]
noncomputable def wtW:List Str:=[ofString "go",ofString "link",ofString "add"]
noncomputable def nbM (w:Tq):Option Nat:=if w=wAt\/w=wGo\/w=wLink\/w=wLead then some 0 else if w=wAdd then some 1 else if w=wBoth then some 2 else none
noncomputable def rowA (row:Tq)(n:Nat):List Str:=if mkS (bfo 32 row)∈wtW then Txt.splitMax (mkS row) (mkS [32]) ((1+n:Nat):Int) else Txt.split (mkS row) (mkS [32])
noncomputable def rowC (row:Tq)(n:Nat):Option (List Tq):=
 if (rowA row n).length=(if mkS (bfo 32 row)∈wtW then n+2 else n+1)/\mkS []∉(rowA row n).take (1+n) then some ((rowA row n).map (·.cps.toList)) else none
noncomputable def rowM (row:Tq):Option (List Tq):=(nbM (bfo 32 row)).bind (rowC row)
noncomputable def nbD:List (PyData×PyData):=[(.str (mkS wAt),.int 0),(.str (mkS wGo),.int 0),(.str (mkS wLink),.int 0),(.str (mkS wAdd),.int 1),(.str (mkS wLead),.int 0),(.str (mkS wBoth),.int 2)]
theorem Eb (w:Tq):Spec.lookup (.str (mkS w)) nbD=(nbM w).map λn:Nat=>PyData.int (n:Int):=by
 have sm:∀a:Tq,Spec.same (.str (mkS a)) (.str (mkS w))=decide (w=a):=λa=>by show (mkS a == mkS w)=_;rw[Bool.eq_iff_iff,beq_iff_eq,decide_eq_true_eq,ac];exact eq_comm
 unfold nbD nbM;simp only[Spec.lookup,sm,decide_eq_true_eq];by_cases h1:w=wAt
 .simp only[h1,if_true,true_or];rfl
 by_cases h2:w=wGo
 .simp only[h2,if_true,true_or,or_true,if_neg (show ¬ wGo=wAt by decide)];rfl
 by_cases h3:w=wLink
 .simp only[h3,if_true,true_or,or_true,if_neg (show ¬ wLink=wAt by decide),if_neg (show ¬ wLink=wGo by decide)];rfl
 by_cases h4:w=wLead
 .subst h4;rfl
 simp only[h1,h2,h3,h4,or_self,if_false];by_cases h5:w=wAdd
 .simp only[h5,if_true];rfl
 by_cases h6:w=wBoth
 .subst h6;rfl
 simp only[h5,h6,if_false];rfl
theorem Ec (t:Tq):(Txt.partition (mkS t) (mkS [32])).1=mkS (bfo 32 t):=by
 by_cases h:32∈t
 .rw[gu h]
 .have e:bfo 32 t=t:=by
   unfold bfo;induction t with
   |nil=>rfl
   |cons a t ih=>rw[mem_cons,not_or] at h;rw[List.takeWhile_cons,show decide (a≠32)=true from decide_eq_true λz=>h.1 z.symm,if_pos rfl,ih h.2]
  rw[gs h,e]
theorem Ed (L:List Str):(L.map (·.cps.toList)).map tV=L.map V.str:=by rw[map_map];exact map_congr_left λz _=>congrArg V.str (bI z)
theorem Ee {L:List Str}:mkS []∈L↔[]∈L.map (·.cps.toList):=by rw[mem_map];exact⟨λh=>⟨_,h,rfl⟩,λ⟨z,h,e⟩=>by rw[<- bI z] at h;rw[e] at h;exact h⟩
theorem Ef {w:Tq}{n:Nat}(h:nbM w=some n):n<=2:=by
 unfold nbM at h;split at h
 .cases h;decide
 .split at h
  .cases h;decide
  .split at h
   .cases h;decide
   .cases h
noncomputable def putR (T:List Rw)(t:Rw):List Rw:=if T.any (λr=>decide (r.1=t.1))=true then T.map (λr=>if r.1=t.1 then t else r) else T++[t]
theorem qe {H:Hp}:∀{cs:List Pc}{xs:`V},IsTAll H (cs.map pcD) xs->PcT H cs xs
 |[],_,.nil=>.nil
 |c::cs,_,.cons h t=>by obtain⟨p,rfl,hp⟩:=qO h.is;exact .cons hp (qe t)
theorem Eg {H:Hp}{cs:List Pc}{e:Bool}{v:V}(h:IsT H (.tuple [.tuple (cs.map pcD),.bool e]) v):∃p,v=.ref p/\PtAt H cs e p:=by
 obtain⟨p,zs,rfl,hp,hz⟩:=js h;cases hz with
 |cons h1 h2=>
  cases h2 with
  |cons h3 h4=>cases h4;cases h3;obtain⟨q,xs,rfl,hq,hx⟩:=js h1;exact⟨p,rfl,q,xs,hp,hq,qe hx⟩
theorem ka {T:List Rw}{t:Rw}(h:t.1∉T.map (·.1)):putR T t=T++[t]:=by unfold putR;rw[if_neg λz=>?_];obtain⟨r,hr,e⟩:=any_eq_true.mp z;exact h (by rw[<- of_decide_eq_true e];exact List.mem_map_of_mem hr)
def AtE (E:XK)(CN:Addr)(H:Hp)(k:Nat):Prop:=∀d H',Same H H'->H' d=some (.xd [("at",.int (k:Int))])->E (.ref CN) (some d) H'
def TsOk (ts:List Tq):Prop:=ts≠[]/\Free 47 ts/\ts.length<=100/\∀t∈ts,`t<=700/\∀c∈t,c < 128
inductive PtIn:Tq->Option (List Pc×Bool)->Prop
 |no {t:Tq} (h:t.take 1≠[47]):PtIn t none
 |bad {ts:List Tq} (h:TsOk ts) (p:patD (rptD ts)=false):PtIn (47::joinT 47 ts) none
 |yes {ts:List Tq}{cs:List Pc}{e:Bool} (h:TsOk ts) (p:patD (rptD ts)=true) (d:rptD ts=.tuple [.tuple (cs.map pcD),.bool e]):PtIn (47::joinT 47 ts) (some (cs,e))
noncomputable def smp:Pc->Bool
 |.step _=>true
 |.gap _=>true
 |.rest _=>true
 |_=>false
noncomputable def fS:Pc->Tq->Bool
 |.step w,s=>decide (s=w)
 |_,_=>true
def Two (H:Hp)(q:Addr)(c d:Pc):Prop:=∃a b,H q=some (.tup [.ref a,.ref b])/\H a=some (.tup c.vals)/\H b=some (.tup d.vals)
theorem Two.mono {H H':Hp}{q:Addr}{c d:Pc}(s:SameT H H'):Two H q c d->Two H' q c d
 |⟨a,b,h1,h2,h3⟩=>⟨a,b,s _ _ h1,s _ _ h2,s _ _ h3⟩
theorem du {H:Hp}{p:Addr}{c d:Pc}{e:Bool}(h:PtAt H [c,d] e p):∃q,H p=some (.tup [.ref q,.bl e])/\Two H q c d:=by
 obtain⟨q,xs,h1,h2,h3⟩:=h;cases h3 with
 |cons h4 h5=>
  cases h5 with
  |cons h6 h7=>cases h7;exact⟨q,h1,_,_,h2,h4,h6⟩
noncomputable def wR:Tq:=[114,101,115,116]
noncomputable def fitT2:Pc->List Tq
 |.step w=>[w]
 |_=>[[97],[98],[48],[49]]
def ndT (c:Pc):Prop:=smp c=true/\∀s∈fitT2 c,isDot s=false/\fS c s=true
def FirstB (c d:Pc)(i:Nat)(s:Tq):Prop:=(fitT2 c++fitT2 d)[i]?=some s/\(fS c s && fS d s)=true/\∀j t,j < i->(fitT2 c++fitT2 d)[j]?=some t->(fS c t && fS d t)=false
def TwoS (cs:List Pc):Prop:=∃c d,cs=[c,d]/\smp c=true/\smp d=true
noncomputable def worX (c:Pc):List Int:=if c.isStep then [6,0,0] else [1,0,0]
noncomputable def pA:List Pc×Bool:=([.step [97],.gap [110]],false)
noncomputable def pB:List Pc×Bool:=([.gap [110],.step [98]],false)
noncomputable def pX:List Pc×Bool:=([.step [120],.rest wR],true)
noncomputable def pC:List Pc×Bool:=([.step [98]],false)
noncomputable def wAB:Tq:=[47,97,47,98]
noncomputable abbrev fdR (T:List Rw)(n:Tq):Option Rw:=T.find? λt=>decide (t.1=n)
noncomputable def fitR (t:Rw):Bool:=match t.2 with|([c,d],true)=>fS c [120] && fS d [97]|_=>false
def RefE (CA CP CN CR:Addr)(H:Hp)(E:XK):Nat->Prop
 |0=>∀H',Same H H'->E (.ref CR) none H'
 |1=>∀H',Same H H'->E (.ref CN) none H'
 |2=>∀k,AtE E CA H k
 |_=>∀H',Same H H'->E (.ref CP) none H'
noncomputable def kdW (i:Nat):Tq:=[[114,111,119],[110,97,109,101],[97,100,100,114,101,115,115],[112,97,116,116,101,114,110]].getD i []
structure KnC (K:`F)(CB CV CR CN CA CP C:Addr)(i:Nat):Prop where
 l:ExLook K C
 v:PySem.W.kitOne K (.ref C) (.type "ValueError")=some true
 b:PySem.W.kitOne K (.ref C) (.ref CB)=some false
 w:PySem.W.kitOne K (.ref C) (.ref CV)=some false
 r:PySem.W.kitOne K (.ref C) (.ref CR)=some (decide (i=0))
 n:PySem.W.kitOne K (.ref C) (.ref CN)=some (decide (i=1))
 a:PySem.W.kitOne K (.ref C) (.ref CA)=some (decide (i=2))
 p:PySem.W.kitOne K (.ref C) (.ref CP)=some (decide (i=3))
noncomputable def kdB (i:Nat):List Bool:=[decide (i=0),decide (i=1),decide (i=2),decide (i=3)]
theorem Ei:∀i,i < 4->(kdB i).countP (· == true)=1/\(kdB i)[i]?=some true/\∀j,j < i->(kdB i)[j]?≠some true:=`d
theorem Ej {a b:Tq}{c:Nat}(ha:c∉a)(hb:c∉b):(Txt.splitMax (mkS (a++c::b)) (mkS [c]) 2).length≠3:=by
 generalize ht:a++c::b=t;have hl:`t=a.length+(b.length+1):=by rw[<- ht];simp
 have g1:∀i,i < a.length->t[i]?=a[i]?:=λi hi=>by rw[<- ht,List.getElem?_append_left hi]
 have g2:t[a.length]?=some c:=by rw[<- ht];simp
 have g3:∀i,t[a.length+1+i]?=b[i]?:=λi=>by rw[<- ht,List.getElem?_append_right `l,show a.length+1+i - a.length=i+1 by lia,List.getElem?_cons_succ]
 have eo:Builtin.Str.occurrences (mkS t) (mkS [c]) 0 (mkS t).length (limitOf (mkS t) 2)=[a.length]:=by rw[show limitOf (mkS t) 2=2 from rfl,StrLaws.occ_eq,occN _ _ _ _ _ _ _ `n,aN];show ([]:Tq)++List.take (2 - 0) _=_;rw[show `t+1 - 0=a.length+(1+(b.length+1)) by lia,List.range'_append_1.symm,List.range'_append_1.symm];rw[filter_append,filter_append,fc a.length 0 λi _ h=>by rw[g1 i `l];exact λz=>ha (mem_of_getElem? z)];rw[fc (b.length+1) _ λi h h'=>by obtain⟨j,rfl⟩:=Nat.le.dest h;rw[Nat.zero_add,g3 j];exact λz=>hb (mem_of_getElem? z)];rw[show List.range' (0+a.length) 1=[a.length] by simp,filter_cons,if_pos (decide_eq_true g2)];rfl
 unfold Txt.splitMax;rw[eo];split
 .simp
 .split
  .simp
  .show [_,_].length≠3;simp
theorem gz {a b:Tq}(h:32∉a):bfo 32 (a++32::b)=a:=(bn h).1
theorem kf {n t:Tq}(hn:32∉n)(h0:n≠[]):rowM (wAdd++32::(n++32::t))=some [wAdd,n,t]:=by
 have e:bfo 32 (wAdd++32::(n++32::t))=wAdd:=gz `d;have m:mkS wAdd∈wtW:=by fail "k"
 unfold rowM;rw[e];show rowC _ 1=_;unfold rowC rowA;rw[e,if_pos m,if_pos m,show ((1+1:Nat):Int)=2 from rfl,DT `d hn `d];exact if_pos ⟨rfl,λz=>by
  rcases mem_cons.mp z with z|z
  .exact absurd (ac.mp z) `d
  .exact h0 (ac.mp (mem_singleton.mp z)).symm⟩
theorem Ek {n:Tq}(hn:32∉n):rowM (wAdd++32::n)=none:=by
 have e:bfo 32 (wAdd++32::n)=wAdd:=gz `d;have m:mkS wAdd∈wtW:=by fail "k"
 unfold rowM;rw[e];show rowC _ 1=_;unfold rowC rowA;rw[e,if_pos m,if_pos m,show ((1+1:Nat):Int)=2 from rfl];exact if_neg λz=>Ej `d hn z.1
theorem El {w t:Tq}(h:w=wGo\/w=wLink):rowM (w++32::t)=some [w,t]:=by
 have ad:32∉w:=by rcases h with rfl|rfl <;> decide
 have e:bfo 32 (w++32::t)=w:=gz ad;have m:mkS w∈wtW:=by rcases h with rfl|rfl <;> fail "k"
 have nb:nbM w=some 0:=by rcases h with rfl|rfl <;> rfl
 unfold rowM;rw[e,nb];show rowC _ 0=_;unfold rowC rowA;rw[e,if_pos m,if_pos m,show ((1+0:Nat):Int)=1 from rfl,DO ad `d];exact if_pos ⟨rfl,λz=>by have z:=ac.mp (mem_singleton.mp z);rcases h with rfl|rfl <;> cases z⟩
theorem kg {a:Tq}{ts:List Tq}(hf:Free 32 (wBoth::a::ts)):rowM (joinT 32 (wBoth::a::ts))=if ts.length=1/\[]∉(a::ts).take 2 then some (wBoth::a::ts) else none:=by
 have e:bfo 32 (joinT 32 (wBoth::a::ts))=wBoth:=gz (b:=a++tlT 32 ts) `d;have m:mkS wBoth∉wtW:=by fail "k"
 unfold rowM;rw[e];show rowC _ 2=_;unfold rowC rowA;rw[e,if_neg m,if_neg m,show Txt.split (mkS (joinT 32 (wBoth::a::ts))) (mkS [32])=_ from qI hf `s];have e2:((wBoth::a::ts).map mkS).map (·.cps.toList)=wBoth::a::ts:=by rw[map_map];exact List.map_id' _
 have e3:(((wBoth::a::ts).map mkS).length=2+1/\mkS []∉((wBoth::a::ts).map mkS).take (1+2))↔(ts.length=1/\[]∉(a::ts).take 2):=by
  rw[length_map,<- map_take,Ee,map_map,show ((λx:Str=>x.cps.toList) ∘ mkS)=id from rfl,map_id,show (wBoth::a::ts).take (1+2)=wBoth::(a::ts).take 2 from rfl,mem_cons,length_cons,length_cons];constructor
  .exact λ⟨h1,h2⟩=>⟨`l,λz=>h2 (.inr z)⟩
  .exact λ⟨h1,h2⟩=>⟨`l,λz=>z.elim (λy=>by cases y) h2⟩
 rw[e2];by_cases h:ts.length=1/\[]∉(a::ts).take 2
 .rw[if_pos (e3.mpr h),if_pos h]
 .rw[if_neg (λz=>h (e3.mp z)),if_neg h]
inductive NoTx (H:Hp):V->String->Prop
 |non:NoTx H .non "NoneType"
 |bl (b:Bool):NoTx H (.bl b) "bool"
 |int (i:Int):NoTx H (.int i) "int"
 |lst {a:Addr}{xs:`V} (e:H a=some (.lst xs)):NoTx H (.ref a) "list"
 |tup {a:Addr}{xs:`V} (e:H a=some (.tup xs)):NoTx H (.ref a) "tuple"
 |dK {a:Addr}{kvs:List (Key×V)} (e:H a=some (.dK kvs)):NoTx H (.ref a) "dict"
theorem NoTx.mono {H H':Hp}(s:Same H H'){v:V}{k:String}:NoTx H v k->NoTx H' v k
 |.non=>.non
 |.bl b=>.bl b
 |.int i=>.int i
 |.lst e=>.lst (s _ _ e)
 |.tup e=>.tup (s _ _ e)
 |.dK e=>.dK (s _ _ e)
theorem NoTx.ty (K:`F){H:Hp}{v:V}{k:String}:NoTx H v k->TyOf K H v (.type k)/\PySem.W.kitOne K (.type k) (.type "str")=some false
 |.non=>⟨.non,bg K "NoneType" `d "str" `d⟩
 |.bl b=>⟨.bl b,bg K "bool" `d "str" `d⟩
 |.int i=>⟨.int i,bg K "int" `d "str" `d⟩
 |.lst e=>⟨.lst e,bg K "list" `d "str" `d⟩
 |.tup e=>⟨.tup e,bg K "tuple" `d "str" `d⟩
 |.dK e=>⟨.dK e,bg K "dict" `d "str" `d⟩
inductive RowD (nm:List Tq)(H:Hp):V->Nat->Prop
 |ty {v:V}{s:String} (h:NoTx H v s):RowD nm H v 0
 |row {row:Tq} (l:row.length<=90100) (h:rowM row=none):RowD nm H (tV row) 0
 |nam {row n t:Tq} (l:row.length<=90100) (h:rowM row=some [wAdd,n,t]) (b:nameD (st n)=false) (z:n.length<=100):RowD nm H (tV row) 1
 |two {row a b:Tq} (l:row.length<=90100) (h:rowM row=some [wBoth,a,b]) (c:(a≠nm.getD 0 []/\a≠nm.getD 1 [])\/(b≠nm.getD 0 []/\b≠nm.getD 1 [])):RowD nm H (tV row) 1
 |adr {row w t:Tq}{k:Nat} (l:row.length<=90100) (h:rowM row=some [w,t]) (e:w=wGo\/w=wLink) (z:`t<=90000) (c:∀c∈t,c < 128) (r:readM t=.error k):RowD nm H (tV row) 2
 |pat {row n t:Tq} (l:row.length<=90100) (h:rowM row=some [wAdd,n,t]) (m:n∈nm) (p:PtIn t none):RowD nm H (tV row) 3
theorem bB {nm:List Tq}{H:Hp}{z:Str}(h:rowM z.cps.toList=none/\z.cps.toList.length<=100):RowD nm H (.str z) 0:=by
 have:=RowD.row (nm:=nm) (H:=H) (row:=z.cps.toList) (by have:=h.2;lia) h.1
 rwa [show tV z.cps.toList=V.str z from congrArg V.str (bI z)] at this
theorem RowD.mono {nm:List Tq}{H H':Hp}(s:Same H H'){v:V}{i:Nat}:RowD nm H v i->RowD nm H' v i
 |.ty h=>.ty (h.mono s)
 |.row l h=>.row l h
 |.nam l h b z=>.nam l h b z
 |.two l h c=>.two l h c
 |.adr l h e z c r=>.adr l h e z c r
 |.pat l h m p=>.pat l h m p
theorem bN {n:Tq}(h:NmOk n):32∉n:=λz=>by have:=dk h.2 32 z;lia
theorem bV {n:Tq}(h:NmOk n):n≠[]:=λz=>by have:=h.1.1;rw[z] at this;cases this
theorem qf {nm:List Tq}(h:4<=nm.length):∃a b c d r,nm=a::b::c::d::r:=
 match nm,h with
 |a::b::c::d::r,_=>⟨a,b,c,d,r,rfl⟩
def RwsD (nm:List Tq)(i N:Nat)(H:Hp)(l:Addr):Prop:=∃xs:`V,H l=some (.lst xs)/\`x=N/\∀v∈xs,RowD nm H v i
theorem fe {K:`F}{nm:List Tq}{i N m:Nat}{H1 H2:Hp}{l p:Addr}{ys:`V}{R:VK}(h:RwsD nm i N H1 l)(s:Same H1 H2)(hp:H2 p=some (.lst ys))(hy:ys.length=m)(hv:∀v∈ys,RowD nm H2 v i)(hl:N+m<=100)
  (hR:∀(r:Addr) (H3:Hp),Same H2 H3->RwsD nm i (N+m) H3 r->R (.ref r) H3):rAddS K (.ref l) (.ref p) H2 R:=by
 obtain⟨xs,e,hx,hr⟩:=h;refine .inl ⟨xs,ys,s _ _ e,hp,aF `l,λr H3 n3 s3 e3=>hR r H3 s3 ⟨_,e3,by rw[length_append,hx,hy],λv hv'=>?_⟩⟩;rcases mem_append.mp hv' with z|z
 .exact (hr v z).mono (s.trans s3)
 .exact (hv v z).mono s3
theorem ff {nm:List Tq}{H:Hp}{z:Str}(row:Tq)(e:z=mkS row)(l:row.length<=100)(h:rowM row=none):RowD nm H (.str z) 0:=by rw[e];exact .row `l h
theorem kh {ts:List Tq}(h:∀s∈ts,32∉s):Free 32 (wBoth::ts):=λs hs c hc z=>by
 rcases mem_cons.mp hs with rfl|hs
 .rw[z] at hc;exact absurd hc `d
 .rw[z] at hc;exact h s hs hc
theorem h9 {a:Tq}{ts:List Tq}(h:∀s∈a::ts,32∉s)(n:¬ (ts.length=1/\[]∉(a::ts).take 2)):rowM (joinT 32 (wBoth::a::ts))=none:=(kg (kh h)).trans (if_neg n)
section
variable {nm:List Tq}{H:Hp}{n m:Tq}
theorem Em (h:NmOk n):RowD nm H (.str (mkS (wAdd++[32])++mkS n)) 0:=
 have:=h.1.2
 ff (wAdd++32::n) (by rw[ay];rfl) (by simp only[length_append,length_cons,wAdd,length_nil];lia) (Ek (bN h))
theorem no32:32∉([]:Tq):=λz=>nomatch z
theorem all32 {ts:List Tq}(h:∀s∈ts,s=[]\/NmOk s):∀s∈ts,32∉s:=λs hs=>by
 rcases h s hs with rfl|h
 .exact no32
 .exact bN h
theorem En (h:NmOk n):RowD nm H (.str (mkS (wBoth++[32])++mkS n)) 0:=
 have:=h.1.2
 ff (joinT 32 [wBoth,n]) (by rw[ay];simp[joinT,tlT]) (by simp only[joinT,tlT,length_append,length_cons,wBoth,length_nil];lia) (h9 (ts:=[]) (all32 (by simp[h])) `s)
theorem Eo (h:NmOk n):RowD nm H (.str (mkS (wBoth++[32])++mkS n++mkS [32])) 0:=
 have:=h.1.2
 ff (joinT 32 [wBoth,n,[]]) (by rw[ay,ay];simp[joinT,tlT]) (by simp only[joinT,tlT,length_append,length_cons,wBoth,length_nil];lia) (h9 (ts:=[[]]) (all32 (by simp[h])) `s)
theorem Ep (h:NmOk n):RowD nm H (.str (mkS (wBoth++[32,32])++mkS n)) 0:=
 have:=h.1.2
 ff (joinT 32 [wBoth,[],n]) (by rw[ay];simp[joinT,tlT]) (by simp only[joinT,tlT,length_append,length_cons,wBoth,length_nil];lia) (h9 (ts:=[n]) (all32 (by simp[h])) `s)
theorem Er (h:NmOk n)(h':NmOk m):RowD nm H (.str (mkS (wBoth++[32]++n++[32]++m++[32]))) 0:=
 have:=h.1.2;have:=h'.1.2
 ff (joinT 32 [wBoth,n,m,[]]) (by simp[joinT,tlT]) (by simp only[joinT,tlT,length_append,length_cons,wBoth,length_nil];lia) (h9 (ts:=[m,[]]) (all32 (by simp[h,h'])) `s)
theorem ki {i N:Nat}{l:Addr}(z:Int)(h:RwsD nm i N H l)(hN:0 < N):∃xs v,H l=some (.lst xs)/\atI xs (z % (N:Int))=some v/\RowD nm H v i:=by
 obtain⟨xs,e,hx,hr⟩:=h;have h1:=Int.emod_nonneg z (show (N:Int)≠0 by lia);have h2:=Int.emod_lt_of_pos z (show 0 < (N:Int) by lia);obtain⟨k,ek⟩:∃k:Nat,z % (N:Int)=(k:Int):=⟨_,(Int.toNat_of_nonneg h1).symm⟩;have hk:k < `x:=by lia
 refine⟨xs,xs[k],e,?_,hr _ (getElem_mem hk)⟩;rw[ek];exact aB (List.getElem?_eq_getElem hk)
noncomputable def nmBad (r:Tq):Bool:=match rowM r with
 |some [a,n,_]=>decide (a=wAdd) && (!nameD (st n) && (decide (n.length<=100) && decide (r.length<=100)))
 |_=>false
theorem hV {z:Str}(h:nmBad z.cps.toList=true):RowD nm H (.str z) 1:=by
 rw[<- bI z];unfold nmBad at h;split at h
 .rename_i a n t e;simp only[Bool.and_eq_true,decide_eq_true_eq,Bool.not_eq_true'] at h;obtain⟨rfl,h1,h2,h3⟩:=h;exact .nam `l e h1 h2
 .cases h
theorem i6 {a b:Tq}(ha:32∉a)(hb:32∉b)(a0:a≠[])(b0:b≠[])(la:a.length<=20)(lb:b.length<=20)(c:(a≠nm.getD 0 []/\a≠nm.getD 1 [])\/(b≠nm.getD 0 []/\b≠nm.getD 1 [])):RowD nm H (.str (mkS (wBoth++[32]++a++[32]++b))) 1:=by
 have e:rowM (joinT 32 [wBoth,a,b])=some [wBoth,a,b]:=(kg (kh λs hs=>by
  rcases mem_cons.mp hs with rfl|hs
  .exact ha
  .rw[mem_singleton.mp hs];exact hb)).trans (if_pos ⟨rfl,λz=>by
   rcases mem_cons.mp z with z|z
   .exact a0 z.symm
   .exact b0 (mem_singleton.mp z).symm⟩)
 have l:(joinT 32 [wBoth,a,b]).length<=90100:=by simp only[joinT,tlT,length_append,length_cons,wBoth,length_nil];lia
 have:=RowD.two (H:=H) l e c
 rwa [show joinT 32 [wBoth,a,b]=wBoth++[32]++a++[32]++b by simp[joinT,tlT]] at this
theorem catS {K:`F}{a b:Tq}{R:VK}(h1:a.length<=60)(h2:b.length<=60)(r:R (tV (a++b)) H):rAddS K (.str (mkS a)) (.str (mkS b)) H R:=fD.mpr ⟨aF (by rw[aN,aN];lia),by rw[ay];exact r⟩
noncomputable def isEr {α:Type}:Except Nat α->Bool
 |.error _=>true
 |.ok _=>false
noncomputable def adBad (r:Tq):Bool:=match rowM r with
 |some [w,t]=>decide (w=wGo\/w=wLink) && (isEr (readM t) && (decide (r.length<=100) && (decide (`t<=100) && t.all λc=>decide (c < 128))))
 |_=>false
theorem bo {z:Str}(h:adBad z.cps.toList=true):RowD nm H (.str z) 2:=by
 rw[<- bI z];unfold adBad at h;split at h
 .rename_i w t e;simp only[Bool.and_eq_true,decide_eq_true_eq,all_eq_true] at h;obtain⟨h1,h2,h3,h4,h5⟩:=h;cases hr:readM t with
  |ok x=>rw[hr] at h2;cases h2
  |error k=>exact .adr `l e h1 `l h5 hr
 .cases h
noncomputable def ptB (t:Tq)(ts:List Tq):Bool:=decide (t=47::joinT 47 ts) && (decide (ts≠[]) && (ts.all (λs=>decide (47∉s) && (decide (s.length<=700) && s.all λc=>decide (c < 128))) && (decide (ts.length<=100) && !patD (rptD ts))))
theorem Es {t:Tq}(ts:List Tq)(h:ptB t ts=true):PtIn t none:=by unfold ptB at h;simp only[Bool.and_eq_true,decide_eq_true_eq,all_eq_true,Bool.not_eq_true'] at h;obtain⟨rfl,h1,h2,h3,h4⟩:=h;exact .bad ⟨h1,λs hs c hc z=>(h2 s hs).1 (z▸hc),h3,λs hs=>⟨(h2 s hs).2.1,(h2 s hs).2.2⟩⟩ h4
def PtT (v:V):Prop:=∃t,v=tV t/\`t<=50/\PtIn t none
theorem cx {z:Str}(ts:List Tq)(h:ptB z.cps.toList ts=true/\z.cps.toList.length<=50):PtT (.str z):=⟨z.cps.toList,congrArg V.str (bI z).symm,h.2,Es ts h.1⟩
theorem qg {z:Str}(h:z.cps.toList.take 1≠[47]/\z.cps.toList.length<=50):PtT (.str z):=⟨z.cps.toList,congrArg V.str (bI z).symm,h.2,.no h.1⟩
theorem Et (h:NmOk n):PtT (.str (mkS ([47,123]++n++[125,47,123]++n++[125]))):=by
 have l:=h.1.2;have w:PcW (.gap n) (123::(n++[125])):=.gap h;have e:rptD [123::(n++[125]),123::(n++[125])]=.tuple [.tuple [pcD (.gap n),pcD (.gap n)],.bool false]:=by have:=DF (e:=false) (.cons w (.cons w .nil));simpa using this
 have g:=Dy (c:=.gap n) trivial λ_=>h;refine⟨_,rfl,by simp only[length_append,length_cons,length_nil];lia,?_⟩;rw[show [47,123]++n++[125,47,123]++n++[125]=47::joinT 47 [123::(n++[125]),123::(n++[125])] by simp[joinT,tlT]];have sm:=dk h.2;have hs:∀c∈123::(n++[125]),c≠47/\c < 128:=λc hc=>by
  rcases mem_cons.mp hc with rfl|hc
  .decide
  .rcases mem_append.mp hc with hc|hc
   .have:=sm c hc;lia
   .rw[mem_singleton.mp hc];decide
 refine .bad ⟨`s,λs h' c hc=>?_,`s,λs h'=>?_⟩ ?_
 .simp only[mem_cons,not_mem_nil,or_false,or_self] at h';exact (hs c (h'▸hc)).1
 .simp only[mem_cons,not_mem_nil,or_false,or_self] at h';rw[h'];exact⟨by simp only[length_append,length_cons,length_nil];lia,λc hc=>(hs c hc).2⟩
 .rw[e];show (piecesD _ && _)=false;unfold piecesD;rw[show List.map pcOf [pcD (.gap n),pcD (.gap n)]=[.gap n,.gap n] by simp[g.2]];rw[decide_eq_false (show ¬ (gapsM [.gap n,.gap n]).Nodup by show ¬ [n,n].Nodup;simp)];simp
theorem Eu {t:Tq}(h:NmOk n)(m:n∈nm)(l:`t<=50)(p:PtIn t none):RowD nm H (.str (mkS (wAdd++[32]++n++[32]++t))) 3:=by
 have:=h.1.2;have e:rowM (wAdd++32::(n++32::t))=some [wAdd,n,t]:=kf (bN h) (bV h);have:=RowD.pat (H:=H) (nm:=nm) (by simp only[length_append,length_cons,length_nil,wAdd];lia) e m p
 rwa [show wAdd++32::(n++32::t)=wAdd++[32]++n++[32]++t by simp] at this
theorem qh {xs:`V}{N:Nat}(z:Int)(h:N<=`x)(hN:0 < N):∃v,v∈xs/\atI xs (z % (N:Int))=some v:=by
 have h1:=Int.emod_nonneg z (show (N:Int)≠0 by lia);have h2:=Int.emod_lt_of_pos z (show 0 < (N:Int) by lia);obtain⟨k,ek⟩:∃k:Nat,z % (N:Int)=(k:Int):=⟨_,(Int.toNat_of_nonneg h1).symm⟩;have hk:k < `x:=by lia
 refine⟨xs[k],getElem_mem hk,?_⟩;rw[ek];exact aB (List.getElem?_eq_getElem hk)
theorem Ev {P:V->Prop}{xs ys:`V}(h:∀v∈xs,P v)(h':∀v∈ys,P v):∀v∈xs++ys,P v:=λv hv=>(mem_append.mp hv).elim (h v) (h' v)
theorem nm_D (h:NmOk n):nameD (st n)=true:=by show (decide (1<=(mkS n).length/\(mkS n).length<=8) && n.all isSma)=true;rw[aN,decide_eq_true h.1,h.2];rfl
noncomputable def tsB (ts:List Tq):Bool:=decide (ts≠[]) && (ts.all (λs=>decide (47∉s) && (decide (s.length<=700) && s.all λc=>decide (c < 128))) && decide (ts.length<=100))
theorem i8 {ts:List Tq}(h:tsB ts=true):TsOk ts:=by unfold tsB at h;simp only[Bool.and_eq_true,decide_eq_true_eq,all_eq_true] at h;exact⟨h.1,λs hs c hc z=>(h.2.1 s hs).1 (z▸hc),h.2.2,λs hs=>⟨(h.2.1 s hs).2.1,(h.2.1 s hs).2.2⟩⟩
theorem pt_A:PtIn [47,97,47,123,110,125] (some pA):=.yes (ts:=[[97],[123,110,125]]) (i8 `k) `k (by with_unfolding_all kernel_rfl)
theorem pt_B:PtIn [47,123,110,125,47,98] (some pB):=.yes (ts:=[[123,110,125],[98]]) (i8 `k) `k (by with_unfolding_all kernel_rfl)
theorem pt_C:PtIn [47,98] (some pC):=.yes (ts:=[[98]]) (i8 `k) `k (by with_unfolding_all kernel_rfl)
theorem pt_X:PtIn [47,120,47,123,114,101,115,116,58,114,101,115,116,125,47] (some pX):=.yes (ts:=[[120],[123,114,101,115,116,58,114,101,115,116,125],[]]) (i8 `k) `k (by with_unfolding_all kernel_rfl)
theorem Ew (ns:List Int)(lo hi:Option Int):∃cs:List Int,cutV (ns.map V.int) lo hi=cs.map V.int/\cs.length<=ns.length:=by unfold cutV;rw[length_map,<- List.map_drop,<- map_take];exact⟨_,rfl,by rw[length_take,length_drop];lia⟩
theorem Ex {a b:Tq}(ha:NmOk a)(hb:NmOk b):rowM (wBoth++[32]++a++[32]++b)=some [wBoth,a,b]:=by
 rw[show wBoth++[32]++a++[32]++b=joinT 32 [wBoth,a,b] by simp[joinT,tlT]];exact (kg (kh λs hs=>by
  rcases mem_cons.mp hs with rfl|hs
  .exact bN ha
  .rw[mem_singleton.mp hs];exact bN hb)).trans (if_pos ⟨rfl,λz=>by
   rcases mem_cons.mp z with z|z
   .exact bV ha z.symm
   .exact bV hb (mem_singleton.mp z).symm⟩)
theorem qi {a m:Tq}{p r:List Pc×Bool}(h:a≠n/\a≠m):fdR [(n,p),(m,r)] a=none:=by simp[fdR,h.1.symm,h.2.symm]
noncomputable def tbX (nm:List Tq)(i:Nat):List Rw:=(nm.getD 0 [],pA)::(nm.getD 1 [],pB)::((nm.drop 2).take i).map λn=>(n,pX)
theorem i9 (h:2<=nm.length)(i:Nat):(tbX nm i).map (·.1)=nm.take (2+i):=by
 match nm,h with
 |a::b::r,_=>show a::b::(((r.take i).map λn=>(n,pX)).map (·.1))=_;rw[map_map,show ((λt:Rw=>t.1) ∘ λn=>(n,pX))=id from rfl,map_id,Nat.add_comm 2 i];rfl
theorem kj {i:Nat}(h:2+i<=nm.length):(tbX nm i).length=2+i:=by have:=congrArg List.length (i9 (nm:=nm) `l i);rw[length_map,length_take] at this;lia
theorem Ey {i:Nat}{x:Tq}(nd:nm.Nodup)(h:nm[2+i]?=some x):putR (tbX nm i) (x,pX)=tbX nm (i+1):=by
 have hl:2+i < nm.length:=(List.getElem?_eq_some_iff.mp h).1;rw[ka]
 .unfold tbX;rw[take_add_one,List.getElem?_drop,h];simp
 .rw[i9 `l];intro z;obtain⟨j,hj,e⟩:=List.getElem_of_mem z;rw[length_take] at hj;rw[List.getElem_take] at e;have:=(List.getElem?_eq_some_iff.mp h).2;exact List.pairwise_iff_getElem.mp nd j (2+i) `l hl `l (e.trans this.symm)
theorem Ez {j i:Nat}{x:Tq}(nd:nm.Nodup)(h:nm[j]?=some x)(hi:i<=j):x∉nm.take i:=by have hl:j < nm.length:=(List.getElem?_eq_some_iff.mp h).1;intro z;obtain⟨q,hq,e⟩:=List.getElem_of_mem z;rw[length_take] at hq;rw[List.getElem_take] at e;exact List.pairwise_iff_getElem.mp nd q j `l hl `l (e.trans (List.getElem?_eq_some_iff.mp h).2.symm)
theorem EA {j:Nat}{x:Tq}(nd:nm.Nodup)(h:nm[j]?=some x)(hj:16<=j):(decide ((tbX nm 14).length < 16) || (tbX nm 14).any λt=>decide (t.1=x))=false:=by have hl:j < nm.length:=(List.getElem?_eq_some_iff.mp h).1;rw[kj `l,decide_eq_false `d,Bool.false_or,List.any_eq_false];intro t ht z;refine Ez nd h hj ?_;rw[<- of_decide_eq_true z,show nm.take 16=nm.take (2+14) from rfl,<- i9 `l];exact List.mem_map_of_mem ht
noncomputable def wyX:List Tq:=[[120],[97]]
theorem EB:WyOk wyX true:=⟨`d,`d,`d⟩
theorem go_X (b:Ad):(goX b (wOnly wyX true)).rooted=true/\(goX b (wOnly wyX true)).steps=wyX/\(goX b (wOnly wyX true)).ends=true:=by show true=true/\(goW wyX true).1=wyX/\(goW wyX true).2=true;decide
theorem EC:(wOnly wyX true).shw=[47,120,47,97,47]:=by rw[DY];fail "k"
theorem ED {b y:Ad}(pb:plR b=b)(sc:b.scheme≠[]):goX y b=b:=by unfold goX whX;rw[if_pos sc,pb]
theorem EE {j:Nat}{x:Tq}(hl:2<=nm.length)(h:nm[j]?=some x)(hj:j < 16):(decide ((tbX nm 14).length < 16) || (tbX nm 14).any λt=>decide (t.1=x))=true:=by
 have m:x∈(tbX nm 14).map (·.1):=by rw[i9 hl];exact mem_of_getElem? (i:=j) (by rw[List.getElem?_take,if_pos hj];exact h)
 obtain⟨r,hr,e⟩:=mem_map.mp m;rw[Bool.or_eq_true,any_eq_true];exact .inr ⟨r,hr,decide_eq_true e⟩
theorem EF {a b c:Tq}{r:List Tq}:(tbX (a::b::c::r) 14).filter fitR=(c,pX)::(r.take 13).map λn=>(n,pX):=by
 show ((a,pA)::(b,pB)::(c,pX)::(r.take 13).map λn=>(n,pX)).filter fitR=_;rw[List.filter_cons_of_neg (show ¬ false=true by decide),List.filter_cons_of_neg (show ¬ false=true by decide),List.filter_eq_self.mpr];intro t ht;rcases mem_cons.mp ht with rfl|ht
 .rfl
 .obtain⟨n,_,rfl⟩:=mem_map.mp ht;rfl
theorem EG {i:Nat}:∀t∈tbX nm i,TwoS t.2.1:=by
 intro t ht;rcases mem_cons.mp ht with rfl|ht
 .exact⟨_,_,rfl,rfl,rfl⟩
 rcases mem_cons.mp ht with rfl|ht
 .exact⟨_,_,rfl,rfl,rfl⟩
 obtain⟨n,_,rfl⟩:=mem_map.mp ht;exact⟨_,_,rfl,rfl,rfl⟩
theorem nm_A (h:NmOk n):[65]≠n:=λz=>by have:=dk h.2 65 (by rw[<- z];exact mem_cons_self ..);lia
end
noncomputable def top (i:Nat):Stmt:=PySem.Challenge.pw_waymark_k87_rows_refused.main.body.getD i (.Pass ⟨0,0,0,0⟩)
noncomputable def kl:List (Str×PyData):=[(ofString "step",.int 6),(ofString "part",.int 5),(ofString "number",.int 4),(ofString "word",.int 3),(ofString "gap",.int 2),(ofString "rest",.int 1)]
noncomputable def iA:List (Str×PyData):=[(ofString "at",.int 0),(ofString "go",.int 0),(ofString "link",.int 0),(ofString "add",.int 1),(ofString "lead",.int 0),(ofString "both",.int 2)]
noncomputable abbrev qj:V:=.str (ofString "abcdefghijklmnopqrstuvwxyz")
noncomputable abbrev qk:V:=.str (ofString "0123456789")
noncomputable abbrev ql:V:=.str (ofString "abcdefghijklmnopqrstuvwxyzABCDEFGHIJKLMNOPQRSTUVWXYZ0123456789-_.")
noncomputable abbrev iB:V:=.str (ofString "!$'()*,;@&=+")
noncomputable abbrev km:V:=.str (ofString "!$'()*,;@+/?:")
noncomputable abbrev qm:V:=.str (ofString "!$'()*,;@&=+/?:")
noncomputable abbrev qo:V:=.str (ofString ".")
noncomputable abbrev k_UP:V:=.str (ofString "..")
noncomputable abbrev qp:V:=.str (ofString "234567")
set_option genInjectivity false
set_option genSizeOf false
set_option genSizeOfSpec false
structure D (K:`F)(mg:Str->Option Value) where
 EH:Fd K mg "made_of" (top 16) ["text","signs"]
 kn:Fd K mg "pair_of" (top 17) ["sign"]
 qq:Fd K mg "figure_number" (top 19) ["figure"]
 EI:Fd K mg "sign_numbered" (top 20) ["number"]
 qr:Fd K mg "is_whole" (top 37) ["address"]
 EJ:Fd K mg "is_tuple" (top 39) ["thing","count"]
 qt:Fd K mg "slashed" (top 54) ["rooted","texts","ends"]
 EK:Fd K mg "is_dot" (top 62) ["step"]
 EL:Fd K mg "go_up" (top 65) ["left","rooted"]
 EM:Fd K mg "rests_stand_last" (top 80) ["pieces"]
 qu:Fd K mg "is_gap" (top 83) ["piece"]
 qv:Fd K mg "name_of" (top 84) ["gap"]
 EN:Fd K mg "head_of" (top 85) ["piece"]
 EO:Fd K mg "tail_of" (top 86) ["piece"]
 EQ:Fd K mg "has_rest" (top 87) ["pattern"]
 ER:Fd K mg "is_word" (top 100) ["text"]
 qw:Fd K mg "bound_value" (top 101) ["gap","steps"]
 qz:Fd K mg "texts_around" (top 104) ["head","tail"]
 ko:Fd K mg "door_with" (top 117) ["door","cursor"]
 r0:Fd K mg "relative" (top 128) ["base","goal"]
 ES:Fd K mg "way_from" (top 136) ["base_way","way"]
 ET:Fd K mg "question_from" (top 137) ["base","address"]
 bw:Fd K mg "pattern_named" (top 145) ["table","name"]
 dv:Fd K mg "read_row" (top 151) ["row"]
 EU:Fd K mg "stands_in" (top 153) ["table","name"]
 r6:Fd K mg "_law_cell_at" (top 158) ["_law_script","_law_k"]
 EV:Fd K mg "_law_names" (top 160) ["_law_cell","_law_many"]
 EW:Fd K mg "_law_signs" (top 161) ["_law_cell"]
 EX:Fd K mg "_law_run" (top 162) ["_law_cell","_law_signs_here","_law_many"]
 EY:Fd K mg "_law_any" (top 163) ["_law_cell","_law_many"]
 EZ:Fd K mg "_law_row" (top 168) ["_law_names_here","_law_cell"]
 F0:Fd K mg "is_text" (top 15) ["thing"]
 kq:Fd K mg "sign_of" (top 18) ["figures"]
 iC:Fd K mg "written" (top 21) ["text"]
 F1:Fd K mg "steps_left" (top 64) ["steps","rooted"]
 r8:Fd K mg "is_name" (top 79) ["thing"]
 F2:Fd K mg "names_of" (top 82) ["pieces"]
 F3:Fd K mg "spread" (top 96) ["pattern","count"]
 kr:Fd K mg "step_fits" (top 97) ["piece","step"]
 F4:Fd K mg "made_whole" (top 135) ["base","address"]
 F5:Fd K mg "worth_of" (top 141) ["piece"]
 r9:Fd K mg "has_room" (top 152) ["table","name"]
 rA:Fd K mg "with_entry" (top 154) ["table","name","pattern"]
 F6:Fd K mg "_law_cells" (top 159) ["_law_script","_law_start","_law_many"]
 rB:Fd K mg "_law_one_step" (top 164) ["_law_cell","_law_signs_here"]
 F8:Fd K mg "_law_question" (top 165) ["_law_cell"]
 rC:Fd K mg "sign_written" (top 23) ["piece","free"]
 F9:Fd K mg "is_scheme" (top 38) ["thing"]
 Fa:Fd K mg "is_filled_text" (top 40) ["thing"]
 Fb:Fd K mg "shown_house" (top 52) ["house","door"]
 rD:Fd K mg "shown_way" (top 53) ["way"]
 rE:Fd K mg "shown_asked" (top 56) ["name","value"]
 Fc:Fd K mg "shown_mark" (top 57) ["mark"]
 Fe:Fd K mg "gone" (top 63) ["way"]
 Ff:Fd K mg "are_ends_of_part" (top 78) ["head","tail"]
 Fg:Fd K mg "names_are_unlike" (top 81) ["pieces"]
 rF:Fd K mg "fits" (top 95) ["pattern","way"]
 Fh:Fd K mg "fitting_texts" (top 105) ["piece"]
 dy:Fd K mg "taken_door" (top 116) ["cursor"]
 dz:Fd K mg "taken_pair" (top 124) ["cursor"]
 Fi:Fd K mg "worth_more" (top 140) ["one","other"]
 rG:Fd K mg "shown_value" (top 156) ["value"]
 Fj:Fd K mg "_law_address" (top 166) ["_law_cells_here","_law_signs_here","_law_whole"]
 Fk:Fd K mg "shown_question" (top 55) ["question"]
 rH:Fd K mg "with_way_gone" (top 66) ["address"]
 rJ:Fd K mg "is_piece" (top 77) ["thing"]
 Fl:Fd K mg "bound" (top 94) ["pattern","way"]
 Fm:Fd K mg "texts_for_both" (top 109) ["piece","beside"]
 rK:Fd K mg "taken_scheme" (top 114) ["cursor"]
 Fo:Fd K mg "worth_most" (top 144) ["entries"]
 rL:Fd K mg "shown_lead" (top 155) ["led"]
 iE:Fd K mg "show" (top 51) ["address"]
 Fp:Fd K mg "are_pieces" (top 76) ["things"]
 Fq:Fd K mg "read_gap" (top 90) ["head","inside","tail"]
 rM:Fd K mg "step_for_both" (top 108) ["piece","beside"]
 eC:Fd K mg "taken_way" (top 118) ["cursor","must_be_rooted"]
 bx:Fd K mg "taken_value" (top 120) ["cursor"]
 eG:Fd K mg "taken_mark" (top 121) ["cursor"]
 kt:Fd K mg "plain" (top 126) ["address"]
 rN:Fd K mg "resolved" (top 134) ["base","address"]
 rO:Fd K mg "lead" (top 143) ["table","way"]
 rP:Fd K mg "is_pattern" (top 75) ["thing"]
 rQ:Fd K mg "read_piece" (top 89) ["text"]
 rR:Fd K mg "meeting" (top 107) ["one","other"]
 eH:Fd K mg "taken_house" (top 115) ["cursor"]
 eI:Fd K mg "taken_question" (top 119) ["cursor"]
 eJ:Fd K mg "read_pattern" (top 88) ["text"]
 bz:Fd K mg "read" (top 113) ["text"]
 Fs:Fd K mg "_law_kind" (top 167) ["_law_desk","_law_row_here"]
 f_law:Fd K mg "law" (top 169) ["_law_script"]
 ku:Cn mg "SIGNS" (.str (ofString " !\"#$&'()*+,-./0123456789:;<=>?@ABCDEFGHIJKLMNOPQRSTUVWXYZ[\\]^_`abcdefghijklmnopqrstuvwxyz{|}~"))
 rS:Cn mg "SMALL_LETTERS" qj
 rT:Cn mg "LETTERS" (.str (ofString "abcdefghijklmnopqrstuvwxyzABCDEFGHIJKLMNOPQRSTUVWXYZ"))
 rV:Cn mg "LETTERS_AND_FIGURES" (.str (ofString "abcdefghijklmnopqrstuvwxyzABCDEFGHIJKLMNOPQRSTUVWXYZ0123456789"))
 ky:Cn mg "FIGURES" qk
 iF:Cn mg "PLAIN" ql
 fh:Cn mg "FREE_IN_STEPS" iB
 iG:Cn mg "FREE_IN_QUESTIONS" km
 rW:Cn mg "FREE_IN_MARKS" qm
 rX:Cn mg "FIRST_NUMBER" (.int 32)
 rY:Cn mg "LAST_NUMBER" (.int 126)
 rZ:Cn mg "NUMBER_LEFT_OUT" (.int 37)
 kz:Cn mg "SMALL_FIGURES" (.str (ofString "0123456789abcdef"))
 rc:Cn mg "GREAT_FIGURES" (.str (ofString "0123456789ABCDEF"))
 iH:Cn mg "SCHEME" (.int 0)
 iI:Cn mg "HOUSE" (.int 1)
 l9:Cn mg "DOOR" (.int 2)
 eM:Cn mg "WAY" (.int 3)
 iJ:Cn mg "QUESTION" (.int 4)
 lA:Cn mg "MARK" (.int 5)
 fi:Cn mg "ROOTED" (.int 0)
 fj:Cn mg "STEPS" (.int 1)
 iK:Cn mg "ENDS" (.int 2)
 re:Cn mg "LONGEST_SCHEME" (.int 8)
 rf:Cn mg "LONGEST_HOUSE" (.int 60)
 rg:Cn mg "LAST_DOOR" (.int 65535)
 iL:Cn mg "STAY" qo
 c_UP:Cn mg "UP" k_UP
 cy:Cn mg "PIECES" (.int 0)
 iM:Cn mg "CLOSES" (.int 1)
 rh:Cn mg "MOST_PIECES" (.int 12)
 ri:Cn mg "LONGEST_NAME" (.int 8)
 rj:Cn mg "TRIED_SIGNS" (.str (ofString "ab01"))
 rk:Cn mg "FIRST_FIGURES" qp
 rm:Cn mg "MOST_PATTERNS" (.int 16)
 fk:BltN mg "all" (.builtin "all")
 ro:BltN mg "ord" (.builtin "ord")
 aX:BltN mg "len" (.builtin "len")
 b4:BltN mg "isinstance" (.builtin "isinstance")
 bc:BltN mg "tuple" (.type "tuple")
 lB:BltN mg "list" (.type "list")
 fm:BltN mg "int" (.type "int")
 c0:BltN mg "str" (.type "str")
 cz:BltN mg "range" (.type "range")
 rp:BltN mg "set" (.type "set")
 iN:BltN mg "zip" (.type "zip")
 lC:BltN mg "enumerate" (.type "enumerate")
 rq:BltN mg "bool" (.type "bool")
 rz:BltN mg "max" (.builtin "max")
 sA:BltN mg "ValueError" (.type "ValueError")
structure G (w:World)(K:`F)(mg:Str->Option Value) extends D K mg where
 iO:Addr
 iP:FuncData
 sB:Fun K "__init__" "NoAddress.__init__" (inClass (top 44) 0) iO iP
 dA:Binds K iP ["self","at"] []
 iQ:Addr
 iR:FuncData
 sC:Fun K "__init__" "Cursor.__init__" (inClass (top 112) 0) iQ iR
 sD:Binds K iR ["self","text"] []
 iS:Addr
 iT:FuncData
 sE:Fun K "at_end" "Cursor.at_end" (inClass (top 112) 1) iS iT
 lD:Binds K iT ["self"] []
 iU:Addr
 iV:FuncData
 sF:Fun K "take" "Cursor.take" (inClass (top 112) 3) iU iV
 eQ:Binds K iV ["self"] []
 iW:Addr
 iX:FuncData
 sG:Fun K "passes" "Cursor.passes" (inClass (top 112) 4) iW iX
 bd:Binds K iX ["self","text"] []
 iY:Addr
 iZ:FuncData
 sH:Fun K "sees" "Cursor.sees" (inClass (top 112) 2) iY iZ
 ft:Binds K iZ ["self","signs"] []
 ia:Addr
 fu:FuncData
 sI:Addr
 sJ:Tok
 fw:FunD K "undone" "undone" (top 22) ia fu sI
 Ft:Binds K fu ["text","free"] [.str (ofString "") sJ]
 ic:mg "undone"=some (.ref ia)
 ie:Binds K fu ["text","free"] []
 ig:Addr
 fz:FuncData
 sK:Addr
 Fu:Tok
 cN:FunD K "taken_text" "taken_text" (top 123) ig fz sK
 eR:Binds K fz ["cursor","free","most"] [.none]
 dB:mg "taken_text"=some (.ref ig)
 sL:Binds K fz ["cursor","free","most"] []
 ii:Addr
 g9:FuncData
 sM:Addr
 Fv:Tok
 ij:FunD K "taken_filled_text" "taken_filled_text" (top 122) ii g9 sM
 sN:Binds K g9 ["cursor","free","most"] [.none]
 lE:mg "taken_filled_text"=some (.ref ii)
 sO:Binds K g9 ["cursor","free","most"] []
 ik:Addr
 il:FuncData
 sP:Fun K "both" "Desk.both" (inClass (top 150) 5) ik il
 sQ:Binds K il ["self","one","other"] []
 io:Addr
 ip:FuncData
 sR:Fun K "__init__" "Desk.__init__" (inClass (top 150) 0) io ip
 sS:Binds K ip ["self","text"] []
 iq:Addr
 ir:FuncData
 sU:Fun K "goal_of" "Desk.goal_of" (inClass (top 150) 2) iq ir
 lF:Binds K ir ["self","text"] []
 iu:Addr
 iw:FuncData
 sW:Fun K "put" "Desk.put" (inClass (top 150) 4) iu iw
 sX:Binds K iw ["self","name","text"] []
 iy:Addr
 iz:FuncData
 sY:Fun K "go" "Desk.go" (inClass (top 150) 3) iy iz
 sZ:Binds K iz ["self","text"] []
 j0:Addr
 j1:FuncData
 si:Fun K "say" "Desk.say" (inClass (top 150) 1) j0 j1
 bO:Binds K j1 ["self","row"] []
 aM:Addr
 aI:Cls K aM
 c9:NoAttr K aM "text"
 ar:NoAttr K aM "place"
 sj:mg "Cursor"=some (.ref aM)
 sk:Mk K aM iQ
 lG:Meth K aM "at_end" iS
 eU:Meth K aM "take" iU
 be:Meth K aM "passes" iW
 gA:Meth K aM "sees" iY
 aO:Addr
 aU:Cls K aO
 cO:NoAttr K aO "address"
 cA:NoAttr K aO "table"
 so:mg "Desk"=some (.ref aO)
 sq:Mk K aO io
 sr:Meth K aO "both" ik
 lH:Meth K aO "goal_of" iq
 su:Meth K aO "put" iu
 sv:Meth K aO "go" iy
 bP:Meth K aO "say" j0
 gC:Addr
 lI:mg "NO_WAY"=some (.ref gC)
 lJ:∀H,IsK K H (.tuple [.bool false,.tuple [],.bool false]) (.ref gC)
 j2:Addr
 sw:mg "NAMED_WORDS"=some (.ref j2)
 t0:∀H,IsK K H (.tuple [.str (ofString "number"),.str (ofString "word"),.str (ofString "gap"),.str (ofString "rest")]) (.ref j2)
 j3:Addr
 t5:mg "WRITTEN_WORDS"=some (.ref j3)
 t6:∀H,IsK K H (.tuple [.str (ofString "number"),.str (ofString "word"),.str (ofString "rest")]) (.ref j3)
 j4:Addr
 t7:mg "WORTH_OF_WORDS"=some (.ref j4)
 t8:∀(P:Program) (h:Heap),K.In h->PyProof.Rows.StrTab P w h j4 (kl.map λp=>(PyData.str p.1,p.2))
 gD:Addr
 lK:mg "NAMES_BEHIND"=some (.ref gD)
 lL:∀(P:Program) (h:Heap),K.In h->PyProof.Rows.StrTab P w h gD (iA.map λp=>(PyData.str p.1,p.2))
 gE:Addr
 lM:mg "WITH_TEXT"=some (.ref gE)
 lN:∀H,IsK K H (.tuple [.str (ofString "go"),.str (ofString "link"),.str (ofString "add")]) (.ref gE)
 aP:Addr
 cP:mg "NoAddress"=some (.ref aP)
 aZ:Addr
 j5:mg "NoPattern"=some (.ref aZ)
 af:Addr
 j6:mg "NoName"=some (.ref af)
 ak:Addr
 gF:mg "NoRow"=some (.ref ak)
 cQ:Addr
 t9:mg "NoValue"=some (.ref cQ)
 cR:Addr
 tD:mg "NoBase"=some (.ref cR)
 dC:Addr
 tE:mg "WayError"=some (.ref dC)
 j7:excInJ K ak vErr vNew none=true
 lO:excInJ K af vErr vNew none=true
 lP:excInJ K aZ vErr vNew none=true
 tF:Catch K dC
 tG:ExLook K aP
 tH:ExLook K ak
 tI:ExLook K af
 tJ:ExLook K aZ
 dD:Mk1 K aP iO
 tK:ExSt K aP "at"
 Fw:ExFld K aP "at"
 tL:W.subIn K (.ref aP) (.ref dC)=some true
 tM:W.subIn K (.ref ak) (.ref dC)=some true
 tN:W.subIn K (.ref af) (.ref dC)=some true
 tO:W.subIn K (.ref aZ) (.ref dC)=some true
 tP:W.kitOne K (.ref aP) (.type "ValueError")=some true
 tQ:W.kitOne K (.ref ak) (.type "ValueError")=some true
 tR:W.kitOne K (.ref af) (.type "ValueError")=some true
 tS:W.kitOne K (.ref aZ) (.type "ValueError")=some true
 tT:W.kitOne K (.ref aP) (.ref cR)=some false
 tU:W.kitOne K (.ref ak) (.ref cR)=some false
 tW:W.kitOne K (.ref af) (.ref cR)=some false
 tX:W.kitOne K (.ref aZ) (.ref cR)=some false
 tZ:W.kitOne K (.ref aP) (.ref cQ)=some false
 tf:W.kitOne K (.ref ak) (.ref cQ)=some false
 tj:W.kitOne K (.ref af) (.ref cQ)=some false
 tm:W.kitOne K (.ref aZ) (.ref cQ)=some false
 tq:W.kitOne K (.ref aP) (.ref ak)=some false
 tw:W.kitOne K (.ref ak) (.ref ak)=some true
 u0:W.kitOne K (.ref af) (.ref ak)=some false
 u3:W.kitOne K (.ref aZ) (.ref ak)=some false
 u4:W.kitOne K (.ref aP) (.ref af)=some false
 u6:W.kitOne K (.ref ak) (.ref af)=some false
 u7:W.kitOne K (.ref af) (.ref af)=some true
 u8:W.kitOne K (.ref aZ) (.ref af)=some false
 u9:W.kitOne K (.ref aP) (.ref aP)=some true
 uA:W.kitOne K (.ref ak) (.ref aP)=some false
 uB:W.kitOne K (.ref af) (.ref aP)=some false
 uC:W.kitOne K (.ref aZ) (.ref aP)=some false
 uD:W.kitOne K (.ref aP) (.ref aZ)=some false
 uE:W.kitOne K (.ref ak) (.ref aZ)=some false
 uF:W.kitOne K (.ref af) (.ref aZ)=some false
 uG:W.kitOne K (.ref aZ) (.ref aZ)=some true
inductive sp_made_of (vs:`V)(H:Hp)(Q:VK)(E:XK):Prop
 |mk (x y:Str):vs=[.str x,.str y]->x.length<=100000->(∀H',Same H H'->Q (.bl (x.cps.toList.all λc=>decide (c∈y.cps.toList))) H')->sp_made_of vs H Q E
def uH:Sp:=λvs H Q _=>∃c:Nat,vs=[one c]/\c < 256/\Q (.str ⟨[126,hexd (c / 16),hexd (c % 16)].toArray⟩) H
def uI:Sp:=λvs H Q _=>∃a:Nat,vs=[one a]/\a < 128/\Q (figV a) H
inductive sp_sign_numbered (vs:`V)(H:Hp)(Q:VK)(E:XK):Prop
 |mk (n:Nat):vs=[.int (n:Int)]->Q (sgV n) H->sp_sign_numbered vs H Q E
inductive sp_is_whole (K:`F)(vs:`V)(H:Hp)(Q:VK)(E:XK):Prop
 |mk (p:Addr) (l:Tq) (r:`V):vs=[.ref p]->SqT K H p (.str ⟨l.toArray⟩::r)->Q (.bl (!decide (l=[]))) H->sp_is_whole K vs H Q E
inductive sp_is_tuple (vs:`V)(H:Hp)(Q:VK)(E:XK):Prop
 |mk (d:PyData) (v:V) (n:Int):vs=[v,.int n]->Is H d v->Q (.bl (tupN n d)) H->sp_is_tuple vs H Q E
def uJ (K:`F)(C:Addr):Sp:=λvs H Q _=>∃(a:Addr) (v:V),vs=[.ref a,v]/\H a=some (exNew a C)/\∀d,H d=none->Q .non (upd (upd H a (exSet a C d)) d (.xd [("at",v)]))
theorem cC {K:`F}{C:Addr}{H:Hp}{E:XK}{v:V}(hE:∀d H',Same H H'->H' d=some (.xd [("at",v)])->E (.ref C) (some d) H'):∀a,H a=none->uJ K C [.ref a,v] (upd H a (exNew a C)) (λu H2=>u=.non/\∃d,H2 a=some (exSet a C d)/\E (.ref C) (some d) (forget H2 a)) E0:=by
 intro a ha;refine⟨a,v,rfl,aE,λd hd=>?_⟩;have hda:d≠a:=λz=>by rw[z,aE] at hd;cases hd
 rw[aD hda] at hd;refine⟨rfl,d,by rw[aD hda.symm,aE],hE d _ (λb o e=>?_) ?_⟩
 .have ba:b≠a:=aJ e ha;rw[bv ba,aD (aJ e hd),aD ba,aD ba];exact e
 .rw[bv hda,aE]
inductive sp_slashed (K:`F)(vs:`V)(H:Hp)(Q:VK)(E:XK):Prop
 |mk (r e:Bool) (p:Addr) (ts:List Tq):vs=[.bl r,.ref p,.bl e]->SqL K H p (ts.map λl=>V.str `A)->(joinT 47 ts).length<=90000->Q (.str ⟨(slT r ts e).toArray⟩) H->sp_slashed K vs H Q E
inductive sp_is_dot (vs:`V)(H:Hp)(Q:VK)(E:XK):Prop
 |mk (s:Stp):vs=[sV s]->Q (.bl (isDot s)) H->sp_is_dot vs H Q E
inductive sp_go_up (K:`F)(vs:`V)(H:Hp)(Q:VK)(E:XK):Prop
 |mk (p:Addr) (L:List Stp):vs=[.ref p,.bl true]->H p=some (.lst (L.map sV))->(∀s∈L,s≠sUp)->Q .non (upd H p (.lst (L.dropLast.map sV)))->sp_go_up K vs H Q E
inductive sp_rests_stand_last (K:`F)(vs:`V)(H:Hp)(Q:VK)(E:XK):Prop
 |mk (cs:List Pc) (xs:`V) (q:Addr):vs=[.ref q]->H q=some (.tup xs)->PcAll K H cs xs->cs.length<=1000->(∀H',Same H H'->Q (.bl (restsL cs)) H')->sp_rests_stand_last K vs H Q E
inductive sp_is_gap (K:`F)(vs:`V)(H:Hp)(Q:VK)(E:XK):Prop
 |mk (c:Pc) (p:Addr):vs=[.ref p]->SqT K H p c.vals->Q (.bl (!c.isStep)) H->sp_is_gap K vs H Q E
inductive sp_name_of (K:`F)(vs:`V)(H:Hp)(Q:VK)(E:XK):Prop
 |mk (c:Pc) (p:Addr):vs=[.ref p]->SqT K H p c.vals->c.isStep=false->Q (tV c.name) H->sp_name_of K vs H Q E
inductive sp_head_of (K:`F)(vs:`V)(H:Hp)(Q:VK)(E:XK):Prop
 |mk (c:Pc) (p:Addr):vs=[.ref p]->H p=some (.tup c.vals)->smp c=true->Q (tV []) H->sp_head_of K vs H Q E
inductive sp_tail_of (K:`F)(vs:`V)(H:Hp)(Q:VK)(E:XK):Prop
 |mk (c:Pc) (p:Addr):vs=[.ref p]->H p=some (.tup c.vals)->smp c=true->Q (tV []) H->sp_tail_of K vs H Q E
inductive sp_has_rest (K:`F)(vs:`V)(H:Hp)(Q:VK)(E:XK):Prop
 |mk (c d:Pc) (p q:Addr) (e:Bool):vs=[.ref p]->H p=some (.tup [.ref q,.bl e])->Two H q c d->Q (.bl d.isRest) H->sp_has_rest K vs H Q E
def Fx:Sp:=λ_ _ _ _=>False
inductive sp_bound_value (K:`F)(vs:`V)(H:Hp)(Q:VK)(E:XK):Prop
 |mk (p q:Addr):vs=[.ref p,.ref q]->H p=some (.tup (Pc.rest wR).vals)->SqT K H q [tV [97]]->(∀(l:Addr) (H':Hp),H l=none->Same H H'->H' l=some (.lst [tV [97]])->Q (.ref l) H')->sp_bound_value K vs H Q E
def Fy (K:`F):Sp:=λvs H Q _=>vs=[tV [],tV []]/\∀(p:Addr) (H':Hp),Same H H'->H' p=some (.lst [tV [97],tV [98],tV [48],tV [49]])->Q (.ref p) H'
inductive sp_Cursor___init__ (K:`F)(C:Addr)(vs:`V)(H:Hp)(Q:VK)(E:XK):Prop
 |mk (p dx:Addr) (t:Tq):vs=[.ref p,.str ⟨t.toArray⟩]->H p=some (.ins C dx [])->(∀H',SameBut p H H'->Cur H' C p t 0->Q .non H')->sp_Cursor___init__ K C vs H Q E
inductive sp_Cursor_at_end (K:`F)(C:Addr)(vs:`V)(H:Hp)(Q:VK)(E:XK):Prop
 |mk (p:Addr) (t:Tq) (i:Nat):vs=[.ref p]->Cur H C p t i->`t<=100000->Q (.bl (decide (i=`t))) H->sp_Cursor_at_end K C vs H Q E
inductive sp_Cursor_take (K:`F)(C:Addr)(vs:`V)(H:Hp)(Q:VK)(E:XK):Prop
 |mk (p:Addr) (t:Tq) (i c:Nat):vs=[.ref p]->Cur H C p t i->t[i]?=some c->`t<=100000->(∀H',SameBut p H H'->Cur H' C p t (i+1)->Q (.str ⟨#[c]⟩) H')->sp_Cursor_take K C vs H Q E
inductive sp_Cursor_passes (K:`F)(C:Addr)(vs:`V)(H:Hp)(Q:VK)(E:XK):Prop
 |mk (p:Addr) (t w:Tq) (i:Nat):vs=[.ref p,.str ⟨w.toArray⟩]->Cur H C p t i->i<=`t->`t<=100000->((t.drop i).take w.length=w->∀H',SameBut p H H'->Cur H' C p t (i+w.length)->Q (.bl true) H')->(¬ (t.drop i).take w.length=w->Q (.bl false) H)->sp_Cursor_passes K C vs H Q E
inductive sp_door_with (K:`F)(C:Addr)(vs:`V)(H:Hp)(Q:VK)(E:XK):Prop
 |mk (p:Addr) (t:Tq) (i c n:Nat):vs=[.int (n:Int),.ref p]->Cur H C p t i->`t<=100000->t[i]?=some c->48<=c->c<=57->n<=100000->Q (.int ((n * 10+(c - 48):Nat):Int)) H->sp_door_with K C vs H Q E
def Fz:Sp:=λ_ _ _ _=>False
inductive sp_way_from (K:`F)(vs:`V)(H:Hp)(Q:VK)(E:XK):Prop
 |mk (x:Ad) (vb vw:V):vs=[vb,vw]->IsK K H (wayOf x.w) vw->x.Wf->x.rooted=true->Q vw H->sp_way_from K vs H Q E
inductive sp_question_from (K:`F)(vs:`V)(H:Hp)(Q:VK)(E:XK):Prop
 |mk (x:Ad) (vb vx:V):vs=[vb,vx]->IsK K H x.data vx->x.Wf->x.rooted=true->(∀v:V,IsK K H (qD x.quest) v->Q v H)->sp_question_from K vs H Q E
def FA (K:`F)(CN:Addr):Sp:=λvs H Q E=>∃(l:Addr) (T:List Rw) (ws:`V) (n:Tq),vs=[.ref l,tV n]/\H l=some (.lst ws)/\TbV H T ws/\(∀t,T.find? (λt=>decide (t.1=n))=some t->∀(p:Addr) (H':Hp),Same H H'->PtAt H' t.2.1 t.2.2 p->Q (.ref p) H')/\(T.find? (λt=>decide (t.1=n))=none->∀H',Same H H'->E (.ref CN) none H')
def FB (K:`F)(CR:Addr):Sp:=λvs H Q E=>∃v:V,vs=[v]/\((∃ty,TyOf K H v ty/\W.kitOne K ty (.type "str")=some false/\∀H',Same H H'->E (.ref CR) none H')\/∃row:Tq,v=tV row/\row.length<=90100/\(rowM row=none->∀H',Same H H'->E (.ref CR) none H')/\∀ws,rowM row=some ws->∀(l:Addr) (H':Hp),Same H H'->H' l=some (.lst (ws.map tV))->Q (.ref l) H')
inductive sp_stands_in (K:`F)(vs:`V)(H:Hp)(Q:VK)(E:XK):Prop
 |mk (l:Addr) (T:List Rw) (ws:`V) (n:Tq):vs=[.ref l,tV n]->H l=some (.lst ws)->TbV H T ws->T.length<=90->(∀H',Same H H'->Q (.bl (T.any λt=>decide (t.1=n))) H')->sp_stands_in K vs H Q E
inductive sp__law_cell_at (K:`F)(vs:`V)(H:Hp)(Q:VK)(E:XK):Prop
 |mk (a:Addr) (ns:List Int) (k:Nat):vs=[.ref a,.int (k:Int)]->SqL K H a (ns.map V.int)->Q (.int (ns.getD k 0)) H->sp__law_cell_at K vs H Q E
inductive sp__law_names (K:`F)(vs:`V)(H:Hp)(Q:VK)(E:XK):Prop
 |mk (c:Int) (m:Nat):vs=[.int c,.int (m:Int)]->m<=26->(∀(ns:List Tq) (p:Addr) (H':Hp),ns.length=m->(∀n∈ns,0 < n.length/\n.length<=8/\n.all isSma=true)->ns.Nodup->Same H H'->H' p=some (.lst (ns.map tV))->Q (.ref p) H')->sp__law_names K vs H Q E
inductive sp__law_signs (K:`F)(vs:`V)(H:Hp)(Q:VK)(E:XK):Prop
 |mk (c:Int):vs=[.int c]->(∀(l:Tq) (H':Hp),0 < `L->`L<=5->(∀c∈l,isSg c=true)->Same H H'->Q (tV l) H')->sp__law_signs K vs H Q E
inductive sp__law_run (vs:`V)(H:Hp)(Q:VK)(E:XK):Prop
 |mk (c:Int) (g:Tq) (m:Nat):vs=[.int c,tV g,.int (m:Int)]->0 < g.length->g.length<=100->m<=100->(∀l:Tq,`L=m->(∀x∈l,x∈g)->Q (tV l) H)->sp__law_run vs H Q E
inductive sp__law_any (vs:`V)(H:Hp)(Q:VK)(E:XK):Prop
 |mk (c:Int) (m:Nat):vs=[.int c,.int (m:Int)]->m<=20->(∀l:Tq,`L=m->(∀x∈l,isSg x=true)->Q (tV l) H)->sp__law_any vs H Q E
inductive sp__law_row (K:`F)(vs:`V)(H:Hp)(Q:VK)(E:XK):Prop
 |mk (q:Addr) (nm:List Tq) (c:Int):vs=[.ref q,.int c]->H q=some (.lst (nm.map tV))->4<=nm.length->(∀n∈nm,NmOk n)->nm.Nodup->(∀(r:Addr) (v:V) (i:Nat) (H':Hp),Same H H'->H' r=some (.tup [v,tV (kdW i)])->i < 4->RowD nm H' v i->Q (.ref r) H')->sp__law_row K vs H Q E
inductive sp_is_text (vs:`V)(H:Hp)(Q:VK)(E:XK):Prop
 |mk (d:PyData) (v:V):vs=[v]->Is H d v->smallD d=true->(∀H',Same H H'->Q (.bl (tx d)) H')->sp_is_text vs H Q E
def uK:Sp:=λvs H Q _=>∃l:Tq,vs=[.str `A]/\`L<=1000/\(∀c∈l,c < 128)/\Q (signOfL l) H
def gG:Sp:=λvs H Q _=>∃l:Tq,vs=[.str `A]/\`L<=2000/\(∀c∈l,isSg c=true)/\∀H',Same H H'->Q (.str ⟨(wr l).toArray⟩) H'
inductive sp_steps_left (K:`F)(vs:`V)(H:Hp)(Q:VK)(E:XK):Prop
 |mk (ps:Addr) (ss:List Stp):vs=[.ref ps,.bl true]->SqT K H ps (ss.map sV)->ss.length<=2000->(∀p H',Same H H'->H' p=some (.tup ((leftS ss).map sV))->Q (.ref p) H')->sp_steps_left K vs H Q E
inductive sp_is_name (vs:`V)(H:Hp)(Q:VK)(E:XK):Prop
 |mk (d:PyData) (v:V):vs=[v]->Is H d v->smallD d=true->(∀H',Same H H'->Q (.bl (nameD d)) H')->sp_is_name vs H Q E
inductive sp_names_of (K:`F)(vs:`V)(H:Hp)(Q:VK)(E:XK):Prop
 |mk (cs:List Pc) (xs:`V) (q:Addr):vs=[.ref q]->SqT K H q xs->PcAll K H cs xs->cs.length<=1000->(∀(p:Addr) (H':Hp),Same H H'->H' p=some (.lst ((gapsM cs).map tV))->Q (.ref p) H')->sp_names_of K vs H Q E
inductive sp_spread (K:`F)(vs:`V)(H:Hp)(Q:VK)(E:XK):Prop
 |mk (c d:Pc) (p q:Addr) (e:Bool):vs=[.ref p,.int 2]->H p=some (.tup [.ref q,.bl e])->Two H q c d->(∀(r:Addr) (H':Hp),Same H H'->Two H' r c d->Q (.ref r) H')->sp_spread K vs H Q E
inductive sp_step_fits (K:`F)(vs:`V)(H:Hp)(Q:VK)(E:XK):Prop
 |mk (c:Pc) (s:Tq) (p:Addr):vs=[.ref p,tV s]->H p=some (.tup c.vals)->smp c=true->isDot s=false->Q (.bl (fS c s)) H->sp_step_fits K vs H Q E
inductive sp_Cursor_sees (K:`F)(C:Addr)(vs:`V)(H:Hp)(Q:VK)(E:XK):Prop
 |mk (p:Addr) (t sg:Tq) (i:Nat):vs=[.ref p,.str ⟨sg.toArray⟩]->Cur H C p t i->i<=`t->`t<=100000->Q (.bl (seesB t sg i)) H->sp_Cursor_sees K C vs H Q E
inductive sp_made_whole (K:`F)(vs:`V)(H:Hp)(Q:VK)(E:XK):Prop
 |mk (b x:Ad) (vb vx:V):vs=[vb,vx]->IsK K H b.data vb->IsK K H x.data vx->x.Wf->x.house=none->x.rooted=true->(∀(v:V) (H':Hp),Same H H'->IsK K H' ({x with scheme:=b.scheme,house:=b.house,door:=b.door}:Ad).data v->Q v H')->sp_made_whole K vs H Q E
inductive sp_worth_of (K:`F)(vs:`V)(H:Hp)(Q:VK)(E:XK):Prop
 |mk (c:Pc) (p:Addr):vs=[.ref p]->H p=some (.tup c.vals)->((c=.step [120]\/c=.rest wR))->(∀(r:Addr) (H':Hp),Same H H'->H' r=some (.tup ((worX c).map V.int))->Q (.ref r) H')->sp_worth_of K vs H Q E
inductive sp_has_room (K:`F)(vs:`V)(H:Hp)(Q:VK)(E:XK):Prop
 |mk (l:Addr) (T:List Rw) (ws:`V) (n:Tq):vs=[.ref l,tV n]->H l=some (.lst ws)->TbV H T ws->T.length<=16->(∀H',Same H H'->Q (.bl (decide (T.length < 16) || T.any λt=>decide (t.1=n))) H')->sp_has_room K vs H Q E
inductive sp_with_entry (K:`F)(vs:`V)(H:Hp)(Q:VK)(E:XK):Prop
 |mk (l p:Addr) (T:List Rw) (ws:`V) (t:Rw):vs=[.ref l,tV t.1,.ref p]->H l=some (.lst ws)->TbV H T ws->T.length<=90->PtAt H t.2.1 t.2.2 p->(∀(l':Addr) (ws':`V) (H':Hp),H l'=none->Same H H'->H' l'=some (.lst ws')->TbV H' (putR T t) ws'->Q (.ref l') H')->sp_with_entry K vs H Q E
inductive sp__law_cells (K:`F)(vs:`V)(H:Hp)(Q:VK)(E:XK):Prop
 |mk (a:Addr) (ns:List Int) (s m:Nat):vs=[.ref a,.int (s:Int),.int (m:Int)]->SqL K H a (ns.map V.int)->m<=100->(∀(is:List Int) (p:Addr) (H':Hp),is.length=m->Same H H'->H' p=some (.lst (is.map V.int))->Q (.ref p) H')->sp__law_cells K vs H Q E
inductive sp__law_one_step (vs:`V)(H:Hp)(Q:VK)(E:XK):Prop
 |mk (c:Int) (g:Tq):vs=[.int c,tV g]->0 < g.length->g.length<=100->(∀x∈g,isSg x=true)->(∀l:Tq,l≠[]->`L<=3->(∀x∈l,isSg x=true)->Q (tV l) H)->sp__law_one_step vs H Q E
inductive sp__law_question (K:`F)(vs:`V)(H:Hp)(Q:VK)(E:XK):Prop
 |mk (c:Int):vs=[.int c]->(∀(qs:Option (List (Tq×Option Tq))) (v:V) (H':Hp),QSm qs->Same H H'->IsT H' (qD qs) v->Q v H')->sp__law_question K vs H Q E
def uL:Sp:=λvs H Q _=>∃(c:Nat) (r fr:Tq),vs=[.str ⟨(c::r).toArray⟩,.str ⟨fr.toArray⟩]/\r.length<=1000/\(∀d∈c::r,d < 128)/\(c=126\/r=[])/\Q (swV fr (c::r)) H
inductive sp_is_scheme (vs:`V)(H:Hp)(Q:VK)(E:XK):Prop
 |mk (d:PyData) (v:V):vs=[v]->Is H d v->smallD d=true->(∀H',Same H H'->Q (.bl (schD d)) H')->sp_is_scheme vs H Q E
inductive sp_is_filled_text (vs:`V)(H:Hp)(Q:VK)(E:XK):Prop
 |mk (d:PyData) (v:V):vs=[v]->Is H d v->smallD d=true->(∀H',Same H H'->Q (.bl (ftx d)) H')->sp_is_filled_text vs H Q E
inductive sp_shown_house (vs:`V)(H:Hp)(Q:VK)(E:XK):Prop
 |mk (o:Option Tq) (d:Option Int):vs=[otV o,itV d]->(∀l,o=some l->`L<=60/\∀c∈l,isSg c=true)->(∀i,d=some i->(0<=i/\i<=65535)/\o≠none)->(∀H',Same H H'->Q (.str ⟨(houT o++dooT d).toArray⟩) H')->sp_shown_house vs H Q E
inductive sp_shown_way (K:`F)(vs:`V)(H:Hp)(Q:VK)(E:XK):Prop
 |mk (r e:Bool) (ss:List Tq) (p q:Addr):vs=[.ref p]->SqT K H p [.bl r,.ref q,.bl e]->SqT K H q (ss.map λl=>V.str `A)->(∀s∈ss,s.length<=2000/\∀c∈s,isSg c=true)->ss.length<=2000->(wayT r ss e).length<=90000->(∀H',Same H H'->Q (.str ⟨(wayT r ss e).toArray⟩) H')->sp_shown_way K vs H Q E
inductive sp_shown_asked (vs:`V)(H:Hp)(Q:VK)(E:XK):Prop
 |mk (n:Tq) (o:Option Tq):vs=[.str ⟨n.toArray⟩,otV o]->PairOk (n,o)->n.length<=2000->(∀l,o=some l->`L<=2000)->(∀H',Same H H'->Q (.str ⟨(pairT (n,o)).toArray⟩) H')->sp_shown_asked vs H Q E
inductive sp_shown_mark (vs:`V)(H:Hp)(Q:VK)(E:XK):Prop
 |mk (o:Option Tq):vs=[otV o]->(∀l,o=some l->`L<=2000/\∀c∈l,isSg c=true)->(∀H',Same H H'->Q (.str ⟨(oT 35 o).toArray⟩) H')->sp_shown_mark vs H Q E
inductive sp_gone (K:`F)(vs:`V)(H:Hp)(Q:VK)(E:XK):Prop
 |mk (ss:List Stp) (e:Bool) (v:V):vs=[v]->IsK K H (wayOf (true,ss,e)) v->(ss=[]->e=true)->ss.length<=2000->(∀(u:V) (H':Hp),Same H H'->IsK K H' (wayOf (true,(goW ss e).1,(goW ss e).2)) u->Q u H')->sp_gone K vs H Q E
inductive sp_are_ends_of_part (vs:`V)(H:Hp)(Q:VK)(E:XK):Prop
 |mk (d e:PyData) (v u:V):vs=[v,u]->Is H d v->Is H e u->smallD d=true->smallD e=true->(∀H',Same H H'->Q (.bl (endsD d e)) H')->sp_are_ends_of_part vs H Q E
inductive sp_names_are_unlike (K:`F)(vs:`V)(H:Hp)(Q:VK)(E:XK):Prop
 |mk (cs:List Pc) (xs:`V) (q:Addr):vs=[.ref q]->H q=some (.tup xs)->PcAll K H cs xs->cs.length<=1000->(∀H',Same H H'->Q (.bl (decide ((gapsM cs).Nodup))) H')->sp_names_are_unlike K vs H Q E
inductive sp_fits (K:`F)(vs:`V)(H:Hp)(Q:VK)(E:XK):Prop
 |mk (c d:Pc) (p q pw ps:Addr) (cl:Bool):vs=[.ref p,.ref pw]->H p=some (.tup [.ref q,.bl cl])->Two H q c d->smp c=true->smp d=true->SqT K H pw [.bl true,.ref ps,.bl true]->SqT K H ps [tV [120],tV [97]]->(∀H',Same H H'->Q (.bl (cl && (fS c [120] && fS d [97]))) H')->sp_fits K vs H Q E
inductive sp_fitting_texts (K:`F)(vs:`V)(H:Hp)(Q:VK)(E:XK):Prop
 |mk (c:Pc) (p:Addr):vs=[.ref p]->H p=some (.tup c.vals)->ndT c->(∀(q:Addr) (H':Hp),Same H H'->H' q=some (.lst ((fitT2 c).map tV))->Q (.ref q) H')->sp_fitting_texts K vs H Q E
def FC (K:`F)(C CN:Addr):Sp:=λvs H Q E=>∃(p:Addr) (t:Tq) (i:Nat),vs=[.ref p]/\Cur H C p t i/\i<=`t/\`t<=100000/\(∀c∈t,c < 128)/\Tk CN H C p t i (dooM (t.drop i)) (λo H'=>Q (itV o) H') E
def FD (K:`F)(C CN:Addr):Sp:=λvs H Q E=>∃(p:Addr) (t:Tq) (i:Nat),vs=[.ref p]/\Cur H C p t i/\i<=`t/\`t<=100000/\(∀c∈t,c < 128)/\Tk CN H C p t i (prM (t.drop i)) (λc H'=>Q (.str ⟨#[c]⟩) H') E
inductive sp_worth_more (K:`F)(vs:`V)(H:Hp)(Q:VK)(E:XK):Prop
 |mk (p q p' q':Addr):vs=[.ref p,.ref p']->H p=some (.tup [.ref q,.bl true])->Two H q (.step [120]) (.rest wR)->H p'=some (.tup [.ref q',.bl true])->Two H q' (.step [120]) (.rest wR)->(∀H',Same H H'->Q (.bl false) H')->sp_worth_more K vs H Q E
inductive sp_shown_value (K:`F)(vs:`V)(H:Hp)(Q:VK)(E:XK):Prop
 |mk (q:Addr):vs=[.ref q]->H q=some (.lst [tV [97]])->(∀H',Same H H'->Q (tV [97]) H')->sp_shown_value K vs H Q E
inductive sp__law_address (K:`F)(vs:`V)(H:Hp)(Q:VK)(E:XK):Prop
 |mk (pc:Addr) (is:List Int) (g:Tq) (wh:Bool):vs=[.ref pc,tV g,.bl wh]->H pc=some (.lst (is.map V.int))->is.length=7->0 < g.length->g.length<=100->(∀x∈g,isSg x=true)->(∀(x:Ad) (u:V) (H':Hp),x.Ok->x.Tiny->x.steps.length<=3->(wh=true->x.scheme≠[])->Same H H'->IsT H' x.data u->Q u H')->sp__law_address K vs H Q E
def uM:Sp:=λvs H Q _=>∃l fr:Tq,vs=[.str `A,.str ⟨fr.toArray⟩]/\`L<=2000/\(∀c∈l,c < 128)/\∀H',Same H H'->Q (undV (und fr l)) H'
inductive sp_shown_question (K:`F)(vs:`V)(H:Hp)(Q:VK)(E:XK):Prop
 |mk (q:Option (List (Tq×Option Tq))) (v:V):vs=[v]->IsK K H (qD q) v->(∀ps,q=some ps->ps.length<=2000/\∀p∈ps,PairOk p/\p.1.length<=2000/\∀l,p.2=some l->`L<=2000)->(queT q).length<=90000->(∀H',Same H H'->Q (.str ⟨(queT q).toArray⟩) H')->sp_shown_question K vs H Q E
inductive sp_with_way_gone (K:`F)(vs:`V)(H:Hp)(Q:VK)(E:XK):Prop
 |mk (x:Ad) (v:V):vs=[v]->IsK K H x.data v->x.rooted=true->(x.steps=[]->x.ends=true)->x.steps.length<=2000->(∀(u:V) (H':Hp),Same H H'->IsK K H' (goR x).data u->Q u H')->sp_with_way_gone K vs H Q E
inductive sp_is_piece (K:`F)(vs:`V)(H:Hp)(Q:VK)(E:XK):Prop
 |mk (d:PyData) (v:V):vs=[v]->Is H d v->smallD d=true->(∀H',Same H H'->Q (.bl (pieceD d)) H')->sp_is_piece K vs H Q E
inductive sp_bound (K:`F)(vs:`V)(H:Hp)(Q:VK)(E:XK):Prop
 |mk (p q pw ps:Addr):vs=[.ref p,.ref pw]->H p=some (.tup [.ref q,.bl true])->Two H q (.step [120]) (.rest wR)->SqT K H pw [.bl true,.ref ps,.bl true]->SqT K H ps [tV [120],tV [97]]->(∀(l v r:Addr) (H':Hp),Same H H'->H' l=some (.lst [.ref v])->H' v=some (.tup [tV wR,.ref r])->H' r=some (.lst [tV [97]])->Q (.ref l) H')->sp_bound K vs H Q E
inductive sp_texts_for_both (K:`F)(vs:`V)(H:Hp)(Q:VK)(E:XK):Prop
 |mk (c d:Pc) (p q:Addr):vs=[.ref p,.ref q]->H p=some (.tup c.vals)->H q=some (.tup d.vals)->ndT c->ndT d->(c.isStep || d.isStep)=true->(∀(l:Addr) (H':Hp),Same H H'->H' l=some (.lst ((fitT2 c++fitT2 d).map tV))->Q (.ref l) H')->sp_texts_for_both K vs H Q E
inductive sp_taken_scheme (K:`F)(C:Addr)(vs:`V)(H:Hp)(Q:VK)(E:XK):Prop
 |mk (p:Addr) (t:Tq):vs=[.ref p]->Cur H C p t 0->`t<=90000->(∀H',SameBut p H H'->Cur H' C p t (schP t)->Q (.str ⟨(schM t).toArray⟩) H')->sp_taken_scheme K C vs H Q E
def FE (K:`F)(C CN:Addr):Sp:=λvs H Q E=>∃(p:Addr) (t fr:Tq) (i:Nat) (mo:Option Nat),vs=[.ref p,.str ⟨fr.toArray⟩,moV mo]/\Cur H C p t i/\i<=`t/\`t<=100000/\(∀c∈t,c < 128)/\fr.length<=100/\Tk CN H C p t i (txtM fr (t.drop i) mo) (λs H'=>Q (.str ⟨s.toArray⟩) H') E
inductive sp_worth_most (K:`F)(vs:`V)(H:Hp)(Q:VK)(E:XK):Prop
 |mk (l:Addr) (b:Rw) (L:List Rw) (ws:`V):vs=[.ref l]->H l=some (.lst ws)->TbV H (b::L) ws->(∀r∈b::L,r.2=pX)->(∀(v:V) (H':Hp),Same H H'->RwAt H' b v->Q v H')->sp_worth_most K vs H Q E
noncomputable def wRA:Tq:=[32,114,101,115,116,61,97]
inductive sp_shown_lead (K:`F)(vs:`V)(H:Hp)(Q:VK)(E:XK):Prop
 |mk (p l q r:Addr) (n:Tq):vs=[.ref p]->H p=some (.tup [tV n,.ref l])->H l=some (.lst [.ref q])->H q=some (.tup [tV [114,101,115,116],.ref r])->H r=some (.lst [tV [97]])->n.length<=8->(∀H',Same H H'->Q (tV (n++wRA)) H')->sp_shown_lead K vs H Q E
inductive sp_show (K:`F)(vs:`V)(H:Hp)(Q:VK)(E:XK):Prop
 |mk (x:Ad) (v:V):vs=[v]->IsK K H x.data v->x.Wf->x.Sz->(∀H',Same H H'->Q (.str ⟨x.shw.toArray⟩) H')->sp_show K vs H Q E
inductive sp_are_pieces (K:`F)(vs:`V)(H:Hp)(Q:VK)(E:XK):Prop
 |mk (ds:List PyData) (xs:`V) (q:Addr):vs=[.ref q]->H q=some (.tup xs)->IsAll H ds xs->smallD (.tuple ds)=true->(∀H',Same H H'->Q (.bl (piecesD ds)) H')->sp_are_pieces K vs H Q E
inductive sp_read_gap (K:`F)(vs:`V)(H:Hp)(Q:VK)(E:XK):Prop
 |mk (h i t:Tq):vs=[tV h,tV i,tV t]->h.length<=2000->i.length<=2000->`t<=2000->(∀c∈h,c < 128)->(∀c∈t,c < 128)->(∀(v:V) (H':Hp),Same H H'->IsT H' (gapD h i t) v->Q v H')->sp_read_gap K vs H Q E
inductive sp_step_for_both (K:`F)(vs:`V)(H:Hp)(Q:VK)(E:XK):Prop
 |mk (c d:Pc) (p q:Addr) (i:Nat) (s:Tq):vs=[.ref p,.ref q]->H p=some (.tup c.vals)->H q=some (.tup d.vals)->ndT c->ndT d->(c.isStep || d.isStep)=true->FirstB c d i s->(∀H',Same H H'->Q (tV s) H')->sp_step_for_both K vs H Q E
def uN (K:`F)(C CN:Addr):Sp:=λvs H Q E=>∃(p:Addr) (t:Tq) (i:Nat) (must:Bool),vs=[.ref p,.bl must]/\Cur H C p t i/\i<=`t/\`t<=100000/\(∀c∈t,c < 128)/\Tk CN H C p t i (wayM must (t.drop i)) (λw H'=>∀u,IsT H' (wayOf w) u->Q u H') E
def FF (K:`F)(C CN:Addr):Sp:=λvs H Q E=>∃(p:Addr) (t:Tq) (i:Nat),vs=[.ref p]/\Cur H C p t i/\i<=`t/\`t<=100000/\(∀c∈t,c < 128)/\Tk CN H C p t i (valM (t.drop i)) (λo H'=>Q (otV o) H') E
def FG (K:`F)(C CN:Addr):Sp:=λvs H Q E=>∃(p:Addr) (t:Tq) (i:Nat),vs=[.ref p]/\Cur H C p t i/\i<=`t/\`t<=100000/\(∀c∈t,c < 128)/\Tk CN H C p t i (marM (t.drop i)) (λo H'=>Q (otV o) H') E
def FH (K:`F)(C CN:Addr):Sp:=λvs H Q E=>∃(p:Addr) (t fr:Tq) (i:Nat) (mo:Option Nat),vs=[.ref p,.str ⟨fr.toArray⟩,moV mo]/\Cur H C p t i/\i<=`t/\`t<=100000/\(∀c∈t,c < 128)/\fr.length<=100/\Tk CN H C p t i (filM fr (t.drop i) mo) (λs H'=>Q (.str ⟨s.toArray⟩) H') E
inductive sp_plain (K:`F)(vs:`V)(H:Hp)(Q:VK)(E:XK):Prop
 |mk (x:Ad) (v:V):vs=[v]->IsK K H x.data v->x.Wf->x.rooted=true->x.steps.length<=2000->(∀(u:V) (H':Hp),Same H H'->IsK K H' (plR x).data u->Q u H')->sp_plain K vs H Q E
inductive sp_resolved (K:`F)(vs:`V)(H:Hp)(Q:VK)(E:XK):Prop
 |mk (b x:Ad) (vb vx:V):vs=[vb,vx]->IsK K H b.data vb->IsK K H x.data vx->b.scheme≠[]->x.Wf->RsX x->x.steps.length<=1000->(∀(v:V) (H':Hp),Same H H'->IsK K H' (goR (whX b x)).data v->Q v H')->sp_resolved K vs H Q E
inductive sp_lead (K:`F)(vs:`V)(H:Hp)(Q:VK)(E:XK):Prop
 |mk (l pw ps:Addr) (T:List Rw) (ws:`V) (n:Tq) (L:List Rw):vs=[.ref l,.ref pw]->H l=some (.lst ws)->TbV H T ws->(∀t∈T,TwoS t.2.1)->T.length<=90->SqT K H pw [.bl true,.ref ps,.bl true]->SqT K H ps [tV [120],tV [97]]->T.filter fitR=(n,pX)::L->(∀r∈L,r.2=pX)->(∀(p l' v r:Addr) (H':Hp),Same H H'->H' p=some (.tup [tV n,.ref l'])->H' l'=some (.lst [.ref v])->H' v=some (.tup [tV wR,.ref r])->H' r=some (.lst [tV [97]])->Q (.ref p) H')->sp_lead K vs H Q E
inductive sp_is_pattern (K:`F)(vs:`V)(H:Hp)(Q:VK)(E:XK):Prop
 |mk (d:PyData) (v:V):vs=[v]->Is H d v->smallD d=true->(∀H',Same H H'->Q (.bl (patD d)) H')->sp_is_pattern K vs H Q E
inductive sp_read_piece (K:`F)(vs:`V)(H:Hp)(Q:VK)(E:XK):Prop
 |mk (t:Tq):vs=[tV t]->`t<=2000->(∀c∈t,c < 128)->(∀(v:V) (H':Hp),Same H H'->IsT H' (rpcD t) v->Q v H')->sp_read_piece K vs H Q E
inductive sp_meeting (K:`F)(vs:`V)(H:Hp)(Q:VK)(E:XK):Prop
 |mk (p q p' q':Addr):vs=[.ref p,.ref p']->H p=some (.tup [.ref q,.bl false])->Two H q (.step [97]) (.gap [110])->H p'=some (.tup [.ref q',.bl false])->Two H q' (.gap [110]) (.step [98])->(∀(r t:Addr) (H':Hp),Same H H'->H' r=some (.tup [.bl true,.ref t,.bl false])->H' t=some (.tup [tV [97],tV [98]])->Q (.ref r) H')->sp_meeting K vs H Q E
def FI (K:`F)(C CN:Addr):Sp:=λvs H Q E=>∃(p:Addr) (t:Tq) (i:Nat),vs=[.ref p]/\Cur H C p t i/\i<=`t/\`t<=100000/\(∀c∈t,c < 128)/\Tk CN H C p t i (houM (t.drop i)) (λo H'=>Q (otV o) H') E
def FJ (K:`F)(C CN:Addr):Sp:=λvs H Q E=>∃(p:Addr) (t:Tq) (i:Nat),vs=[.ref p]/\Cur H C p t i/\i<=`t/\`t<=100000/\(∀c∈t,c < 128)/\Tk CN H C p t i (queM (t.drop i)) (λo H'=>∀u,IsT H' (qD o) u->Q u H') E
def FK (K:`F)(C:Addr):Sp:=λvs H Q E=>∃(t:Tq) (o:Option (List Pc×Bool)),vs=[tV t]/\PtIn t o/\(o=none->∀H',Same H H'->E (.ref C) none H')/\∀cs e,o=some (cs,e)->∀(p:Addr) (H':Hp),Same H H'->PtAt H' cs e p->Q (.ref p) H'
def FL (K:`F)(CN:Addr):Sp:=λvs H Q E=>∃(v:V),vs=[v]/\
 ((∃ty,TyOf K H v ty/\W.kitOne K ty (.type "str")=some false/\∀d H',Same H H'->H' d=some (.xd [("at",.int 0)])->E (.ref CN) (some d) H')\/
  ∃t:Tq,v=.str ⟨t.toArray⟩/\`t<=90000/\(∀c∈t,c < 128)/\(∀x,readM t=.ok x->∀(u:V) (H':Hp),Same H H'->IsT H' x.data u->Q u H')/\
   ∀k:Nat,readM t=.error k->∀d H',Same H H'->H' d=some (.xd [("at",.int (k:Int))])->E (.ref CN) (some d) H')
def uO (K:`F)(D CN:Addr):Sp:=λvs H Q E=>∃(p:Addr) (x:Ad) (T:List Rw) (l:Addr) (a b:Tq),vs=[.ref p,tV a,tV b]/\DsT K H D p x T l/\(((fdR T a=none\/fdR T b=none)/\∀H',Same H H'->E (.ref CN) none H')\/(fdR T a=some (a,pA)/\fdR T b=some (b,pB)/\∀H',Same H H'->Q (tV wAB) H'))
def FM (K:`F)(D CN:Addr):Sp:=λvs H Q _=>∃(p dx:Addr) (t:Tq) (x:Ad),vs=[.ref p,tV t]/\H p=some (.ins D dx [])/\`t<=90000/\(∀c∈t,c < 128)/\readM t=.ok x/\x.Wf/\x.scheme≠[]/\x.steps.length<=2000/\∀(H':Hp) (l:Addr),H l=none->SameBut p H H'->DsT K H' D p (plR x) [] l->Q .non H'
def FN (K:`F)(D CN:Addr):Sp:=λvs H Q E=>∃(p:Addr) (b:Ad) (t:Tq),vs=[.ref p,tV t]/\Dsk K H D p b/\GoodAd 200 b/\`t<=90000/\(∀c∈t,c < 128)/\
 ((∃k:Nat,readM t=.error k/\AtE E CN H k)\/∃x,readM t=.ok x/\x.Wf/\x.Tiny/\RsX x/\x.steps.length<=200/\∀(u:V) (H':Hp),Same H H'->IsK K H' (goX b x).data u->Q u H')
def uP (K:`F)(D CP CN:Addr):Sp:=λvs H Q E=>∃(p:Addr) (x:Ad) (T:List Rw) (l:Addr) (n t:Tq),vs=[.ref p,tV n,tV t]/\DsT K H D p x T l/\T.length<=16/\n.length<=100/\
 (((nameD (st n)=false\/(decide (T.length < 16) || T.any λt=>decide (t.1=n))=false)/\∀H',Same H H'->E (.ref CN) none H')\/
  (nameD (st n)=true/\(decide (T.length < 16) || T.any λt=>decide (t.1=n))=true/\∃o,PtIn t o/\(o=none->∀H',Same H H'->E (.ref CP) none H')/\∀c,o=some c->∀(H':Hp) (l':Addr),H l'=none->SameBut p H H'->DsT K H' D p x (putR T (n,c)) l'->Q (tV wOk) H'))
def uQ (K:`F)(D CN:Addr):Sp:=λvs H Q E=>∃(p:Addr) (b:Ad) (t:Tq) (T:List Rw) (l:Addr),vs=[.ref p,tV t]/\DsT K H D p b T l/\GoodAd 100 b/\`t<=90000/\(∀c∈t,c < 128)/\
 ((∃k:Nat,readM t=.error k/\AtE E CN H k)\/∃x,readM t=.ok x/\x.Wf/\x.Tiny/\RsX x/\x.steps.length<=150/\∀H':Hp,SameBut p H H'->DsT K H' D p (goX b x) T l->Q (tV (goX b x).shw) H')
def eV (K:`F)(D CA CP CN CR:Addr):Sp:=λvs H Q E=>∃(p:Addr) (b:Ad) (T:List Rw) (l:Addr) (v:V),vs=[.ref p,v]/\DsT K H D p b T l/\GoodAd 50 b/\
 ((((∃ty,TyOf K H v ty/\W.kitOne K ty (.type "str")=some false)\/∃row,v=tV row/\row.length<=90100/\rowM row=none)/\∀H',Same H H'->E (.ref CR) none H')\/
 ∃(row:Tq) (ws:List Tq),v=tV row/\row.length<=90100/\rowM row=some ws/\
  ((ws=[wAt]/\∀H',Same H H'->Q (tV b.shw) H')\/(∃t,ws=[wGo,t]/\∀H1,Same H H1->uQ K D CA [.ref p,tV t] H1 Q E)\/(∃t k,ws=[wLink,t]/\`t<=90000/\(∀c∈t,c < 128)/\readM t=.error k/\AtE E CA H k)\/
  (∃n t,ws=[wAdd,n,t]/\∀H1,Same H H1->uP K D CP CN [.ref p,tV n,tV t] H1 Q E)\/(∃n m,ws=[wBoth,n,m]/\∀H1,Same H H1->uO K D CN [.ref p,tV n,tV m] H1 Q E)\/
  (ws=[wLead]/\b.rooted=true/\b.steps=[[120],[97]]/\b.ends=true/\∃(n:Tq) (L:List Rw),T.filter fitR=(n,pX)::L/\(∀r∈L,r.2=pX)/\(∀t∈T,TwoS t.2.1)/\T.length<=90/\n.length<=8/\∀H',Same H H'->Q (tV (n++wRA)) H')))
inductive sp__law_kind (K:`F)(D:Addr)(CA:Addr)(CP:Addr)(CN:Addr)(CR:Addr)(vs:`V)(H:Hp)(Q:VK)(E:XK):Prop
 |mk (p:Addr) (b:Ad) (v:V) (i:Nat):vs=[.ref p,v]->Dsk K H D p b->i < 4->(∀(R:VK) (E:XK),RefE CA CP CN CR H E i->eV K D CA CP CN CR [.ref p,v] H R E)->(∀H',Same H H'->Q (tV (kdW i)) H')->sp__law_kind K D CA CP CN CR vs H Q E
inductive sp_law (K:`F)(vs:`V)(H:Hp)(Q:VK)(E:XK):Prop
 |mk (a:Addr) (ns:List Int):vs=[.ref a]->SqL K H a (ns.map V.int)->ns.length<=63->(∀H',Q (.bl true) H')->sp_law K vs H Q E
section
variable {H:Hp}{Q:VK}{E:XK}
theorem FO {c:Nat}:uH [.str ⟨[c].toArray⟩] H Q E↔c < 256/\Q (.str ⟨[126,hexd (c / 16),hexd (c % 16)].toArray⟩) H:=
 ⟨λ⟨_,e,h⟩=>by injection e with e;injection e with e;cases ac.mp e;exact h,λh=>⟨c,rfl,h⟩⟩
theorem FP {c:Nat}:uI [.str ⟨[c].toArray⟩] H Q E↔c < 128/\Q (figV c) H:=
 ⟨λ⟨_,e,h⟩=>by injection e with e;injection e with e;cases ac.mp e;exact h,λh=>⟨c,rfl,h⟩⟩
theorem FQ {l:Tq}:uK [.str `A] H Q E↔`L<=1000/\(∀c∈l,c < 128)/\Q (signOfL l) H:=
 ⟨λ⟨_,e,h⟩=>by injection e with e;injection e with e;cases ac.mp e;exact h,λh=>⟨l,rfl,h⟩⟩
theorem FR {l:Tq}:gG [.str `A] H Q E↔`L<=2000/\(∀c∈l,isSg c=true)/\∀H',Same H H'->Q (.str ⟨(wr l).toArray⟩) H':=
 ⟨λ⟨_,e,h⟩=>by injection e with e;injection e with e;cases ac.mp e;exact h,λh=>⟨l,rfl,h⟩⟩
theorem c_sw {c:Nat}{r fr:Tq}:uL [.str ⟨(c::r).toArray⟩,.str ⟨fr.toArray⟩] H Q E↔r.length<=1000/\(∀d∈c::r,d < 128)/\(c=126\/r=[])/\Q (swV fr (c::r)) H:=
 ⟨λ⟨_,_,_,e,h⟩=>by injection e with e e2;injection e with e;injection e2 with e2;injection e2 with e2;cases ac.mp e;cases ac.mp e2;exact h,λh=>⟨c,r,fr,rfl,h⟩⟩
theorem FS {l fr:Tq}:uM [.str `A,.str ⟨fr.toArray⟩] H Q E↔`L<=2000/\(∀c∈l,c < 128)/\∀H',Same H H'->Q (undV (und fr l)) H':=
 ⟨λ⟨_,_,e,h⟩=>by injection e with e e2;injection e with e;injection e2 with e2;injection e2 with e2;cases ac.mp e;cases ac.mp e2;exact h,λh=>⟨l,fr,rfl,h⟩⟩
end
section
variable {P:Program}{w:World}{K:`F}{mg:Str->Option Value}{base:Heap}(g:G w K mg)
seal PE PA PT PS PSs PG PI PF PO PW
local macro_rules|`(tactic| fail "r")=>do let f:=λ(x:String)=>(x.splitOn " ").toArray.map λx=>Lean.mkIdent x.toName;let k:=f "L2.start L2.mv L2.mw length_cons length_nil Nat.reduceAdd Nat.reduceSub Nat.zero_add List.replicate_succ List.replicate_zero nil_append cons_append";let j:=f "L2.wY L2.wZ L2.yS L2.yT L2.yV L2.yx L2.yQ L2.rd_C L2.jU L2.A8 L2.A7 L2.yR L2.yU L2.yW L2.yX L2.yY L2.yZ L2.ya L2.yb L2.rd_B L2.yc L2.yd L2.ye L2.yf L2.yg L2.yh L2.yi L2.yj L2.yk L2.yl L2.ym L2.Aa L2.Ac L2.Ae L2.fD L2.Af L2.Ag L2.Ah L2.yn L2.yo L2.yp L2.yq L2.yr L2.yt L2.yu L2.yv L2.rd_I L2.yw L2.yy L2.ag L2.yz L2.bR L2.mx L2.zI L2.z8 L2.z9 L2.zH L2.zY L2.dO L2.dP L2.dQ L2.dR L2.A0 L2.A1 L2.A2 L2.cx_K L2.yE L2.yF L2.yG L2.yI L2.yJ L2.yL L2.yM L2.yN L2.yO L2.yP L2.zP L2.zQ L2.zO L2.zS L2.rd_U L2.zT L2.zU L2.A4 L2.A5 L2.nD L2.zJ L2.zK nil_append cons_append exists_eq_left exists_eq_left' FO FP FQ FR FS L2.AV L2.AW L2.AX L2.B2 L2.B4 L2.Bb L2.Bf L2.Bm L2.Bx L2.By L2.oR L2.Bz L2.BB L2.BC L2.BA L2.C1 L2.Ca L2.Cc L2.Cd L2.Cu L2.Cw L2.Cy L2.Cr L2.CQ L2.D5 L2.Dd L2.Di L2.Dl L2.Dr L2.Ds L2.E4 L2.E5";let i:=f "L2.start L2.mv L2.mw length_cons length_nil Nat.reduceAdd Nat.reduceSub Nat.zero_add List.replicate_succ List.replicate_zero L2.zZ L2.zc L2.zj L2.zk L2.zm L2.zn L2.zo L2.zp L2.zr L2.zt L2.zu L2.zv L2.zw L2.zx L2.zy L2.zz L2.zM L2.zN Option.getD_some List.set_cons_zero List.set_cons_succ append_nil Option.some.injEq true_and and_true L2.V.bl.injEq L2.V.int.injEq L2.V.str.injEq L2.V.ref.injEq List.cons.injEq reduceCtorEq false_and and_false exists_false false_or or_false decide_eq_true_eq Bool.not_true Bool.not_false if_true if_false not_true_eq_false not_false_eq_true decide_true decide_false Bool.false_eq_true Ar As ay aN At Az drop_succ_cons drop_zero L2.y8 L2.yA Bool.not_eq_true' decide_eq_false_iff_not";`(tactic| ((try dsimp only[$[$k:ident],*]);simp only[List.getElem?_cons_zero,List.getElem?_cons_succ,↓reduceIte,$[↓$j:ident],*,$[$i:ident],*]))
local macro_rules|`(tactic| fail "c")=>`(tactic| exact⟨rfl,rfl,rfl,by fail "k",rfl,by fail "k",by fail "k"⟩)
set_option hygiene false
local macro_rules|`(tactic| fail "n")=>`(tactic| with_reducible first|exact nx 0|exact nx 1|exact nx 2|exact nx 3|exact nx 4|exact nx 5|exact nx 6|exact nx 7|exact nx 8|exact nx 9|exact nx 10)
local macro_rules|`(tactic| fail "D")=>do let f:=λ(x:String)=>(x.splitOn " ").toArray.map λx=>Lean.mkIdent x.toName;let i1:=f "PySem.F.slot_list_append PySem.F.slot_str_index PySem.F.slot_str_join";let i2:=f "el xC cV dI gM bQ au lv jK";let i3:=f "aC aA aL";let i4:=f "cE eh eu wa cG";let i5:=f "wz ww mE f8 mC mn mD wu x8 mr";let i6:=f "bK cf bE jT";let i7:=f "jX ms yK xF fB";let i8:=f "dH bJ cU bD jb cW bW bt gN jL";let i9:=f "gW dM PySem.F.type_list_append PySem.F.type_str_index PySem.F.type_str_join PySem.F.plainAttrs_list PySem.F.plainAttrs_str";`(tactic| repeat' first|((with_reducible show _=_);first|exact (rfl:_=K)|decide|rfl|exact nomark _|with_unfolding_all rfl)|exact .inl rfl|exact rfl|(guard_target=PE _ _ _;first|((with_reducible apply pvG zq);fail "n")|(with_reducible first|exact aY|apply ai|apply bf|apply pxG K)|((with_reducible apply cF);assumption)|(with_reducible first|exact aG)|((with_reducible apply glD);with_reducible assumption)|((with_reducible apply cB);with_reducible assumption)|(apply hintE 2;assumption;(with_reducible first|apply bG|apply cJ))|(with_reducible first|exact bH|exact dF)|((with_reducible apply am);exact (rfl:_=K);rotate_left;(with_reducible first $[|apply $i1:ident]*))|(with_reducible first $[|apply $i2:ident]*)|((with_reducible apply tY);with_reducible assumption)|((with_reducible apply cT);with_reducible assumption)|(with_reducible first|apply mI))|(guard_target=PA _ _ _;first|(with_reducible first|apply a8|exact a9))|(guard_target=PSs _ _ _;first|((with_reducible apply hintC);assumption)|(with_reducible first $[|apply $i3:ident]*))|(guard_target=PS _ _ _;first|((with_reducible apply hintN);assumption)|(with_reducible first|apply aH)|((with_reducible apply sxG zq);fail "n")|(with_reducible first|apply aK)|((with_reducible apply forT K);assumption)|(with_reducible first $[|apply $i4:ident]*))|(guard_target=OpR _ _ _;first|(with_reducible first $[|apply $i5:ident]*)|(apply hintE 7;assumption;with_reducible apply zV)|(apply hintE 10;assumption;(with_reducible first|apply cj))|(apply hintE 2;assumption;with_reducible apply bM (K:=K))|(with_reducible first $[|apply $i6:ident]*))|(guard_target=PT _ _ _;first|(with_reducible first|apply cH|apply aq)|((with_reducible apply PW.pt);with_reducible first|apply dH|apply bJ|apply cU|apply bD)|(with_reducible first|apply aS))|(guard_target=CallR _ _ _;first|(apply hintE 2;assumption;(with_reducible first|apply A9|apply fC))|(with_reducible first $[|apply $i7:ident]*))|(with_reducible first $[|apply $i8:ident]*)|((with_reducible apply pgG zq);fail "n")|(apply hintE 3;assumption;with_reducible apply AU)|(apply hintE 4;assumption;with_reducible apply nE)|(with_reducible first $[|apply $i9:ident]*)|((with_reducible show MtR _ "list.append" _);exact dL)|((with_reducible show MtR _ "str.index" _);exact y9)|((with_reducible apply dJ);rfl;exact g.cz.1)|((with_reducible apply pH);exact (rfl:_=K);rfl;exact g.lC.1)|((with_reducible apply kD);exact (rfl:_=K);rfl;exact g.iN.1)|(with_reducible first|apply bh)|decide|exact λ_=>rfl|exact λ_ _=>rfl|exact .inr rfl|exact .inr (.inl rfl)|exact .inr (.inr rfl)|exact hr|exact hr.units|exact .never)
local macro_rules|`(tactic| specialize $e)=>`(tactic| first|have:=$e (P:=P) (base:=base) g|have:=$e)
local macro_rules|`(tactic| exists $a,$[$e],*)=>`(tactic| refine⟨_,by (have zq:=$a);($[specialize $e];*);show PSs _ (_::_) _;fail "D",?_⟩)
local macro_rules|`(tactic| exists $a)=>`(tactic| refine⟨_,by (have zq:=$a);show PSs _ (_::_) _;fail "D",?_⟩)
local macro_rules|`(tactic| nomatch $t,$a,$[$e],*)=>`(tactic| refine⟨_,by (have zq:=$a);($[specialize $e];*);exact $t,?_⟩)
local macro_rules|`(tactic| nomatch $t,$a)=>`(tactic| refine⟨_,by (have zq:=$a);exact $t,?_⟩)
set_option hygiene true
theorem FT:Sc 2 ["text","signs"] (top 16):=`c
theorem uR:Sc 1 ["sign","number"] (top 17):=`c
theorem uS:Sc 1 ["figure"] (top 19):=`c
theorem uT:Sc 1 ["number","place"] (top 20):=`c
theorem uU:Sc 1 ["address"] (top 37):=`c
theorem uV:Sc 2 ["thing","count"] (top 39):=`c
theorem FU:Sc 2 ["self","at"] (inClass (top 44) 0):=`c
theorem uW:Sc 3 ["rooted","texts","ends","ahead","behind"] (top 54):=`c
theorem uX:Sc 1 ["step"] (top 62):=`c
theorem uY:Sc 2 ["left","rooted"] (top 65):=`c
theorem uZ:Sc 1 ["pieces"] (top 80):=`c
theorem ua:Sc 1 ["piece"] (top 83):=`c
theorem ub:Sc 1 ["gap"] (top 84):=`c
theorem uc:Sc 1 ["piece"] (top 85):=`c
theorem ud:Sc 1 ["piece"] (top 86):=`c
theorem ue:Sc 1 ["pattern","pieces"] (top 87):=`c
theorem uf:Sc 2 ["gap","steps"] (top 101):=`c
theorem ug:Sc 2 ["head","tail"] (top 104):=`c
theorem uh:Sc 2 ["self","text"] (inClass (top 112) 0):=`c
theorem uk:Sc 1 ["self"] (inClass (top 112) 1):=`c
theorem ul:Sc 1 ["self","sign"] (inClass (top 112) 3):=`c
theorem um:Sc 2 ["self","text"] (inClass (top 112) 4):=`c
theorem ur:Sc 2 ["door","cursor"] (top 117):=`c
theorem ut:Sc 2 ["base_way","way"] (top 136):=`c
theorem lQ:Sc 2 ["base","address","stays"] (top 137):=`c
theorem lR:Sc 2 ["table","name","entry_name","pattern"] (top 145):=`c
theorem j8:Sc 1 ["row","word","count","asked"] (top 151):=`c
theorem FV:Sc 2 ["table","name"] (top 153):=`c
theorem uu:Sc 2 ["_law_script","_law_k"] (top 158):=`c
theorem gH:Sc 2 ["_law_cell","_law_many","_law_letters","_law_size","_law_spot","_law_found","_law_number","_law_name","_law_k","_law_place"] (top 160):=`c
theorem uv:Sc 1 ["_law_cell","_law_some","_law_found","_law_k"] (top 161):=`c
theorem ux:Sc 3 ["_law_cell","_law_signs_here","_law_many","_law_found","_law_k"] (top 162):=`c
theorem uy:Sc 2 ["_law_cell","_law_many","_law_some","_law_number","_law_found","_law_k"] (top 163):=`c
theorem j9:Sc 2 ["_law_names_here","_law_cell","_law_one","_law_number","_law_some"] (top 168):=`c
theorem uz:Sc 1 ["thing"] (top 15):=`c
theorem vA:Sc 1 ["figures","high","low"] (top 18):=`c
theorem FW:Sc 1 ["text"] (top 21):=`c
theorem vB:Sc 2 ["steps","rooted","left","step"] (top 64):=`c
theorem vC:Sc 1 ["thing"] (top 79):=`c
theorem FX:Sc 1 ["pieces"] (top 82):=`c
theorem vD:Sc 2 ["pattern","count","pieces","more"] (top 96):=`c
theorem vE:Sc 2 ["piece","step"] (top 97):=`c
theorem vF:Sc 2 ["self","signs"] (inClass (top 112) 2):=`c
theorem vG:Sc 2 ["base","address","way"] (top 135):=`c
theorem vH:Sc 1 ["piece","head"] (top 141):=`c
theorem vI:Sc 2 ["table","name"] (top 152):=`c
theorem vJ:Sc 3 ["table","name","pattern"] (top 154):=`c
theorem FY:Sc 3 ["_law_script","_law_start","_law_many"] (top 159):=`c
theorem vK:Sc 2 ["_law_cell","_law_signs_here"] (top 164):=`c
theorem vL:Sc 1 ["_law_cell","_law_found","_law_k","_law_more"] (top 165):=`c
theorem vM:Sc 2 ["piece","free"] (top 23):=`c
theorem vN:Sc 1 ["thing"] (top 38):=`c
theorem vO:Sc 1 ["thing"] (top 40):=`c
theorem vP:Sc 2 ["house","door","behind"] (top 52):=`c
theorem vQ:Sc 1 ["way"] (top 53):=`c
theorem vR:Sc 2 ["name","value"] (top 56):=`c
theorem vS:Sc 1 ["mark"] (top 57):=`c
theorem vT:Sc 1 ["way","steps","left"] (top 63):=`c
theorem vU:Sc 2 ["head","tail"] (top 78):=`c
theorem vV:Sc 1 ["pieces","names"] (top 81):=`c
theorem vW:Sc 2 ["pattern","way","steps","pieces"] (top 95):=`c
theorem vX:Sc 1 ["piece","texts"] (top 105):=`c
theorem lS:Sc 1 ["cursor","door"] (top 116):=`c
theorem lT:Sc 1 ["cursor","figures","sign"] (top 124):=`c
theorem vY:Sc 2 ["one","other","mine","theirs"] (top 140):=`c
theorem vZ:Sc 1 ["value"] (top 156):=`c
theorem gI:Sc 3 ["_law_cells_here","_law_signs_here","_law_whole","_law_head","_law_scheme","_law_house","_law_door","_law_rooted","_law_steps","_law_ends","_law_mark"] (top 166):=`c
theorem va:Sc 2 ["text","free","signs","place","width","sign"] (top 22):=`c
theorem vc:Sc 1 ["question"] (top 55):=`c
theorem vd:Sc 1 ["address"] (top 66):=`c
theorem ve:Sc 1 ["thing"] (top 77):=`c
theorem jA:Sc 2 ["pattern","way","values","place","piece"] (top 94):=`c
theorem vf:Sc 2 ["piece","beside","head"] (top 109):=`c
theorem lU:Sc 1 ["cursor","scheme"] (top 114):=`c
theorem lV:Sc 3 ["cursor","free","most","signs","allowed"] (top 123):=`c
theorem vg:Sc 1 ["entries","best","entry"] (top 144):=`c
theorem vh:Sc 1 ["led"] (top 155):=`c
theorem vi:Sc 1 ["address","scheme"] (top 51):=`c
theorem vj:Sc 1 ["things"] (top 76):=`c
theorem lW:Sc 3 ["head","inside","tail","named"] (top 90):=`c
theorem vk:Sc 2 ["piece","beside","text"] (top 108):=`c
theorem dE:Sc 2 ["cursor","must_be_rooted","rooted","steps","ends","step"] (top 118):=`c
theorem FZ:Sc 1 ["cursor"] (top 120):=`c
theorem G0:Sc 1 ["cursor"] (top 121):=`c
theorem vm:Sc 3 ["cursor","free","most","text"] (top 122):=`c
theorem lX:Sc 1 ["address","house","small_house"] (top 126):=`c
theorem vn:Sc 2 ["base","address"] (top 134):=`c
theorem lY:Sc 2 ["table","way","entries","best"] (top 143):=`c
theorem vo:Sc 1 ["thing"] (top 75):=`c
theorem jB:Sc 1 ["text","opened","closed"] (top 89):=`c
theorem jC:Sc 2 ["one","other","count","mine","theirs","steps"] (top 107):=`c
theorem G1:Sc 1 ["cursor"] (top 115):=`c
theorem jD:Sc 1 ["cursor","name","pairs"] (top 119):=`c
theorem jE:Sc 1 ["text","texts","ends","pieces"] (top 88):=`c
theorem cS:Sc 1 ["text","cursor","scheme","house","door","way","question","mark"] (top 113):=`c
theorem vp:Sc 3 ["self","one","other","way"] (inClass (top 150) 5):=`c
theorem vq:Sc 2 ["self","text","address"] (inClass (top 150) 0):=`c
theorem G2:Sc 2 ["self","text"] (inClass (top 150) 2):=`c
theorem G3:Sc 3 ["self","name","text"] (inClass (top 150) 4):=`c
theorem G4:Sc 2 ["self","text"] (inClass (top 150) 3):=`c
theorem vt:Sc 2 ["self","row","asked"] (inClass (top 150) 1):=`c
theorem eW:Sc 2 ["_law_desk","_law_row_here","_law_error","e","_law_some"] (top 167):=`c
theorem eX:Sc 1 ["_law_script","_law_names_here","_law_signs_here","_law_desk","_law_here","_law_cell","_law_row_here","_law_due","_law_k"] (top 169):=`c
theorem lZ:g.EH.Ok P w base 1 sp_made_of:=by
 refine lnF FT ?_;rintro mt A ad s H vs Q E hr ⟨x,y,rfl,hx,k⟩;refine⟨_,(aC (aH (ax (fB (K:=K) rfl rfl) rfl g.fk.1 PyProof.Rows.boot_all (a8 (cmp1 ["signs"] [1] (jR (pv 0)) bF (el jT (pv 0) (pv 1) (by with_unfolding_all rfl))) a9)))),?_⟩;fail "r";intro p hp;refine jW (z:=x) (aF hx) hp (λc=>.bl (decide (c∈y.cps.toList))) (λc hc H' R hR=>?_) (λH' sm dl=>?_)
 .fail "r";exact hR H' `r
 .refine nD.mpr ⟨x.cps.toList.map λc=>decide (c∈y.cps.toList),SqL.of (by rw[dl,map_map];rfl),?_⟩;rw[all_map];exact k H' sm
theorem G5:g.kn.Ok P w base 1 uH:=by
 refine g.kn.F.ok uR (λvs H Q E h=>?_) (λdl A ad s H vs Q E hr h=>?_)
 .obtain⟨c,rfl,_⟩:=h;rfl
 .obtain⟨c,rfl,hc,k⟩:=h
  exists uR.nd,g.kz,g.ro
  fail "r";exact⟨⟨`d,`d⟩,hexd (c / 16),nG,nF `l `l,`d,`d,hexd (c % 16),nG,nF `l `l,`d,k⟩
theorem G6:g.qq.Ok P w base 1 uI:=by
 refine g.qq.F.ok uS (λvs H Q E h=>?_) (λdl A ad s H vs Q E hr h=>?_)
 .obtain⟨c,rfl,_⟩:=h;rfl
 .obtain⟨a,rfl,ha,k⟩:=h
  exists uS.nd,g.rc,g.kz
  fail "r";refine ite2 (λh=>?_) (λh=>?_)
  .obtain⟨e1,e2⟩:=Aj a ha h;obtain⟨n,hn⟩:=Option.isSome_iff_exists.mp e2;rw[hn] at e1;rw[fE hn] at k;exact⟨n,[],e1,k⟩
  .refine ite2 (λh2=>?_) (λh2=>?_)
   .obtain⟨e1,e2⟩:=Ak a ha h h2;obtain⟨n,hn⟩:=Option.isSome_iff_exists.mp e2;rw[hn] at e1;rw[fE hn] at k;exact⟨n,[],e1,k⟩
   .rw[jh (Al a ha h h2)] at k;exact k
theorem G7:g.EI.Ok P w base 1 sp_sign_numbered:=by
 refine lnF uT ?_;rintro mt A dl s H vs Q E hr ⟨n,rfl,k⟩
 exists uT.nd,g.ku,g.rZ,g.rX,g.rY
 fail "r";refine ite2 (λh=>?_) (λh=>?_)
 .rw[ji (λq=>by have:=bi q;lia)] at k;exact k
 .refine ite2 (λh1=>?_) (λh1=>?_)
  .rw[ji (λq=>by have:=bi q;lia)] at k;exact k
  .refine ite2 (λh2=>?_) (λh2=>?_)
   .rw[ji (λq=>by have:=bi q;lia)] at k;exact k
   .have hs:isSg n=true:=Av `l `l `l;rw[Au hs] at k;have ad:=Am n `l hs;refine ite2 (λh3=>?_) (λh3=>?_)
    .rw[if_pos (show 37 < n by lia)] at ad;refine⟨n,nH,?_,k⟩;rw[show (n:Int) - 32 - 1=((n - 32 - 1:Nat):Int) by lia];exact aB ad
    .rw[if_neg (show ¬ 37 < n by lia)] at ad;refine⟨n,nH,?_,k⟩;rw[show (n:Int) - 32=((n - 32 - 0:Nat):Int) by lia];exact aB ad
theorem lf:g.qr.Ok P w base 1 (sp_is_whole K):=by
 refine lnF uU ?_;rintro cdv A outer s H vs Q E hr ⟨p,l,r,rfl,hp,k⟩
 exists uU.nd,g.iH
 fail "r";refine⟨_,_,.inr hp,dY,?_⟩;fail "r";rw[show decide ((⟨l.toArray⟩:Str)=⟨([]:Tq).toArray⟩)=decide (l=[]) from decide_eq_decide.mpr ac];exact k
theorem vv:g.EJ.Ok P w base 1 sp_is_tuple:=by
 refine lnF uV ?_;rintro dl A ad s H vs Q E hr ⟨d,v,n,rfl,hv,k⟩
 exists uV.nd,g.aX,g.bc,g.b4
 cases hv with
 |lst hp r=>fail "r";simp only[cI hp];fail "r";exact k
 |dic hp=>fail "r";simp only[dS hp];fail "r";exact ite2 (λz=>absurd z `d) (λ_=>k)
 |tup hp r=>fail "r";simp only[cg hp];fail "r";refine⟨_,.inr (SqT.of hp),?_⟩;rw[<- r.length];exact k
 |_=>fail "r";exact k
theorem eY:FnOk P w K mg base CX0 1 g.iO g.iP ["self","at"] (uJ K g.aP):=by
 refine g.sB.ok FU (λvs H Q E h=>?_) (λcdv A outer s H vs Q E hr h=>?_)
 .obtain⟨a,v,rfl,_⟩:=h;rfl
 .obtain⟨a,v,rfl,ha,k⟩:=h;refine⟨_,(aC (Cq (pv 0) (pv 1) rfl)),?_⟩;fail "r";exact⟨a,_,rfl,ha,g.tK,λd hd=>k d hd⟩
theorem G8:g.qt.Ok P w base 1 (sp_slashed K):=by
 refine lnF uW ?_;rintro dl A ad s H vs Q E hr ⟨r,e,p,ts,rfl,hp,hl,k⟩
 exists uW.nd,g.aX,hint 0 119,hint 0 120
 have c1:ofString "/"=⟨[47].toArray⟩:=by fail "k"
 rw[c1];fail "r";refine⟨λZ H'=>H'=H/\Z=[some (.bl r),some (.ref p),some (.bl e),some (.str ⟨(if r then [47] else []:Tq).toArray⟩),none],?_,?_⟩
 .cases r with
  |true=>exact ite2 (λ_=>`R) `a
  |false=>exact ite2 `E (λ_=>`R)
 rintro Z H' ⟨rfl,rfl⟩;fail "r";refine⟨λZ H''=>H''=H'/\Z=[some (.bl r),some (.ref p),some (.bl e),some (.str ⟨(if r then [47] else []:Tq).toArray⟩),some (.str ⟨(if e && !ts.isEmpty then [47] else []:Tq).toArray⟩)],?_,?_⟩
 .cases e with
  |false=>exact ite2 `E (λ_=>`R)
  |true=>
   refine ite2 (λ_=>⟨_,.inl hp,?_⟩) `a;rw[length_map];cases ts with
   |nil=>exact ite2 (λz=>absurd z `d) (λ_=>`R)
   |cons t ts=>exact ite2 (λ_=>`R) (λz=>absurd `s z)
 rintro Z H'' ⟨rfl,rfl⟩;fail "r";have hj:=o0 (sep:=47) ts;have h1:(if r=true then [47] else ([]:Tq)).length<=1:=by split <;> simp
 have h2:(if (e && !ts.isEmpty)=true then [47] else ([]:Tq)).length<=1:=by split <;> simp
 refine⟨ts.map λl=>`A,by rw[map_map];exact hp,?_,?_⟩
 .rw[o9,length_map];have:(ts.map List.length).sum+ts.length<=(joinT 47 ts).length+1:=hj;lia
 rw[show (⟨#[47]⟩:Str)=⟨[47].toArray⟩ from rfl,jt];fail "r";refine⟨aF `l,aF (by rw[length_append];lia),?_⟩;rw[append_assoc];exact k
theorem kup:k_UP=sV sUp:=congrArg V.str (show ofString ".."=⟨sUp.toArray⟩ by fail "k")
theorem kst:qo=sV sStay:=congrArg V.str (show ofString "."=⟨sStay.toArray⟩ by fail "k")
theorem lh:g.EK.Ok P w base 1 sp_is_dot:=by
 refine lnF uX ?_;rintro dl A ad s H vs Q E hr ⟨s,rfl,k⟩
 exists uX.nd,g.c_UP,g.iL
 have d1:ofString ".."=⟨sUp.toArray⟩:=by fail "k"
 have d2:ofString "."=⟨sStay.toArray⟩:=by fail "k"
 fail "r";rw[d1,d2];simp only[ac];by_cases h2:s=sStay
 .rw[if_pos h2];rw[show isDot s=true by simp[isDot,h2]] at k;exact k
 .rw[if_neg h2];rw[show isDot s=decide (s=sUp) by simp[isDot,h2]] at k;exact k
theorem G9:g.EL.Ok P w base 1 (sp_go_up K):=by
 refine lnF uY ?_;rintro dl A ad s H vs Q E hr ⟨p,L,rfl,hp,hl,k⟩
 nomatch (aC (aK `D
    (aC (cE (jY (K:=K) rfl PySem.F.plainAttrs_list PySem.F.slot_list_pop PySem.F.type_list_pop xq (pv 0)))) `D)),uY.nd,g.c_UP,g.aX
 fail "r";simp only[kup];have hS:SqL K H p (L.map sV)\/SqT K H p (L.map sV):=.inl (.of hp);refine⟨_,hS,?_⟩;rw[length_map];cases hg:L.getLast? with
 |none=>cases List.getLast?_eq_none_iff.mp hg;refine ite2 (λz=>absurd z `d) (λ_=>?_);rw[List.dropLast_nil,B3 hp] at k;exact k
 |some s=>
  have hn:L≠[]:=λz=>by rw[z] at hg;cases hg
  have hl0:=length_pos_iff.mpr hn;refine ite2 (λ_=>⟨_,_,hS,jw _ hg,?_⟩) (λz=>absurd `l z);fail "r";refine ite2 (λ_=>⟨⟨_,.of hp⟩,_,sV s,hp,?_,?_⟩) (λz=>absurd (λe=>hl s (List.mem_of_getLast? hg) (ac.mp e)) z)
  .rw[length_map,List.getElem?_map,<- List.getLast?_eq_getElem?,hg];rfl
  .rw[List.map_dropLast] at k;exact k
theorem Ga:g.EM.Ok P w base 1 (sp_rests_stand_last K):=by
 refine lnF uZ ?_;rintro Fn A dl s H vs Q E hr ⟨cs,xs,q,rfl,hq,hx,hl,k⟩
 nomatch (aC (aH (ax (fB (K:=K) rfl rfl) rfl g.fk.1 PyProof.Rows.boot_all (a8 (cmp1 [] [] (dN (K:=K) rfl `D) bF (pcm bE (px K (pv 0) aY) aG)) a9)))),uZ.nd,hint 3 0
 fail "r";have Cl:=hx.length;refine⟨_,hq,λp1 H1 s1 h1=>?_⟩;rw[qL] at h1;refine⟨⟨_,.of h1⟩,λp2 n2=>?_⟩;refine pE (xs:=xs.dropLast) (λi ys H'=>Same H1 H'/\ys=((cs.dropLast.take i).map λc=>!c.isRest).map V.bl) (aF (by rw[length_dropLast];lia)) ⟨aT n2,rfl⟩ (λi ys H2 hJ=>.of (hJ.1 _ _ h1)) (λi x ys H2 T ad hJ h2 hT=>?_) (λys H2 hJ h2=>?_)
 .obtain⟨s2,rfl⟩:=hJ;have hi:=(List.getElem?_eq_some_iff.mp ad).1;rw[length_dropLast] at hi;rw[List.dropLast_eq_take,List.getElem?_take_of_lt `l] at ad;obtain⟨c,b,hc,rfl,BT⟩:=hx.get ad;fail "r";refine⟨_,_,.inr ((s1.trans s2).tup BT),c.at0,bR.mpr ?_⟩;rw[kK];refine hT _ H2 h2 ⟨dX n2 s2,?_⟩;have mt:cs.dropLast[i]?=some c:=by rw[List.dropLast_eq_take,List.getElem?_take_of_lt `l];exact hc
  rw[take_add_one,mt,map_append,map_append];rfl
 .obtain⟨s2,rfl⟩:=hJ;fail "r";refine⟨_,.of h2,?_⟩;have e:(((cs.dropLast.take xs.dropLast.length).map λc=>!c.isRest).all id)=restsL cs:=by
   unfold restsL;rw[length_dropLast,Cl,<- length_dropLast,take_length,all_map];rfl
  rw[e];exact k H2 (s1.trans s2)
theorem jF:g.qu.Ok P w base 1 (sp_is_gap K):=by
 refine lnF ua ?_;rintro cdv A outer s H vs Q E hr ⟨c,p,rfl,hp,k⟩
 exists ua.nd
 fail "r";refine⟨_,_,.inr hp,c.at0,?_⟩;refine L2.bR.mpr ?_;rw[pf];exact k
theorem vy:g.qv.Ok P w base 1 (sp_name_of K):=by
 refine lnF ub ?_;rintro dl A ad s H vs Q E hr ⟨c,p,rfl,hp,hc,k⟩
 exists ub.nd
 fail "r";refine⟨_,_,.inr hp,c.at0,?_⟩;refine L2.ag.mpr ⟨_,rfl,?_⟩;rw[gq];cases c with
 |step s=>cases hc
 |part h n t=>exact ite2 (λ_=>⟨_,_,.inr hp,aB (j:=2) rfl,k⟩) `a
 |num n=>exact ite2 `E (λ_=>⟨_,_,.inr hp,aB (j:=1) rfl,k⟩)
 |word n=>exact ite2 `E (λ_=>⟨_,_,.inr hp,aB (j:=1) rfl,k⟩)
 |gap n=>exact ite2 `E (λ_=>⟨_,_,.inr hp,aB (j:=1) rfl,k⟩)
 |rest n=>exact ite2 `E (λ_=>⟨_,_,.inr hp,aB (j:=1) rfl,k⟩)
theorem vz:g.EN.Ok P w base 1 (sp_head_of K):=by
 refine lnF uc ?_;rintro cdv A outer s H vs Q E hr ⟨c,p,rfl,hp,hc,k⟩
 exists uc.nd
 fail "r";refine⟨_,_,.inr (.of hp),c.at0,ag.mpr ⟨_,rfl,?_⟩⟩;rw[gq];refine ite2 (λz=>?_) (λ_=>k);cases c with
 |part=>cases hc
 |_=>cases z
theorem w4:g.EO.Ok P w base 1 (sp_tail_of K):=by
 refine lnF ud ?_;rintro cdv A outer s H vs Q E hr ⟨c,p,rfl,hp,hc,k⟩
 exists ud.nd
 fail "r";refine⟨_,_,.inr (.of hp),c.at0,ag.mpr ⟨_,rfl,?_⟩⟩;rw[gq];refine ite2 (λz=>?_) (λ_=>k);cases c with
 |part=>cases hc
 |_=>cases z
theorem Gb:g.EQ.Ok P w base 1 (sp_has_rest K):=by
 refine lnF ue ?_;rintro dl A ad s H vs Q E hr ⟨c,d,p,q,e,rfl,hp,ht,k⟩
 exists ue.nd,g.aX,g.cy
 obtain⟨a,b,hq,ha,hb⟩:=ht;fail "r";refine⟨_,_,.inr (.of hp),aB (j:=0) rfl,?_⟩;fail "r";refine⟨_,.inr (.of hq),ite2 (λ_=>⟨_,_,.inr (.of hq),rfl,?_⟩) (λz=>absurd (show (0:Int) < 2 by decide) z)⟩;fail "r";exact⟨_,_,.inr (.of hb),d.at0,ag.mpr (by rw[kK];exact k)⟩
theorem Gc:g.ER.Ok P w base 1 Fx:=⟨λ_ _ _ _ h=>h.elim,λ_ _ _ _ _ _ _ _ _ _ _ _ _ h=>h.elim⟩
theorem Gd:g.qw.Ok P w base 1 (sp_bound_value K):=by
 refine lnF uf ?_;rintro cdv A outer s H vs Q E hr ⟨p,q,rfl,hp,hq,k⟩
 exists uf.nd,hint 1 279,hint 1 277,hint 2 0,g.lB
 fail "r";refine⟨_,_,.inr (.of hp),Pc.at0 _,ag.mpr ⟨_,rfl,?_⟩⟩;rw[kK];exact ite2 (λ_=>⟨_,.inr hq,λl H1 n1 s1 e1=>k l H1 n1 s1 e1⟩) `a
theorem Ge:g.qz.Ok P w base 1 (Fy K):=by
 refine g.qz.F.ok ug (λvs H Q E h=>?_) (λmt A ad s H vs Q E hr h=>?_)
 .obtain⟨rfl,_⟩:=h;rfl
 .obtain⟨rfl,k⟩:=h
  nomatch (aC (aH (cmp1 ["tail","head"] [1,0] (jR `D) bF (ai (bM (K:=K)) (ai (bM (K:=K)) (pv 2) (pv 0)) (pv 1))))),ug.nd,g.rj
  fail "r";intro p n;have eT:(ofString "ab01").cps.toList=[97,98,48,49]:=by fail "k"
  refine jW `k n (λc=>tV [c]) (λc _ H1 R hR=>?_) (λH1 s1 dl=>k p H1 s1 (by rw[dl,eT];rfl));fail "r";exact⟨aF `d,aF (Nat.le_of_ble_eq_true rfl),hR H1 `r⟩
theorem Gf:FnOk P w K mg base CX0 1 g.iQ g.iR ["self","text"] (sp_Cursor___init__ K g.aM):=by
 refine lnT (g.sC.ok uh) ?_;rintro dl A ad s H vs Q E hr ⟨p,dx,t,rfl,hp,k⟩
 exists uh.nd
 fail "r";refine⟨p,_,dx,_,rfl,hp,g.aI,g.c9,by show 0 < 1000;decide,?_⟩;refine⟨p,_,dx,_,rfl,aE,g.aI,g.ar,by show 1 < 1000;decide,?_⟩;have h:ofString "text" ≠ ofString "place" := by fail "k"
 rw[lq];refine k _ b8 ⟨dx,?_⟩;rw[aE];simp only[putF,if_neg h];rfl
theorem w6:FnOk P w K mg base CX0 1 g.iS g.iT ["self"] (sp_Cursor_at_end K g.aM):=by
 refine lnT (g.sE.ok uk) ?_;rintro mt A dl s H vs Q E hr ⟨p,t,i,rfl,⟨dx,hp⟩,hl,k⟩
 exists uk.nd,g.aX
 have ad:Cur H g.aM p t i:=⟨dx,hp⟩;fail "r";refine b9 ad g.aI g.ar (cp ad g.aI g.c9 ?_);fail "r";refine⟨aF hl,?_⟩;rw[show decide ((i:Int)=(`t:Int))=decide (i=`t) from decide_eq_decide.mpr `l];exact k
theorem gJ:FnOk P w K mg base CX0 1 g.iU g.iV ["self"] (sp_Cursor_take K g.aM):=by
 refine lnT (g.sF.ok ul) ?_;rintro mt A dl s H vs Q E hr ⟨p,t,i,c,rfl,⟨dx,hp⟩,hc,hl,k⟩
 exists ul.nd
 have ad:Cur H g.aM p t i:=⟨dx,hp⟩;fail "r";refine cp ad g.aI g.c9 (b9 ad g.aI g.ar ?_);fail "r";refine⟨c,aF hl,aB hc,?_⟩;refine b9 ad g.aI g.ar ?_;fail "r";exact oW ad g.aI g.ar (i+1) `l λH' sb h=>k H' sb h
theorem Gg {K:`F}{C p:Addr}{H:Hp}{Q:VK}{E:XK}{t w r:Tq}{i:Nat}(h:Cur H C p t i)(hi:i<=`t)(hl:`t<=100000)(hd:t.drop i=w++r)(k:∀H',SameBut p H H'->Cur H' C p t (i+w.length)->i+w.length<=`t->t.drop (i+w.length)=r->Q (.bl true) H'):sp_Cursor_passes K C [.ref p,.str ⟨w.toArray⟩] H Q E:=
 ⟨p,t,w,i,rfl,h,hi,hl,λ_ H' s c=>k H' s c (by have:=congrArg List.length hd;rw[length_drop,length_append] at this;lia) (by rw[<- drop_drop,hd,drop_left]),λz=>absurd (by rw[hd,List.take_left]) z⟩
theorem Gh {K:`F}{C p:Addr}{H:Hp}{Q:VK}{E:XK}{t w:Tq}{i:Nat}(h:Cur H C p t i)(hi:i<=`t)(hl:`t<=100000)(hn:¬ (t.drop i).take w.length=w)(k:Q (.bl false) H):sp_Cursor_passes K C [.ref p,.str ⟨w.toArray⟩] H Q E:=
 ⟨p,t,w,i,rfl,h,hi,hl,λz=>absurd z hn,λ_=>k⟩
theorem bp:FnOk P w K mg base CX0 1 g.iW g.iX ["self","text"] (sp_Cursor_passes K g.aM):=by
 refine lnT (g.sG.ok um) ?_;rintro mt A dl s H vs Q E hr ⟨p,t,w,i,rfl,⟨dx,hp⟩,hi,hl,k1,k2⟩
 nomatch (aA (aK (aq (aS (am (K:=K) rfl PySem.F.plainAttrs_str PySem.F.slot_str_startswith PySem.F.type_str_startswith Bw `D (a8 (pv 1) (a8 `D a9)))))
    `D aL)
   (aA `D
   (aC `D))),um.nd,g.aX
 have ad:Cur H g.aM p t i:=⟨dx,hp⟩;fail "r";refine cp ad g.aI g.c9 ⟨rfl,b9 ad g.aI g.ar ?_⟩;fail "r";have e:=jy t w i hi;rw[aN,aN] at e;rw[e];by_cases h:(t.drop i).take w.length=w
 .rw[decide_eq_true h,if_neg `d];refine b9 ad g.aI g.ar ?_;fail "r";exact⟨aF (by have:=congrArg List.length h;rw[length_take,length_drop] at this;lia),oW ad g.aI g.ar (i+w.length) `l λH' sb h'=>k1 h H' sb h'⟩
 .rw[decide_eq_false h,if_pos rfl];exact k2 h
theorem w8:g.ko.Ok P w base 1 (sp_door_with K g.aM):=by
 refine lnF ur ?_;rintro Cl A dl s H vs Q E hr ⟨p,t,i,c,n,rfl,ad,hl,hc,mt,BT,hn,k⟩
 nomatch (aC (aH (ai (cf (K:=K) rfl) `D (br oQ rfl g.fm.1 gU (a8 `D a9))))),ur.nd
 fail "r";refine⟨.inl ⟨`l,`l⟩,cp ad g.aI g.c9 (b9 ad g.aI g.ar ?_)⟩;fail "r";refine⟨c,aF hl,aB hc,_,by show 1<=640;decide,om c `l mt,?_⟩;rw[show (n:Int) * 10+((c - 48:Nat):Int)=((n * 10+(c - 48):Nat):Int) by lia];exact k
theorem Gi:g.r0.Ok P w base 1 Fz:=⟨λ_ _ _ _ h=>h.elim,λ_ _ _ _ _ _ _ _ _ _ _ _ _ h=>h.elim⟩
theorem Gj:g.ES.Ok P w base 1 (sp_way_from K):=by
 refine lnF ut ?_;rintro Cl A dl s H vs Q E hr ⟨x,vb,vw,rfl,hW,wf,ad,k⟩
 nomatch (aA (aK (ptm (oC (K:=K) rfl hr.units) (pv 1) (bC (v:=.ref g.gC) rfl g.lI rfl))
    `D aL)
   (aA `D
   (aC `D))),ut.nd,hint 1 459,g.fi,hint 1 456
 fail "r";refine⟨wayOf x.w,wayOf noWay,hW,g.lJ H,oK (λs hs=>(wf.stp s hs).2),`d,_,rfl,?_⟩;rw[oM,decide_eq_false (λz=>by rw[show x.rooted=false from congrArg Prod.fst z] at ad;cases ad),if_neg `d];obtain⟨pw,ps,rfl,mt,BT⟩:=gi (r:=x.w.1) (e:=x.w.2.2) (ss:=x.w.2.1) hW;fail "r";exact⟨_,_,.inr mt,rfl,_,rfl,by rw[show x.w.1=true from ad];exact k⟩
theorem Gk:g.ET.Ok P w base 1 (sp_question_from K):=by
 refine lnF lQ ?_;rintro Fn A ad s H vs Q E hr ⟨x,vb,vx,rfl,hX,wf,dl,k⟩
 nomatch (aA (sx 2 lQ.nd (dI (pcm (oC (K:=K) rfl hr.units) `D (bC (v:=.ref g.gC) rfl g.lI rfl)) (cV `D)))
   (aC `D)),lQ.nd,g.iJ,g.eM
 obtain⟨px,wx,qx,rfl,mt,BT,Cl⟩:=bu hX;fail "r";refine⟨_,_,.inr mt,rfl,wayOf x.w,wayOf noWay,BT,g.lJ H,oK (λs hs=>(wf.stp s hs).2),`d,_,rfl,?_⟩;rw[oM,decide_eq_false (λz=>by rw[show x.rooted=false from congrArg Prod.fst z] at dl;cases dl),if_neg `d];exact⟨_,_,.inr mt,rfl,k _ Cl⟩
theorem wA:FnOk P w K mg base (CXN P w base) 1 g.bw.a g.bw.fd ["table","name"] (FA K g.af):=by
 refine g.bw.F.okn lR (λvs H Q E h=>?_) (λFn A dl s H vs Q E hr h=>?_)
 .obtain⟨l,T,ws,n,rfl,_⟩:=h;rfl
 .obtain⟨l,T,ws,n,rfl,hl,hT,k,kE⟩:=h;refine⟨_,(aA (cG PassesOwn.leaving rfl (bh (K:=K) rfl (pv 0)) (jb (n:=2) (K:=K) rfl rfl (cW (pgn 2 lR.nd) (cW (pgn 3 lR.nd) gN)))
   (aC (aK (ptm bK (pv 2) (pv 1))
    (aC (aH (pv 3))) aL)))
   (aC (ck raisesN rfl g.j6 g.lO rfl))),?_⟩
  fail "r";have Cl:=hT.length;refine⟨⟨_,.of hl⟩,?_⟩;refine f9 (xs:=ws) (λi Z H'=>Same H H'/\∃v2 v3:Option V,Z=[some (.ref l),some (tV n),v2,v3]/\T.find? (λt=>decide (t.1=n))=(T.drop i).find? (λt=>decide (t.1=n))) ⟨Same.refl _,none,none,rfl,rfl⟩ (λi Z H' _ h=>.of (h.1 _ _ hl)) ?_ ?_
  .rintro i v Z H1 hv ⟨s1,v2,v3,rfl,ad⟩;obtain⟨t,ht,a',p',rfl,BT,mt⟩:=hT.get hv;rw[B0 ht,List.find?_cons] at ad;fail "r";refine⟨a',_,rfl,.of (s1 _ _ BT),rfl,_,_,rfl,_,_,rfl,rfl,?_⟩;fail "r";refine ite2 (λh=>k t (by rw[ad,decide_eq_true (ac.mp h)]) p' H1 s1 (mt.mono s1.toT)) (λh=>⟨s1,_,_,`R,by rw[ad,decide_eq_false (λz=>h (by rw[z]))]⟩)
  rintro Z H1 ⟨s1,v2,v3,rfl,ad⟩;fail "r";exact kE (by rw[ad,Cl,List.drop_length];rfl) H1 s1
theorem Gm:FnOk P w K mg base (CXN P w base) 1 g.dv.a g.dv.fd ["row"] (FB K g.ak):=by
 refine g.dv.F.okn j8 (λvs H Q E h=>?_) (λBT A ad s H vs Q E hr h=>?_)
 .obtain⟨v,rfl,_⟩:=h;rfl
 .obtain⟨v,rfl,h⟩:=h;refine⟨_,(aA (aK (aq (aS (ax gS rfl g.b4.1 bX (a8 (pv 0) (a8 (gL (v:=.ty "str") rfl g.c0.1 jS rfl) a9)))))
    (aC (ck raisesN rfl g.gF g.j7 rfl)) aL)
   (aA (sx 1 j8.nd (px K (am (K:=K) rfl PySem.F.plainAttrs_str PySem.F.slot_str_partition PySem.F.type_str_partition fK (pv 0) (a8 aG a9)) aY))
   (aA (aK (cH (DL (g.lL P)) (pv 1) (bC (v:=.ref g.gD) rfl g.lK rfl) (by with_unfolding_all rfl))
    (aC (ck raisesN rfl g.gF g.j7 rfl)) aL)
   (aA (sx 2 j8.nd (ai (bM (K:=K)) aY (pq (g.lL P) (bC (v:=.ref g.gD) rfl g.lK rfl) (pv 1) (λ_ _=>rfl))))
   (aR (sx 3 j8.nd (bQ (cH (cj (K:=K) rfl) (pv 1) (bC (v:=.ref g.gE) rfl g.lM rfl) (by with_unfolding_all rfl)) (am (K:=K) rfl PySem.F.plainAttrs_str PySem.F.slot_str_split PySem.F.type_str_split DM (pv 0) (a8 aG (a8 (pv 2) a9))) (am (K:=K) rfl PySem.F.plainAttrs_str PySem.F.slot_str_split PySem.F.type_str_split qA (pv 0) (a8 aG a9))))
   (aA (aK (PW.pt (bD (ptm bE (ax (jX (K:=K) rfl) rfl g.aX.1 PySem.boot_len (a8 (pv 3) a9)) (bQ (cH (cj (K:=K) rfl) (pv 1) (bC (v:=.ref g.gE) rfl g.lM rfl) (by with_unfolding_all rfl)) (ai (bM (K:=K)) (pv 2) aY) (pv 2))) (bJ (cH (cj (K:=K) rfl) aG (bf (gW (K:=K) rfl) (pv 3) bt (bW (pv 2))) (by with_unfolding_all rfl)))))
    (aC (ck raisesN rfl g.gF g.j7 rfl)) aL)
   (aC (aH (pv 3))))))))),?_⟩
  have mt:ofString " "=⟨#[32]⟩:=by fail "k"
  have eD:List.map (λp=>(PyData.str p.fst,p.snd)) iA=nbD:=by with_unfolding_all rfl
  rw[mt];fail "r";rcases h with⟨ty,dl,hk,he⟩|⟨row,rfl,hl,he,k⟩
  .exact⟨_,_,_,_,rfl,dl,hk,_,rfl,ite2 (λ_=>he H `r) `a⟩
  refine⟨_,_,_,_,rfl,.str _,bg K "str" `d "str" `d,_,rfl,ite2 `E (λ_=>?_)⟩;fail "r";refine⟨rfl,aF `l,λp hp=>⟨_,_,.inr (.of aE),dY,?_⟩⟩;rw[show (Txt.partition ⟨row.toArray⟩ ⟨#[32]⟩).1=mkS (bfo 32 row) from Ec row,eD];generalize hH:upd H p _=H1;have s1:Same H H1:=hH▸aT hp;have W:=gt (ss:=wtW) (g.lN H1);have nb:=Eb (bfo 32 row);refine⟨rfl,_,rfl,_,rfl,?_⟩;cases hn:nbM (bfo 32 row) with
  |none=>rw[hn] at nb;rw[nb];exact ite2 (λ_=>he (by unfold rowM;rw[hn];rfl) H1 s1) `a
  |some n=>
   rw[hn] at nb;rw[nb];have hm:rowM row=rowC row n:=by unfold rowM;rw[hn];rfl
   rw[hm] at he k;have h2:=Ef hn;clear hm hn;refine ite2 `E (λ_=>⟨_,n,rfl,nb,?_⟩);refine⟨λZ H2=>Same H H2/\∃q:Addr,Z=[some (tV row),some (.str (mkS (bfo 32 row))),some (.int (1+(n:Int))),some (.ref q)]/\H2 q=some (.lst ((rowA row n).map V.str)),?_,?_⟩
   .refine⟨_,wtW.map V.str,rfl,.inr W,rfl,rfl,decide (mkS (bfo 32 row)∈wtW),by rw[cv];rfl,?_⟩;refine ite2 (λht=>?_) (λht=>⟨`l,λq nq=>⟨s1.trans (aT nq),q,rfl,?_⟩⟩)
    .rw[show (1+(n:Int))=((1+n:Nat):Int) by lia];refine DN.mpr ⟨by show row.length<=_;lia,`l,λq nq=>⟨s1.trans (aT nq),q,rfl,?_⟩⟩;unfold rowA;rw[aE,if_pos (of_decide_eq_true ht)]
    .unfold rowA;rw[aE,if_neg (λz=>ht (decide_eq_true z))]
   rintro Z H2 ⟨s2,q,rfl,hq⟩;fail "r";refine⟨_,.inl (.of hq),_,wtW.map V.str,rfl,.inr (gt (ss:=wtW) (g.lN H2)),rfl,rfl,decide (mkS (bfo 32 row)∈wtW),by rw[cv];rfl,?_⟩;rw[length_map];have yes:(rowA row n).length=(if mkS (bfo 32 row)∈wtW then n+2 else n+1)->∃xs,SqL K H2 q xs/\∀p,H2 p=none->rIn K false (.str ⟨#[]⟩) (.ref p) (upd H2 p (.lst (cutV xs none (some (1+(n:Int)))))) λx H'=>∃k,x=.bl k/\if k=true then E (.ref g.ak) none H' else Q (.ref q) H':=λhl=>by
    refine⟨_,.of hq,λr hr=>?_⟩;refine⟨_,((rowA row n).take (1+n)).map V.str,rfl,.inl (.of (by rw[aE,show (1+(n:Int))=((1+n:Nat):Int) by lia,Dh,map_take])),rfl,all_eq_true.mpr (λv hv=>by obtain⟨z,_,rfl⟩:=mem_map.mp hv;rfl),decide (mkS []∈(rowA row n).take (1+n)),by rw[cv];rfl,ite2 (λz=>he ?_ _ (s2.trans (aT hr))) (λz=>k ((rowA row n).map (·.cps.toList)) ?_ q _ (s2.trans (aT hr)) ?_)⟩
    .unfold rowC;exact if_neg λy=>y.2 (of_decide_eq_true z)
    .unfold rowC;exact if_pos ⟨hl,λy=>z (decide_eq_true y)⟩
    .rw[Ed];exact aT hr _ _ hq
   have no:(rowA row n).length≠(if mkS (bfo 32 row)∈wtW then n+2 else n+1)->rowC row n=none:=λz=>by unfold rowC;exact if_neg λy=>z y.1
   refine ite2 (λht=>?_) (λht=>?_)
   .rw[if_pos (of_decide_eq_true ht)] at yes no;exact ite2 (λz=>he (no `l) H2 s2) (λz=>yes `l)
   .rw[if_neg (λz=>ht (decide_eq_true z))] at yes no;exact ite2 (λz=>he (no `l) H2 s2) (λz=>yes `l)
theorem wB:g.EU.Ok P w base 1 (sp_stands_in K):=by
 refine lnF FV ?_;rintro Cl A ad s H vs Q E hr ⟨l,T,ws,n,rfl,hl,hT,BT,k⟩;refine⟨_,(aC (aH (el (cj (K:=K) rfl) (pv 1) (cmp1 [] [] (bh (K:=K) rfl (pv 0)) bF (px K (pv 0) aY)) (by with_unfolding_all rfl)))),?_⟩;fail "r";have mt:=hT.length;refine⟨⟨_,.of hl⟩,λp np=>?_⟩;refine nB (zs:=(T.map λt=>mkS t.1).map V.str) (.of hl) (aF `l) np (by rw[length_map,length_map,mt]) (λi x z hx hz H1 U s1 hU=>?_) (λH1 s1 dl=>?_)
 .obtain⟨t,ht,a,q,rfl,ha,hq⟩:=hT.get hx;rw[List.getElem?_map,List.getElem?_map,ht] at hz;cases hz;fail "r";exact⟨_,_,.inr (.of (s1 _ _ ha)),aB (j:=0) rfl,hU H1 `r⟩
 .have e:inV (tV n) ((T.map λt=>mkS t.1).map V.str)=T.any λt=>decide (t.1=n):=by
   rw[cv,Bool.eq_iff_iff,decide_eq_true_eq,any_eq_true,mem_map];exact⟨λ⟨t,h1,h2⟩=>⟨t,h1,decide_eq_true (ac.mp h2)⟩,λ⟨t,h1,h2⟩=>⟨t,h1,by rw[of_decide_eq_true h2]⟩⟩
  refine⟨_,_,rfl,.inl (.of dl),rfl,all_eq_true.mpr λv hv=>?_,?_⟩
  .obtain⟨z,_,rfl⟩:=mem_map.mp hv;rfl
  rw[if_neg `d,e];exact k H1 s1
theorem wC:g.r6.Ok P w base 1 (sp__law_cell_at K):=by
 refine lnF uu ?_;rintro dl A ad s H vs Q E hr ⟨a,ns,i,rfl,hS,k⟩
 exists uu.nd,g.aX
 fail "r";refine⟨ns.map V.int,.inl hS,ite2 (λh=>?_) (λh=>?_)⟩
 .rw[length_map] at h;exact⟨ns.map V.int,_,.inl hS,Ay `l,k⟩
 .rw[length_map] at h;rw[List.getD_eq_getElem?_getD,List.getElem?_eq_none `l] at k;exact k
theorem Gn:g.EV.Ok P w base 1 (sp__law_names K):=by
 refine lnF gH ?_;rintro HI A GE s H vs Q E hr ⟨c,m,rfl,hm,k⟩
 nomatch (aA `D
   (aA `D
   (aA `D
   (aA `D
   (aA (cG PassesOwn.never rfl (dJ rfl g.cz.1 (a8 (pv 1) a9)) (pgn 6 gH.nd)
   (aA `D
   (aR (cG PassesOwn.never rfl (dJ rfl g.cz.1 (a8 (pv 3) a9)) (pgn 8 gH.nd)
   (aA (sx 9 gH.nd (ai (bM (K:=K)) `D (ai mn (pv 6) (br mq rfl g.fm.1 gU (a8 `D a9)))))
   (aC `D)))
   (aC `D))))
   (aC `D)))))),gH.nd,hint 2 0
 have eL:ofString "abcdefghijklmnopqrstuvwxyz"=⟨smaL.toArray⟩:=by unfold smaL;simp
 rw[eL];fail "r";refine⟨`d,⟨`d,`d⟩,`l,`d,λp H1 n1 s1 e1=>⟨`l,`l,?_⟩⟩;rw[Int.toNat_natCast];obtain⟨sz,GT,HG,HF⟩:∃sz:Nat,1+c % 8=(sz:Int)/\1<=sz/\sz<=8:=⟨(1+c % 8).toNat,`l,`l,`l⟩;rw[GT];obtain⟨ad,ha,HE⟩:∃a:Nat,c / 8 % (sz:Int)=(a:Int)/\a < sz:=by have h1:=Int.emod_nonneg (c / 8) (show (sz:Int)≠0 by lia);have h2:=Int.emod_lt_of_pos (c / 8) (show 0 < (sz:Int) by lia);exact⟨(c / 8 % (sz:Int)).toNat,`l,`l⟩
 rw[ha];obtain⟨X,hX⟩:∃X:Int,X=c / (64+9 * (ad:Int) * (ad:Int))+5 * (ad:Int):=`o;refine cZ (λi Z H'=>Ex5 λ(ns:List Tq) (v6 v7 v8 v9:Option V)=>Z=[some (.int c),some (.int (m:Int)),some (tV smaL),some (.int (sz:Int)),some (.int (ad:Int)),some (.ref p),v6,v7,v8,v9]/\ns.length=i/\(∀n∈ns,0 < n.length/\n.length<=8/\n.all isSma=true)/\(∀(k:Nat) (n:Tq),ns[k]?=some n->NmAt X ad k n)/\Same H H'/\H' p=some (.lst (ns.map tV))) ⟨[],none,none,none,none,rfl,rfl,`s,(λk n h=>by cases h),s1,e1⟩ ?_ ?_
 .rintro i Z H2 hi ⟨ns,v6,v7,v8,v9,rfl,hl,mt,BT,s2,e2⟩;fail "r";refine⟨λZ H3=>H3=H2/\Ex3 λ(l:Tq) (v8 v9:Option V)=>`L=sz/\NmAt X ad i l/\l.all isSma=true/\Z=[some (.int c),some (.int (m:Int)),some (tV smaL),some (.int (sz:Int)),some (.int (ad:Int)),some (.ref p),some (.int (0+(i:Int))),some (tV l),v8,v9],?_,?_⟩
  .refine⟨`l,`l,?_⟩;rw[Int.toNat_natCast];refine cZ (λj Z H3=>H3=H2/\∃(l:Tq) (v8 v9:Option V),`L=j/\(ad < j->NmAt X ad i l)/\l.all isSma=true/\Z=[some (.int c),some (.int (m:Int)),some (tV smaL),some (.int (sz:Int)),some (.int (ad:Int)),some (.ref p),some (.int (0+(i:Int))),some (tV l),v8,v9]) ⟨rfl,[],_,_,rfl,(λz=>absurd z `l),rfl,rfl⟩ ?_ (λZ H3 ⟨h1,l,v8,v9,h2,h3,h4,h5⟩=>⟨h1,l,v8,v9,h2,h3 HE,h4,h5⟩);rintro j Z H3 hj ⟨rfl,l,v8,v9,Fn,Cl,Fr,rfl⟩;have hb:0 < 64+9 * (0+(j:Int)) * (0+(j:Int))/\64+9 * (0+(j:Int)) * (0+(j:Int)) < 1073741824:=by
    have h0:0<=(0+(j:Int)) * (0+(j:Int)):=Int.mul_nonneg `l `l;have h1:(0+(j:Int)) * (0+(j:Int))<=8 * 8:=Int.mul_le_mul `l `l `l `l;rw[Int.mul_assoc];lia
   fail "r";have HD:CMul (0+(i:Int)) (if 0+(j:Int)=(ad:Int) then 1 else 0):=.inl ⟨`l,`l⟩;have dl:0+(j:Int)=(ad:Int)->(c / (64+9 * (0+(j:Int)) * (0+(j:Int)))+5 * (0+(j:Int))+(0+(i:Int)) * if 0+(j:Int)=(ad:Int) then 1 else 0)=X+(i:Int):=λz=>by rw[if_pos z,Int.mul_one,hX,z];lia
   obtain⟨d,hd,HC⟩:=Da (c / (64+9 * (0+(j:Int)) * (0+(j:Int)))+5 * (0+(j:Int))+(0+(i:Int)) * if 0+(j:Int)=(ad:Int) then 1 else 0);refine⟨.inl ⟨`d,`d⟩,.inr ⟨`l,`l⟩,hb,.inl ⟨`d,`d⟩,HD,`d,d,`k,hd,aF `l,l++[d],_,_,by rw[length_append,length_singleton,Fn],λz=>?_,by rw[List.all_append,Fr];simp[HC],rfl,rfl,rfl⟩;by_cases ej:j=ad
   .rw[dl `l] at hd;exact⟨d,by rw[List.getElem?_append_right `l,Fn,ej,Nat.sub_self];rfl,hd⟩
   .exact (Cl `l).app
  rintro Z H3 ⟨rfl,l,v8,v9,Fn,Cl,Fr,rfl⟩;fail "r";refine⟨⟨_,.of e2⟩,_,e2,by rw[length_map];exact Nat.lt_of_le_of_lt (show ns.length<=26 by lia) `d,ns++[l],_,_,_,_,⟨rfl,rfl,rfl,rfl⟩,by rw[length_append,length_singleton,hl],λn hn=>?_,λk n hk=>?_,dX n1 s2,by rw[aE,map_append];rfl⟩
  .rcases mem_append.mp hn with z|z
   .exact mt n z
   .rw[mem_singleton.mp z];exact⟨`l,`l,Fr⟩
  .by_cases HB:k < ns.length
   .rw[List.getElem?_append_left HB] at hk;exact BT k n hk
   .rw[List.getElem?_append_right `l] at hk;have HA:k - ns.length=0:=by
     cases hh:k - ns.length with
     |zero=>rfl
     |succ z=>rw[hh] at hk;cases hk
    rw[HA] at hk;cases hk;rw[show k=i by lia];exact Cl
 .rintro Z H2 ⟨ns,v6,v7,v8,v9,rfl,hl,mt,BT,s2,e2⟩;fail "r";exact k ns p H2 hl mt (Dc BT `l) s2 e2
theorem Go:g.EW.Ok P w base 1 (sp__law_signs K):=by
 refine lnF uv ?_;rintro GT A ad s H vs Q E hr ⟨c,rfl,k⟩
 exists uv.nd,hint 2 0,g.aX
 fail "r";refine⟨`d,`d,?_⟩;have eS:ofString " !\"#$&'()*+,-./0123456789:;<=>?@ABCDEFGHIJKLMNOPQRSTUVWXYZ[\\]^_`abcdefghijklmnopqrstuvwxyz{|}~"=⟨SG.toArray⟩:=by fail "k"
 have eD:ofString "."=⟨[46].toArray⟩:=by fail "k"
 have eB:ofString "b7"=⟨[98,55].toArray⟩:=by fail "k"
 have eA:ofString "a1."=⟨[97,49,46].toArray⟩:=by fail "k"
 have Fn:SG.length=94:=by fail "k"
 rw[eS,eD,eB,eA];refine cZ (λi Z H'=>H'=H/\Ex2 λ(l:Tq) (v3:Option V)=>Z=[some (.int c),some (.str ⟨SG.toArray⟩),some (tV l),v3]/\`L=i/\∀x∈l,isSg x=true) ⟨rfl,[],none,rfl,rfl,λx hx=>by cases hx⟩ ?_ ?_
 .rintro i Z H1 hi ⟨rfl,l,v3,rfl,hl,hs⟩;have GE:i < 3:=hi;obtain⟨d,hd,BT⟩:=jj SG (c / ((0+(i:Int)) * 97+1)) (SG.length:Int) `l `l;fail "r";refine⟨.inr ⟨`d,`d⟩,⟨`l,`l⟩,aF `l,`l,d,aF `l,BT,aF `l,l++[d],_,`R,by rw[length_append,length_singleton,hl],λx hx=>?_⟩;rcases mem_append.mp hx with z|z
  .exact hs x z
  .rw[mem_singleton.mp z];exact jc.mp hd
 .rintro Z H1 ⟨rfl,l,v3,rfl,hl,hs⟩;have Fr:`L=3:=hl;fail "r";refine⟨aF `l,aF `l,`d,λp H2 n2 s2 mt=>⟨⟨`d,`d⟩,`d,?_⟩⟩;obtain⟨v,hv,Cl⟩:=AG [V.str `A,V.str ⟨(l++[46]).toArray⟩,V.str ⟨[97,49,46].toArray⟩,V.str ⟨([98,55]++l).toArray⟩] (c / 9409) 4 `d `s;refine⟨_,_,.inl (.of mt),Cl,?_⟩;have dl:∀x∈([46,97,49,98,55]:Tq),isSg x=true:=by decide
  simp only[mem_cons,not_mem_nil,or_false] at hv;rcases hv with rfl|rfl|rfl|rfl
  .exact k l H2 `l `l hs s2
  .refine k (l++[46]) H2 `s (by simp;lia) (λx hx=>?_) s2;rcases mem_append.mp hx with z|z
   .exact hs x z
   .exact dl x (by rw[mem_singleton.mp z];decide)
  .exact k [97,49,46] H2 `d `d `d s2
  .refine k ([98,55]++l) H2 `s (by simp;lia) (λx hx=>?_) s2;rcases mem_append.mp hx with z|z
   .simp only[mem_cons,not_mem_nil,or_false] at z;rcases z with rfl|rfl <;> decide
   .exact hs x z
theorem Gp:g.EX.Ok P w base 1 sp__law_run:=by
 refine lnF ux ?_;rintro Cl A ad s H vs Q E hr ⟨c,gg,m,rfl,BT,mt,hm,k⟩
 exists ux.nd,g.aX
 fail "r";refine⟨`l,`l,?_⟩;rw[Int.toNat_natCast];refine cZ (λi Z H'=>H'=H/\Ex2 λ(l:Tq) (v4:Option V)=>Z=[some (.int c),some (tV gg),some (.int (m:Int)),some (tV l),v4]/\`L=i/\∀x∈l,x∈gg) ⟨rfl,[],none,rfl,rfl,λx hx=>by cases hx⟩ ?_ ?_
 .rintro i Z H1 hi ⟨rfl,l,v4,rfl,hl,hs⟩;have hb:0 < 5 * (0+(i:Int)) * (0+(i:Int))+1/\5 * (0+(i:Int)) * (0+(i:Int))+1 < 1073741824:=by
   have h0:0<=(0+(i:Int)) * (0+(i:Int)):=Int.mul_nonneg `l `l;have h1:(0+(i:Int)) * (0+(i:Int))<=100 * 100:=Int.mul_le_mul `l `l `l `l;rw[Int.mul_assoc];lia
  obtain⟨d,hd,dl⟩:=jj gg (c / (5 * (0+(i:Int)) * (0+(i:Int))+1)) (gg.length:Int) `l `l;fail "r";refine⟨.inl ⟨`d,`d⟩,.inr ⟨`l,`l⟩,hb,aF `l,`l,d,aF `l,dl,aF `l,l++[d],_,`R,by rw[length_append,length_singleton,hl],λx hx=>?_⟩;rcases mem_append.mp hx with z|z
  .exact hs x z
  .rw[mem_singleton.mp z];exact hd
 .rintro Z H1 ⟨rfl,l,v4,rfl,hl,hs⟩;fail "r";exact k l hl hs
theorem li:g.EY.Ok P w base 1 sp__law_any:=by
 refine lnF uy ?_;rintro mt A ad s H vs Q E hr ⟨c,m,rfl,hm,k⟩
 exists uy.nd,g.aX
 have eS:ofString " !\"#$&'()*+,-./0123456789:;<=>?@ABCDEFGHIJKLMNOPQRSTUVWXYZ[\\]^_`abcdefghijklmnopqrstuvwxyz{|}~"=⟨SG.toArray⟩:=by fail "k"
 rw[eS];fail "r";refine⟨`d,`l,`l,?_⟩;rw[Int.toNat_natCast];refine cZ (λi Z H'=>H'=H/\Ex3 λ(l:Tq) (n:Int) (v5:Option V)=>Z=[some (.int c),some (.int (m:Int)),some (tV SG),some (.int n),some (tV l),v5]/\`L=i/\∀x∈l,isSg x=true) ⟨rfl,[],_,none,rfl,rfl,λx hx=>by cases hx⟩ ?_ ?_
 .rintro i Z H1 hi ⟨rfl,l,n,v5,rfl,hl,hs⟩;obtain⟨d,hd,dl⟩:=jj SG (n * 48271 % 2147483647 / 64) (SG.length:Int) `d `d;fail "r";refine⟨.inr ⟨`d,`d⟩,`d,⟨`d,`d⟩,`d,`d,d,`d,dl,aF `l,l++[d],_,_,⟨rfl,rfl,rfl⟩,by rw[length_append,length_singleton,hl],λx hx=>?_⟩;rcases mem_append.mp hx with z|z
  .exact hs x z
  .rw[mem_singleton.mp z];exact jc.mp hd
 .rintro Z H1 ⟨rfl,l,n,v5,rfl,hl,hs⟩;fail "r";exact k l hl hs
theorem Gq:g.EZ.Ok P w base 1 (sp__law_row K):=by
 refine lnF j9 ?_;rintro HE A Fr s H vs Q E hr ⟨q,nm,c,rfl,hq,hl,mt,Fn,k⟩
 nomatch (aA `D
   (aA `D
   (aA (aK `D
    (aR (sx 4 j9.nd (cJ (a8 aG (a8 aG (a8 aG (a8 aG (a8 aG (a8 aG (a8 aG (a8 aG (a8 aG (a8 aG a9))))))))))))
   (aR `D
   (aR (sx 4 j9.nd (ai (bM (K:=K)) (pv 4) (cJ (a8 aG (a8 aG (a8 aG (a8 aG (a8 bH (a8 aY (a8 dF (a8 `D (a8 `D (a8 Dn a9)))))))))))))
   (aR `D
   (aC `D))))) aL)
   (aA `D
   (aA `D
   (aR `D
   (aR `D
   (aC `D)))))))),j9.nd,hint 2 0,hint 0 659,hint 0 660,hint 0 655,hint 0 656
 obtain⟨n0,n1,n2,n3,nr,rfl⟩:=qf hl;fail "r";refine⟨_,tV n0,.inl (.of hq),dY,⟨`d,`d⟩,`d,`d,?_⟩;have ad:=mt n0 `f;have l0:=ad.1.2;refine ite2 (λ_=>?_) (λ_=>?_)
 .refine⟨λZ H1=>Same H H1/\∃l,Z=[some (.ref q),some (.int c),some (tV n0),some (.int (c / 4 % 1000003)),some (.ref l)]/\RwsD (n0::n1::n2::n3::nr) 0 10 H1 l,⟨`d,λl H1 nl s1 e1=>⟨s1,l,rfl,_,e1,rfl,?_⟩⟩,?_⟩
  .simp only[forall_mem_cons];exact⟨bB `k,bB `k,bB `k,bB `k,bB `k,bB `k,bB `k,bB `k,bB `k,bB `k,λ_ z=>nomatch z⟩
  rintro Z H1 ⟨s1,l1,rfl,r1⟩;fail "r";have a4:ofString "add "=mkS (wAdd++[32]):=by fail "k"
  have b5:ofString "both "=mkS (wBoth++[32]):=by fail "k"
  have b6:ofString "both  "=mkS (wBoth++[32,32]):=by fail "k"
  have Cl:ofString " "=mkS [32]:=by fail "k"
  rw[a4,b5,b6,Cl];refine⟨λZ H2=>Same H H2/\∃l,Z=[some (.ref q),some (.int c),some (tV n0),some (.int (c / 4 % 1000003)),some (.ref l)]/\RwsD (n0::n1::n2::n3::nr) 0 16 H2 l,⟨?_,?_,?_,?_,?_,`d,λl H2 nl s2 e2=>fe (m:=6) r1 s2 e2 rfl ?_ `d λr H3 s3 hR=>⟨(s1.trans s2).trans s3,r,rfl,hR⟩⟩,?_⟩;iterate 5 exact aF (by simp only[ay,aN,length_append,length_cons,length_nil,wAdd,wBoth];lia)
  .simp only[forall_mem_cons];exact⟨Em ad,bB `k,bB `k,En ad,Eo ad,Ep ad,λ_ z=>nomatch z⟩
  rintro Z H2 ⟨s2,l2,rfl,r2⟩;fail "r";refine⟨λZ H3=>Same H H3/\∃l,Z=[some (.ref q),some (.int c),some (tV n0),some (.int (c / 4 % 1000003)),some (.ref l)]/\RwsD (n0::n1::n2::n3::nr) 0 26 H3 l,⟨`d,λpa Ha na sa ea=>⟨`d,λpb Hb nb sb eb pc nc=>⟨`d,λl H3 nl s3 e3=>fe (m:=10) r2 (((sa.trans sb).trans (aT nc)).trans s3) e3 rfl ?_ `d λr H4 s4 hR=>⟨(s2.trans (((sa.trans sb).trans (aT nc)).trans s3)).trans s4,r,rfl,hR⟩⟩⟩⟩,?_⟩
  .have sc:=(aT nc).trans s3;simp only[forall_mem_cons];exact⟨bB `k,bB `k,bB `k,bB `k,.ty .non,.ty (.int 7),.ty (.bl true),.ty (.lst ((sb.trans sc) _ _ ea)),.ty (.tup (sc _ _ eb)),.ty (.dK (s3 _ _ aE)),λ_ z=>nomatch z⟩
  rintro Z H3 ⟨s3,l3,rfl,r3⟩;fail "r";have GT:=mt n1 `s;have l1':=GT.1.2;refine⟨λZ H4=>Same H H4/\∃l,Z=[some (.ref q),some (.int c),some (tV n0),some (.int (c / 4 % 1000003)),some (.ref l)]/\RwsD (n0::n1::n2::n3::nr) 0 28 H4 l,?_,?_⟩
  .refine⟨?_,?_,_,_,.inl (.of (s3 _ _ hq)),aB (j:=1) rfl,fD.mpr ⟨?_,?_⟩⟩;iterate 3 exact aF (by simp only[aN,length_append,length_cons,length_nil,wBoth];lia)
   rw[ay];refine fD.mpr ⟨aF (by simp only[aN,length_append,length_cons,length_nil,wBoth];lia),?_⟩;rw[ay];refine⟨`d,λl H4 nl s4 e4=>fe (m:=2) r3 s4 e4 rfl ?_ `d λr H5 s5 hR=>⟨(s3.trans s4).trans s5,r,rfl,hR⟩⟩;simp only[forall_mem_cons];exact⟨Er ad GT,bB `k,λ_ z=>nomatch z⟩
  rintro Z H4 ⟨s4,l4,rfl,r4⟩;fail "r";obtain⟨xs,v,e4,BT,v4⟩:=ki (c / 4 % 1000003) r4 `d;exact⟨`d,_,v,.inl (.of e4),BT,`d,λr H5 n5 s5 e5=>k r v 0 H5 (s4.trans s5) (by rw[e5,show ofString "row"=mkS (kdW 0) by fail "k"]) `d (v4.mono s5)⟩
 refine⟨`d,ite2 (λ_=>?_) (λ_=>⟨`d,ite2 (λ_=>?_) (λ_=>?_)⟩)⟩
 .have b5:ofString "both "=mkS (wBoth++[32]):=by fail "k"
  have bA:ofString "both A "=mkS (wBoth++[32]++[65]++[32]):=by fail "k"
  have Cl:ofString " "=mkS [32]:=by fail "k"
  have GT:=mt n1 `s;have dl:=mt n2 `s;have GE:=mt n3 `s;have l2:=dl.1.2;have l3:=GE.1.2;have c2:n2≠n0/\n2≠n1:=by simp only[nodup_cons,mem_cons,not_or] at Fn;exact⟨λz=>Fn.1.2.1 z.symm,λz=>Fn.2.1.1 z.symm⟩
  rw[b5,bA,Cl];fail "r";refine⟨λZ H1=>Same H H1/\∃l,Z=[some (.ref q),some (.int c),some (tV n0),some (.int (c / 4 % 1000003)),some (.ref l)]/\RwsD (n0::n1::n2::n3::nr) 1 5 H1 l,?_,?_⟩
  .refine⟨aF (by simp only[length_append,length_cons,length_nil,wBoth];lia),aF (by simp only[length_append,length_cons,length_nil,wBoth];lia),_,_,.inl (.of hq),aB (j:=2) rfl,catS (by simp only[length_append,length_cons,length_nil,wBoth];lia) `l ⟨`d,λl H1 nl s1 e1=>⟨s1,l,rfl,_,e1,rfl,?_⟩⟩⟩;simp only[forall_mem_cons];exact⟨hV `k,hV `k,hV `k,hV `k,i6 (bN ad) (bN dl) (bV ad) (bV dl) `l `l (.inr c2),λ_ z=>nomatch z⟩
  rintro Z H1 ⟨s1,l1,rfl,r1⟩;fail "r";have HA:=s1 _ _ hq;refine⟨λZ H2=>Same H H2/\∃l,Z=[some (.ref q),some (.int c),some (tV n0),some (.int (c / 4 % 1000003)),some (.ref l)]/\RwsD (n0::n1::n2::n3::nr) 1 8 H2 l,⟨_,_,.inl (.of HA),aB (j:=2) rfl,catS (by simp only[length_append,length_cons,length_nil,wBoth];lia) `l (catS (by simp only[length_append,length_cons,length_nil,wBoth];lia) `d (catS (by simp only[length_append,length_cons,length_nil,wBoth];lia) `l ⟨_,_,.inl (.of HA),aB (j:=2) rfl,catS (by simp only[length_append,length_cons,length_nil,wBoth];lia) `l (catS (by simp only[length_append,length_cons,length_nil,wBoth];lia) `d ⟨_,_,.inl (.of HA),aB (j:=3) rfl,catS (by simp only[length_append,length_cons,length_nil,wBoth];lia) `l ⟨aF (by simp only[length_append,length_cons,length_nil,wBoth];lia),`d,λl H2 nl s2 e2=>fe (m:=3) r1 s2 e2 rfl ?_ `d λr H3 s3 hR=>⟨(s1.trans s2).trans s3,r,rfl,hR⟩⟩⟩)⟩))⟩,?_⟩
  .simp only[forall_mem_cons];exact⟨i6 (bN dl) (bN ad) (bV dl) (bV ad) `l `l (.inl c2),i6 (bN dl) (bN GE) (bV dl) (bV GE) `l `l (.inl c2),i6 (a:=[65]) `d (bN ad) `d (bV ad) `d `l (.inl ⟨nm_A ad,nm_A GT⟩),λ_ z=>nomatch z⟩
  rintro Z H2 ⟨s2,HC,rfl,r2⟩;fail "r";obtain⟨xs,v,e4,BT,v4⟩:=ki (c / 4 % 1000003) r2 `d;exact⟨`d,_,v,.inl (.of e4),BT,`d,λr H5 n5 s5 e5=>k r v 1 H5 (s2.trans s5) (by rw[e5,show ofString "name"=mkS (kdW 1) by fail "k"]) `d (v4.mono s5)⟩
 .refine⟨λZ H1=>Same H H1/\∃l,Z=[some (.ref q),some (.int c),some (tV n0),some (.int (c / 4 % 1000003)),some (.ref l)]/\RwsD (n0::n1::n2::n3::nr) 2 5 H1 l,⟨`d,λl H1 nl s1 e1=>⟨s1,l,rfl,_,e1,rfl,?_⟩⟩,?_⟩
  .simp only[forall_mem_cons];exact⟨bo `k,bo `k,bo `k,bo `k,bo `k,λ_ z=>nomatch z⟩
  rintro Z H1 ⟨s1,l1,rfl,r1⟩;fail "r";refine⟨λZ H2=>Same H H2/\∃l,Z=[some (.ref q),some (.int c),some (tV n0),some (.int (c / 4 % 1000003)),some (.ref l)]/\RwsD (n0::n1::n2::n3::nr) 2 10 H2 l,⟨`d,λl H2 nl s2 e2=>fe (m:=5) r1 s2 e2 rfl ?_ `d λr H3 s3 hR=>⟨(s1.trans s2).trans s3,r,rfl,hR⟩⟩,?_⟩
  .simp only[forall_mem_cons];exact⟨bo `k,bo `k,bo `k,bo `k,bo `k,λ_ z=>nomatch z⟩
  rintro Z H2 ⟨s2,HC,rfl,r2⟩;fail "r";obtain⟨xs,v,e4,BT,v4⟩:=ki (c / 4 % 1000003) r2 `d;exact⟨`d,_,v,.inl (.of e4),BT,`d,λr H5 n5 s5 e5=>k r v 2 H5 (s2.trans s5) (by rw[e5,show ofString "address"=mkS (kdW 2) by fail "k"]) `d (v4.mono s5)⟩
 .rw[show ofString "/{"=mkS [47,123] by fail "k",show ofString "}/{"=mkS [125,47,123] by fail "k",show ofString "}"=mkS [125] by fail "k",show ofString "add "=mkS (wAdd++[32]) by fail "k",show ofString " "=mkS [32] by fail "k"];refine⟨λZ H1=>Same H H1/\∃l xs,Z=[some (.ref q),some (.int c),some (tV n0),some (.int (c / 4 % 1000003)),some (.ref l)]/\H1 l=some (.lst xs)/\`x=5/\∀v∈xs,PtT v,catS `d `l (catS (by simp only[length_append,length_cons,length_nil,wAdd];lia) `d (catS (by simp only[length_append,length_cons,length_nil,wAdd];lia) `l (catS (by simp only[length_append,length_cons,length_nil,wAdd];lia) `d ⟨`d,λl H1 nl s1 e1=>⟨s1,l,_,rfl,e1,rfl,?_⟩⟩))),?_⟩
  .simp only[forall_mem_cons];exact⟨qg `k,qg `k,cx [[97],[],[]] `k,cx [[123,65,125]] `k,Et ad,λ_ z=>nomatch z⟩
  rintro Z H1 ⟨s1,l1,xs,rfl,e1,x1,p1⟩;fail "r";refine⟨λZ H2=>Same H H2/\∃l xs,Z=[some (.ref q),some (.int c),some (tV n0),some (.int (c / 4 % 1000003)),some (.ref l)]/\H2 l=some (.lst xs)/\`x=10/\∀v∈xs,PtT v,⟨`d,λl H2 nl s2 e2=>.inl ⟨_,_,s2 _ _ e1,e2,aF (by rw[x1];decide),λr H3 n3 s3 e3=>⟨(s1.trans s2).trans s3,r,_,rfl,e3,by rw[length_append,x1];rfl,Ev p1 ?_⟩⟩⟩,?_⟩
  .simp only[forall_mem_cons];exact⟨cx [[46,46]] `k,cx [[123,97,58,114,101,115,116,125],[98]] `k,cx [[123,97,125,123,98,125]] `k,cx [[123,97,58,102,105,103,117,114,101,125]] `k,cx [[],[]] `k,λ_ z=>nomatch z⟩
  rintro Z H2 ⟨s2,l2,HD,rfl,e2,x2,p2⟩;fail "r";obtain⟨v,hv,av⟩:=qh (xs:=(n0::n1::n2::n3::nr).map tV) (N:=4) (c / 4 % 1000003) (by rw[length_map];exact hl) `d;obtain⟨n,hn,rfl⟩:=mem_map.mp hv;obtain⟨w,hw,aw⟩:=qh (N:=10) (c / 4 % 1000003 / 4) (Nat.le_of_eq x2.symm) `d;obtain⟨t,rfl,tl,tp⟩:=p2 w hw;have HB:=mt n hn;have ln:=HB.1.2;exact⟨`d,_,_,.inl (.of (s2 _ _ hq)),av,catS `d `l (catS (by simp only[length_append,length_cons,length_nil,wAdd];lia) `d ⟨⟨`d,`d⟩,`d,_,_,.inl (.of e2),aw,catS (by simp only[length_append,length_cons,length_nil,wAdd];lia) `l ⟨`d,λr H3 n3 s3 e3=>k r _ 3 H3 (s2.trans s3) (by rw[e3,show ofString "pattern"=mkS (kdW 3) by fail "k"]) `d (Eu HB hn tl tp)⟩⟩)⟩
theorem lj:g.F0.Ok P w base 2 sp_is_text:=by
 refine lnF uz ?_;rintro dl A ad s H vs Q E hr ⟨d,v,rfl,hv,hs,k⟩
 exists uz.nd,lZ,g.ku,g.c0,g.b4
 cases hv with
 |lst hp r=>fail "r";simp only[cI hp];fail "r";exact k H `r
 |tup hp r=>fail "r";simp only[cg hp];fail "r";exact k H `r
 |dic hp=>fail "r";exact⟨"dict",by simp only[kindV,hp],ite2 (λz=>absurd z `d) (λ_=>k H `r)⟩
 |str x=>fail "r";refine⟨x,_,rfl,dU hs,λH' sm=>?_⟩;simp only[AK];exact k H' sm
 |_=>fail "r";exact k H `r
theorem wD:g.kq.Ok P w base 2 uK:=by
 refine g.kq.F.ok vA (λvs H Q E h=>?_) (λdl A ad s H vs Q E hr h=>?_)
 .obtain⟨c,rfl,_⟩:=h;rfl
 .obtain⟨l,rfl,hl,ha,k⟩:=h
  exists vA.nd,G7,G6,g.aX
  fail "r";have hz:`L<=sizeLine:=aF `l;refine⟨hz,ite2 (λh=>?_) (λh=>?_)⟩
  .rw[nJ `l] at k;exact k
  .obtain⟨a,b,rfl⟩:=Aw (l:=l) `l;refine⟨a,hz,rfl,ha a `s,b,hz,rfl,ha b `s,?_⟩;have k:Q (signOf a b) H:=k;unfold signOf at k;cases e1:fig a with
   |none=>rw[e1] at k;rw[jh e1];exact k
   |some x=>
    cases e2:fig b with
    |none=>rw[e1,e2] at k;rw[fE e1,jh e2];exact k
    |some y=>rw[e1,e2] at k;rw[fE e1,fE e2];fail "r";exact⟨.inr ⟨`d,`d⟩,x * 16+y,by rw[Int.natCast_add,Int.natCast_mul];rfl,k⟩
theorem gK:g.iC.Ok P w base 2 gG:=by
 refine g.iC.F.ok FW (λvs H Q E h=>?_) (λBT A dl s H vs Q E hr h=>?_)
 .obtain⟨c,rfl,_⟩:=h;rfl
 .obtain⟨l,rfl,hl,hs,k⟩:=h;refine⟨_,(aC (aH (am (K:=K) rfl PySem.F.plainAttrs_str PySem.F.slot_str_join PySem.F.type_str_join (dM (K:=K) rfl) aG (a8 (cmp1 [] [] (jR (pv 0)) bF (bQ (cH jT (pv 0) (glC g.iF) (by with_unfolding_all rfl)) (pv 0) (aQ g.kn (G5 g) hr rfl (a8 (pv 0) a9)))) a9)))),?_⟩;fail "r";intro p hp;refine jW (z:=`A) (by rw[aN];exact aF `l) hp (λc=>.str ⟨(wr1 c).toArray⟩) (λc hc H' R hR=>?_) (λH' sm mt=>?_)
  .have l1:=bi (hs c hc);have e:=jk c `l;have ad:=hR H' `r;fail "r";unfold wr1 at ad;refine ite2 (λh=>?_) (λh=>?_)
   .rw[decide_eq_true h] at e;rw[<- e,if_pos rfl] at ad;exact ad
   .rw[decide_eq_false h] at e;rw[<- e,if_neg `d] at ad;exact⟨`l,ad⟩
  .fail "r";refine⟨l.map λc=>⟨(wr1 c).toArray⟩,SqL.of (by rw[mt,map_map];rfl),?_,?_⟩
   .have h3:∀m:Tq,((m.map λc=>(⟨(wr1 c).toArray⟩:Str)).map (·.length)).sum<=3 * m.length:=λm=>by
     induction m with
     |nil=>simp
     |cons c r ih=>have:=nK c;simp only[map_cons,sum_cons,length_cons,aN] at ih ⊢;lia
    have:=h3 l;simp only[length_map,length_nil,Nat.mul_zero,Nat.add_zero,aN] at this ⊢;lia
   .rw[jg];have e:((l.map λc=>(⟨(wr1 c).toArray⟩:Str)).flatMap λy=>y.cps.toList)=wr l:=by
     unfold wr;rw[List.flatMap_map]
    rw[e];exact k H' sm
theorem Gr:g.F1.Ok P w base 2 (sp_steps_left K):=by
 refine lnF vB ?_;rintro Fn A dl s H vs Q E hr ⟨ps,ss,rfl,mt,hl,k⟩
 exists vB.nd,G9,hint 2 0,g.bc,g.c_UP,g.iL,hint 11 146
 fail "r";refine⟨`d,λp H1 hp s1 BT=>⟨⟨_,s1.tup mt⟩,?_⟩⟩;refine A6 (xs:=ss.map sV) (λi Z H2=>Same H H2/\H2 p=some (.lst ((leftS (ss.take i)).map sV))/\∃kk,Z=[some (.ref ps),some (.bl true),some (.ref p),kk]) ⟨s1,BT,none,rfl⟩ (λi Z H2 _ h=>h.1.tup mt) ?_ ?_
 .rintro i x Z H2 hx ⟨sm,ad,kk,rfl⟩;rw[List.getElem?_map] at hx;obtain⟨s,hs,rfl⟩:=Option.map_eq_some_iff.mp hx;have ok:=gy (P:=λ_=>True) (ss:=ss.take i) (L:=[]) (λ_ z=>nomatch z) λ_ _=>trivial;have lk:(leftS (ss.take i)).length<=0+(ss.take i).length:=kW (L:=[]);have e:leftS (ss.take (i+1))=upS (leftS (ss.take i)) s:=by
   unfold leftS;rw[take_add_one,hs];exact foldl_append ..
  rw[length_take] at lk;rw[e];simp only[kup,kst];fail "r";simp only[ac];unfold upS;by_cases h1:s=sUp
  .rw[if_pos h1,if_pos h1];exact⟨p,_,rfl,ad,(λs hs=>(ju.mp (ok s hs).2).1),dX hp sm,aE,_,rfl⟩
  .rw[if_neg h1,if_neg h1];by_cases h2:s=sStay
   .rw[if_pos h2];exact ite2 (λz=>absurd h2 z) (λ_=>⟨sm,ad,_,rfl⟩)
   .rw[if_neg h2];refine ite2 (λ_=>⟨⟨_,.of ad⟩,_,ad,aF (by rw[length_map];lia),dX hp sm,?_,_,rfl⟩) (λz=>absurd h2 z);rw[aE,map_append];rfl
 .rintro Z H2 ⟨sm,ad,kk,rfl⟩;rw[length_map,take_length] at ad;fail "r";exact⟨_,.inl (.of ad),λl H3 s3 Cl=>k l H3 (sm.trans s3) Cl⟩
theorem wE:g.r8.Ok P w base 2 sp_is_name:=by
 refine lnF vC ?_;rintro mt A ad s H vs Q E hr ⟨d,v,rfl,hv,hs,k⟩
 exists vC.nd,lZ,g.rS,g.aX,g.ri,g.c0,g.b4
 have eF:qj=.str ⟨smaL.toArray⟩:=by show V.str (ofString _)=_;unfold smaL;simp
 rw[eF];fail "r";cases hv with
 |str x=>
  refine⟨_,L2.dR,ite2 (λ_=>?_) (λz=>absurd `d z)⟩;have hl:=dU hs;fail "r";have dl:(¬ (1<=x.length/\x.length<=8))->Q (.bl false) H:=λh=>by
   have:nameD (.str x)=false:=by show (decide (1<=x.length/\x.length<=8) && x.cps.toList.all isSma)=false;rw[decide_eq_false h,Bool.false_and]
   rw[<- this];exact k H `r
  refine⟨aF hl,ite2 (λh1=>ite2 (λh2=>?_) (λh2=>dl `l)) (λh1=>dl `l)⟩;refine⟨_,_,rfl,hl,λH' sm=>?_⟩;have e:nameD (.str x)=(x.cps.toList.all λc=>decide (c∈smaL)):=by show (decide (1<=x.length/\x.length<=8) && x.cps.toList.all isSma)=_;rw[decide_eq_true (show 1<=x.length/\x.length<=8 by lia),D8];rfl
  have:=k H' sm;rw[e] at this;simpa using this
 |lst hp r=>exact⟨_,L2.cI hp,ite2 (λz=>absurd z `d) (λ_=>k H `r)⟩
 |dic hp=>exact⟨_,L2.dS hp,ite2 (λz=>absurd z `d) (λ_=>k H `r)⟩
 |tup hp r=>exact⟨_,L2.cg hp,ite2 (λz=>absurd z `d) (λ_=>k H `r)⟩
 |non=>exact⟨_,L2.dO,ite2 (λz=>absurd z `d) (λ_=>k H `r)⟩
 |bl b=>exact⟨_,L2.dP,ite2 (λz=>absurd z `d) (λ_=>k H `r)⟩
 |int i=>exact⟨_,L2.dQ,ite2 (λz=>absurd z `d) (λ_=>k H `r)⟩
theorem Gs:g.F2.Ok P w base 2 (sp_names_of K):=by
 refine lnF FX ?_;rintro mt A ad s H vs Q E hr ⟨cs,xs,q,rfl,hq,hx,hn,k⟩;refine⟨_,(aC (aH (cmp1 [] [] (dN (K:=K) rfl (pv 0)) (jV (aS (aQ g.qu (jF g) hr rfl (a8 (pv 0) a9)))) (aQ g.qv (vy g) hr rfl (a8 (pv 0) a9))))),?_⟩;fail "r";have hl:=hx.length;refine⟨⟨_,hq⟩,λp n=>?_⟩;refine Df (λi=>(cs[i]?.map λc=>!c.isStep).getD false) (λi=>(cs[i]?.map λc=>tV c.name).getD .non) hq (aF `l) n (λi x hi H1 R s1 hR=>?_) (λi x hi ht H1 T s1 hT=>?_) (λH1 s1 dl=>?_)
 .obtain⟨c,q,hc,rfl,hv⟩:=hx.get hi;fail "r";have:=hR H1 `r;rw[hc] at this;exact⟨c,q,rfl,s1.tup hv,_,rfl,this⟩
 .obtain⟨c,q,hc,rfl,hv⟩:=hx.get hi;rw[hc] at ht;fail "r";have:=hT H1 `r;rw[hc] at this;exact⟨c,q,rfl,s1.tup hv,by simpa using ht,this⟩
 .refine k p H1 s1 ?_;rw[dl,hl,pk (λc:Pc=>!c.isStep) (λc:Pc=>tV c.name) .non cs];unfold gapsM;rw[map_map];rfl
theorem wF:g.F3.Ok P w base 2 (sp_spread K):=by
 refine lnF vD ?_;rintro dl A ad s H vs Q E hr ⟨c,d,p,q,e,rfl,hp,ht,k⟩
 nomatch (aA `D
   (aA `D
   (aA (aK `D
    (aC (aH (ai (bM (K:=K)) (pv 2) (ai Bd `D (pv 3))))) aL)
   (aC `D)))),vD.nd,Gb,hint 3 0,g.aX,g.cy
 obtain⟨a,b,hq,ha,hb⟩:=id ht;fail "r";refine⟨_,_,.inr (.of hp),aB (j:=0) rfl,?_⟩;fail "r";refine⟨_,.inr (.of hq),c,d,p,q,e,rfl,hp,ht,_,rfl,?_⟩;refine ite2 (λ_=>ite2 (λ_=>?_) (λz=>absurd (show (0:Int)<=2 - 2 by decide) z)) (λ_=>ite2 (λ_=>k q H `r ht) `a);refine⟨_,hq,λp1 H1 s1 e1=>⟨p1,_,_,rfl,rfl,e1,λp2 H2 s2 e2=>.inr ⟨_,_,(s1.trans s2) _ _ hq,e2,aF (show 2<=100000 by decide),λp3 H3 s3 e3=>?_⟩⟩⟩;have s:=s1.trans (s2.trans s3);exact k p3 H3 s ⟨a,b,e3,s _ _ ha,s _ _ hb⟩
theorem lm:g.kr.Ok P w base 2 (sp_step_fits K):=by
 refine lnF vE ?_;rintro dl A ad s H vs Q E hr ⟨c,s,p,rfl,hp,hc,hs,k⟩
 exists vE.nd,Gc,lh,hint 1 262,hint 1 260,hint 1 256
 fail "r";refine⟨s,rfl,_,rfl,?_⟩;rw[hs,if_neg `d];refine⟨_,_,.inr (.of hp),c.at0,ag.mpr ⟨_,rfl,?_⟩⟩;rw[pf];cases c with
 |step w=>refine ite2 (λ_=>⟨_,_,.inr (.of hp),aB (j:=1) rfl,ag.mpr ?_⟩) `a;rw[show decide ((⟨s.toArray⟩:Str)=⟨w.toArray⟩)=decide (s=w) from decide_eq_decide.mpr ac];exact k
 |part=>cases hc
 |num=>cases hc
 |word=>cases hc
 |_=>refine ite2 `E (λ_=>⟨_,_,.inr (.of hp),Pc.at0 _,ag.mpr ⟨_,rfl,?_⟩⟩);rw[gq];refine ite2 `E (λ_=>⟨_,_,.inr (.of hp),Pc.at0 _,ag.mpr ⟨_,rfl,?_⟩⟩);rw[D6];refine ite2 `E (λ_=>⟨_,_,.inr (.of hp),Pc.at0 _,ag.mpr ⟨_,rfl,?_⟩⟩);rw[D7];exact ite2 `E (λ_=>k)
theorem jG:FnOk P w K mg base CX0 2 g.iY g.iZ ["self","signs"] (sp_Cursor_sees K g.aM):=by
 refine lnT (g.sH.ok vF) ?_;rintro mt A dl s H vs Q E hr ⟨p,t,sg,i,rfl,⟨dx,hp⟩,hi,hl,k⟩
 nomatch (aC (aH (dI (lv (cY (pv 0) g.aI g.lG (w6 g) (hr.mono `d) g.lD .nil pass0)) (cV `D)))),vF.nd
 have ad:Cur H g.aM p t i:=⟨dx,hp⟩;fail "r";refine ao ad ⟨p,t,i,rfl,ad,hl,_,rfl,?_⟩;by_cases he:i=`t
 .rw[decide_eq_true he,if_neg `d];rw[fM (by rw[he];exact List.getElem?_eq_none `n)] at k;exact k
 rw[decide_eq_false he,if_pos rfl];refine cp ad g.aI g.c9 (b9 ad g.aI g.ar ?_);have hc:t[i]?=some t[i]:=List.getElem?_eq_getElem `l;fail "r";refine⟨t[i],aF hl,aB hc,?_⟩;rw[fL hc] at k;exact k
theorem Gu:g.F4.Ok P w base 2 (sp_made_whole K):=by
 refine lnF vG ?_;rintro HE A dl s H vs Q E hr ⟨b,x,vb,vx,rfl,hB,hX,wf,hh,BT,k⟩
 nomatch (aA `D
   (aA `D
   (aC (aH (ai (gf (K:=K) rfl) (bf (fF (K:=K) rfl) (pv 0) bt (bW `D)) `D))))),vG.nd,Gk,Gj,g.eM,g.lA,hint 2 0,g.iI,hint 1 451
 obtain⟨pb,wb,qb,rfl,Cl,HA,HC⟩:=bu hB;obtain⟨px,wx,qx,rfl,ad,mt,HB⟩:=bu hX;fail "r";refine⟨_,_,.inr ad,rfl,?_⟩;rw[hh];refine ite2 `a (λ_=>?_);refine⟨_,_,.inr Cl,rfl,_,_,.inr ad,rfl,x,wb,wx,rfl,mt,wf,BT,_,Cl,λp2 H2 s2 GT=>?_⟩;refine⟨x,_,_,rfl,hX.mono s2,wf,BT,λv2 Fn=>⟨_,_,.inr (s2.tup ad),rfl,`d,λp3 H3 HD s3 GE=>⟨_,_,s3.tup GT,.of GE,(show 6<=sizeLine by decide),λp4 H4 s4 Fr=>k _ H4 (s2.trans (s3.trans s4)) ?_⟩⟩⟩;exact adK (x:={ x with scheme:=b.scheme,house:=b.house,door:=b.door}) Fr (mt.mono (s2.trans (s3.trans s4))) (Fn.mono (s3.trans s4))
theorem Gv:g.F5.Ok P w base 2 (sp_worth_of K):=by
 refine lnF vH ?_;rintro dl A ad s H vs Q E hr ⟨c,p,rfl,hp,hc,k⟩
 nomatch (aA `D
   (aC (aH (bG (a8 (pq (g.t8 P) (bC (v:=.ref g.j4) rfl g.t7 rfl) `D (λ_ _=>rfl)) (a8 `D (a8 `D a9))))))),vH.nd,w4,vz,g.aX,hint 2 0
 fail "r";have sm:smp c=true:=by rcases hc with rfl|rfl <;> rfl
 refine⟨c,p,rfl,hp,sm,_,_,.inr (.of hp),c.at0,c.kw,if c.isStep then 6 else 1,rfl,?_,?_⟩
 .rcases hc with rfl|rfl <;> with_unfolding_all kernel_rfl
 refine⟨aF `d,c,p,rfl,hp,sm,aF `d,aF `d,`d,λr H1 n1 s1 hr=>k r H1 s1 ?_⟩;rw[hr];rcases hc with rfl|rfl <;> rfl
theorem Gw:g.r9.Ok P w base 2 (sp_has_room K):=by
 refine lnF vI ?_;rintro mt A ad s H vs Q E hr ⟨l,T,ws,n,rfl,hl,hT,dl,k⟩
 exists vI.nd,wB,g.aX,g.rm
 have hwl:=hT.length;fail "r";exact⟨_,.inl (.of hl),ite2 (λz=>by rw[decide_eq_true (show T.length < 16 by lia)] at k;exact k H `r) (λz=>⟨l,T,ws,n,rfl,hl,hT,`l,λH1 s1=>by rw[decide_eq_false (show ¬ T.length < 16 by lia)] at k;exact k H1 s1⟩)⟩
theorem Gx:g.rA.Ok P w base 2 (sp_with_entry K):=by
 refine lnF vJ ?_;rintro HC A Fn s H vs Q E hr ⟨l,p,T,ws,t,rfl,hl,hT,HA,hp,k⟩
 nomatch (aA (aK `D
    (aC (aH (cmp1 ["name","pattern"] [1,2] (bh (K:=K) rfl (pv 0)) bF (bQ (ptm bK (px K (pv 0) aY) (pv 1)) (bG (a8 (pv 1) (a8 (pv 2) a9))) (pv 0))))) aL)
   (aC `D)),vJ.nd,wB,hint 2 0
 fail "r";have hwl:=hT.length;refine⟨l,T,ws,t.1,rfl,hl,hT,HA,λH1 s1=>⟨_,rfl,ite2 (λBT=>⟨⟨_,.of (s1 _ _ hl)⟩,λq nq=>?_⟩) (λBT=>?_)⟩⟩
 .refine nA (.of (s1 _ _ hl)) (aF `l) nq (λx y H'=>∀r,RwAt H1 r x->RwAt H' (if r.1=t.1 then t else r) y) (λx y Ha Hb sm h r hr=>(h r hr).mono sm) (λx hx H2 U s2 hU=>?_) (λys H2 s2 hA hq=>k q ys H2 (Wm.Same.free s1 nq) (s1.trans s2) hq ?_)
  .obtain⟨i,hi⟩:=List.getElem?_of_mem hx;obtain⟨r,hr,a,pa,rfl,ha,HB⟩:=(hT.mono s1.toT).get hi;have ad:∀r',RwAt H1 r' (.ref a)->r'.1=r.1:=λr' ⟨a',p',e',h1,_⟩=>by
    cases e';rw[ha] at h1;injection h1 with h1;injection h1 with h1;injection h1 with h1 _;exact (ac.mp (V.str.inj h1)).symm
   fail "r";refine⟨_,_,.inr (.of (s2 _ _ ha)),aB (j:=0) rfl,ag.mpr ⟨_,rfl,ite2 (λe=>⟨`d,λq4 H4 n4 s4 mt=>hU _ _ s4 λr' dl=>?_⟩) (λe=>hU _ _ `r λr' dl=>?_)⟩⟩
   .rw[if_pos (by rw[ad r' dl];exact ac.mp (of_decide_eq_true e))];exact⟨q4,p,rfl,mt,hp.mono ((s1.trans s2).trans s4).toT⟩
   .rw[if_neg (by rw[ad r' dl];exact λz=>e (decide_eq_true (by rw[z])))];exact dl.mono s2.toT
  .unfold putR;rw[if_pos BT];have Fr:∀{rs:List Rw}{xs ys:`V},TbV H1 rs xs->All2 (λx y H'=>∀r,RwAt H1 r x->RwAt H' (if r.1=t.1 then t else r) y) H2 xs ys->TbV H2 (rs.map λr=>if r.1=t.1 then t else r) ys:=λ{rs xs ys} h=>by
    induction h generalizing ys with
    |nil=>intro h;cases h;exact .nil
    |cons a b ih=>
     intro h;cases h with
     |cons h1 h2=>exact .cons (h1 _ a) (ih h2)
   exact Fr (hT.mono s1.toT) hA
 .refine⟨`d,λq2 H2 n2 s2 GT=>⟨`d,λq3 H3 n3 s3 GE=>.inl ⟨_,_,(s1.trans (s2.trans s3)) _ _ hl,GE,aF (by simp only[length_cons,length_nil];lia),λq4 H4 n4 s4 mt=>?_⟩⟩⟩;have Cl:=s1.trans (s2.trans (s3.trans s4));refine k q4 _ H4 (Wm.Same.free (s1.trans (s2.trans s3)) n4) Cl mt ?_;unfold putR;rw[if_neg BT];exact TbV.append (.cons ⟨q2,p,rfl,(s3.trans s4) _ _ GT,hp.mono Cl.toT⟩ .nil) (hT.mono Cl.toT)
theorem Gy:g.F6.Ok P w base 2 (sp__law_cells K):=by
 refine lnF FY ?_;rintro mt A dl s H vs Q E hr ⟨a,ns,s0,m,rfl,hS,hm,k⟩;refine⟨_,(aC (aH (cmp1 ["_law_script","_law_start"] [0,1] (dJ rfl g.cz.1 (a8 (pv 2) a9)) bF (aQ g.r6 (wC g) hr rfl (a8 (pv 1) (a8 (ai (bM (K:=K)) (pv 2) (pv 0)) a9)))))),?_⟩;fail "r";refine⟨`l,`l,λp n=>?_⟩;rw[Int.toNat_natCast];refine pJ (λi ys H'=>SameBut p H H'/\∃is:List Int,ys=is.map V.int/\is.length=i) (aF `l) ⟨b8,[],rfl,rfl⟩ (λi ys H2 T hi hJ ad hT=>?_) (λys H2 hJ ad=>?_)
 .obtain⟨sb,is,rfl,hl⟩:=hJ;fail "r";rw[show ((s0:Int)+(0+(i:Int)))=((s0+i:Nat):Int) by lia];exact⟨a,ns,s0+i,rfl,(sb.same n).seq hS,hT _ H2 ad ⟨sb.trans b8,is++[ns.getD (s0+i) 0],by rw[map_append];rfl,by rw[length_append,length_singleton,hl]⟩⟩
 .obtain⟨sb,is,rfl,hl⟩:=hJ;exact k is p H2 hl (sb.same n) ad
theorem Gz:g.rB.Ok P w base 2 sp__law_one_step:=by
 refine lnF vK ?_;rintro Cl A ad s H vs Q E hr ⟨c,gg,rfl,BT,mt,dl,k⟩
 exists vK.nd,Gp,li,hint 2 0
 have d1:ofString ".."=⟨sUp.toArray⟩:=by fail "k"
 have d2:ofString "."=⟨sStay.toArray⟩:=by fail "k"
 rw[d1,d2];fail "r";have md:∀(z b:Int),0 < b->∃m:Nat,(1<=m/\(m:Int)<=b)/\1+z % b=(m:Int):=λz b hb=>by have h1:=Int.emod_nonneg z (show b≠0 by lia);have h2:=Int.emod_lt_of_pos z hb;exact⟨(1+z % b).toNat,`l,`l⟩
 refine⟨`d,ite2 (λ_=>k sUp `d `d `d) (λ_=>⟨`d,ite2 (λ_=>k sStay `d `d `d) (λ_=>⟨`d,ite2 (λ_=>?_) (λ_=>?_)⟩)⟩)⟩
 .obtain⟨m,hm,em⟩:=md (c / 5) 3 `d;rw[em];refine⟨⟨`d,`d⟩,⟨`d,`d⟩,`d,c / 5,m,rfl,`l,λl hl hs=>k l (λe=>?_) `l hs⟩;rw[e] at hl;simp at hl;lia
 .obtain⟨m,hm,em⟩:=md (c / 5) 2 `d;rw[em];refine⟨⟨`d,`d⟩,⟨`d,`d⟩,`d,c / 5,gg,m,rfl,BT,mt,`l,λl hl hs=>k l (λe=>?_) `l λx hx=>dl x (hs x hx)⟩;rw[e] at hl;simp at hl;lia
theorem GA:g.F8.Ok P w base 2 (sp__law_question K):=by
 refine lnF vL ?_;rintro HI A mt s H vs Q E hr ⟨c,rfl,k⟩
 exists vL.nd,li,hint 2 0,g.bc
 fail "r";have md:∀(z b:Int),0 < b->∃m:Nat,(m:Int) < b/\z % b=(m:Int):=λz b hb=>by have h1:=Int.emod_nonneg z (show b≠0 by lia);have h2:=Int.emod_lt_of_pos z hb;exact⟨(z % b).toNat,`l,`l⟩
 obtain⟨m,hm,em⟩:=md (c / 3) 3 `d;rw[em];refine⟨`d,ite2 (λ_=>k none _ H (λ_ z=>by cases z) `r .non) (λ_=>⟨`d,λp1 H1 n1 s1 e1=>⟨⟨`d,`d⟩,`d,`l,`l,?_⟩⟩)⟩;rw[Int.toNat_natCast];refine cZ (λi Z H'=>SameBut p1 H H'/\Ex4 λ(ps:List (Tq×Option Tq)) (ys:`V) (v2 v3:Option V)=>Z=[some (.int c),some (.ref p1),v2,v3]/\ps.length=i/\(∀p∈ps,(0 < p.1.length/\Tx 5 p.1)/\∀v,p.2=some v->Tx 6 v)/\H' p1=some (.lst ys)/\IsTAll H' (ps.map λp=>.tuple [st p.1,oD p.2]) ys) ⟨Same.but s1,[],[],none,none,rfl,rfl,(λp hp=>by cases hp),e1,.nil⟩ ?_ ?_
 .rintro i Z H2 hi ⟨sb,ps,ys,v2,v3,rfl,hl,hs,h2,ad⟩;fail "r";have HE:(i:Int) < 3:=by lia
  obtain⟨M,hM⟩:∃M,M=c / (9+4 * (0+(i:Int))):=`o;rw[<- hM];obtain⟨a1,HG,HB⟩:=md M 3 `d;obtain⟨a2,HF,HA⟩:=md M 4 `d;obtain⟨a3,GE,GT⟩:=md (M / 3) 2 `d;rw[HB,HA,GT,show (1:Int)+(a1:Int)=((1+a1:Nat):Int) by lia];refine⟨.inl ⟨`d,`d⟩,⟨`l,`l⟩,⟨_,.of h2⟩,`d,M,1+a1,rfl,`l,λl1 HD Fr=>⟨⟨`d,`d⟩,`d,M / 7,a2,rfl,`l,λl2 HC Fn=>⟨`d,λp3 H3 n3 s3 e3=>⟨⟨`d,`d⟩,`d,?_⟩⟩⟩⟩;obtain⟨o,v,hv,Cl,ho⟩:∃(o:Option Tq) (v:V),atI [V.non,tV l2] (a3:Int)=some v/\(∀H,IsT H (oD o) v)/\∀z,o=some z->Tx 6 z:=by
   match a3,GE with
   |0,_=>exact⟨none,.non,aB (j:=0) rfl,λ_=>.non,λz hz=>by cases hz⟩
   |1,_=>exact⟨some l2,tV l2,aB (j:=1) rfl,λ_=>.str _,λz hz=>by cases hz;exact⟨`l,Fn⟩⟩
  refine⟨_,v,.inl (.of e3),hv,`d,λp4 H4 n4 s4 e4=>?_⟩;have dl:=s3.trans s4;have BT:p4≠p1:=λz=>by rw[z,dl _ _ h2] at e4;cases e4
  refine⟨_,dl _ _ h2,Nat.lt_of_le_of_lt (show ys.length<=100 by have:=ad.length;rw[length_map] at this;lia) `d,(sb.trans dl.but).trans b8,ps++[(l1,o)],_,_,_,`R,by rw[length_append,length_singleton,hl],λp hp=>?_,aE,?_⟩
  .rcases mem_append.mp hp with z|z
   .exact hs p z
   .rw[mem_singleton.mp z];exact⟨⟨by show 0 < l1.length;lia,by show l1.length<=5;lia,Fr⟩,ho⟩
  .have t2:SameT H2 (upd H4 p1 (.lst (ys++[.ref p4]))):=λb zs e=>by
    rw[aD (λz=>by rw[z,h2] at e;cases e)];exact dl _ _ e
   rw[map_append];exact (ad.mono t2).append (.cons (.tup (by rw[aD BT];exact e4) (.cons (.str _) (.cons (Cl _) .nil))) .nil)
 .rintro Z H2 ⟨sb,ps,ys,v2,v3,rfl,hl,hs,h2,ad⟩;fail "r";have s2:=sb.same n1;exact⟨_,.inl (.of h2),λl H3 s3 e3=>k (some ps) _ H3 (λqs z=>by cases z;exact⟨⟨`l,λp hp=>⟨(hs p hp).1.2.1,λv e=>((hs p hp).2 v e).1⟩⟩,λp hp=>⟨⟨(hs p hp).1.1,(hs p hp).1.2.2⟩,λv e=>((hs p hp).2 v e).2⟩⟩) (s2.trans s3) (.tup e3 (ad.mono s3.toT))⟩
theorem GB:g.rC.Ok P w base 3 uL:=by
 refine g.rC.F.ok vM (λvs H Q E h=>?_) (λBT A ad s H vs Q E hr h=>?_)
 .obtain⟨c,r,fr,rfl,_⟩:=h;rfl
 .obtain⟨c,r,fr,rfl,hl,ha,mt,k⟩:=h
  exists vM.nd,wD,g.iF
  by_cases hc:c=126
  .subst hc;rw[nO] at k;fail "r";refine⟨126,aF `l,aB (j:=0) rfl,?_⟩;rw[if_pos rfl];exact⟨aF `l,hl,λd hd=>ha d (mem_cons_of_mem _ hd),k⟩
  .have dl:r=[]:=mt.resolve_left hc;subst dl;fail "r";have hp:=jk c (ha c `s);rw[nP hc] at k;refine⟨c,`d,rfl,?_⟩;rw[if_neg (AC hc)];refine ite2 (λh=>?_) (λh=>?_)
   .rw[decide_eq_true h] at hp;rw[<- hp,Bool.true_or,if_pos rfl] at k;exact k
   .rw[decide_eq_false h] at hp;rw[<- hp,Bool.false_or] at k;refine ite2 (λh2=>?_) (λh2=>?_)
    .rw[if_pos (decide_eq_true h2)] at k;exact k
    .rw[if_neg (by simpa using h2)] at k;exact k
theorem GC:g.F9.Ok P w base 3 sp_is_scheme:=by
 refine lnF vN ?_;rintro mt A ad s H vs Q E hr ⟨d,v,rfl,hv,hs,k⟩
 exists vN.nd,lZ,lj,g.rV,g.rT,g.aX,g.re
 fail "r";refine⟨d,v,rfl,hv,hs,λH1 s1=>?_⟩;fail "r";have k1:=k H1 s1;cases hv with
 |str x=>
  have hx:=dU hs;refine ite2 (λh=>?_) (λh=>?_)
  .rw[show schD (.str x)=false by simp only[schD];rw[show x.cps.toList.all isSg=false from h];rfl] at k1;exact k1
  have h:x.cps.toList.all isSg=true:=(Bool.not_eq_false _).mp h;fail "r";refine⟨aF hx,ite2 (λh2=>?_) (λh2=>?_)⟩
  .rw[show schD (.str x)=false by simp only[schD,h,Bool.true_and];rw[decide_eq_false `l];rfl] at k1;exact k1
  have e:x=⟨x.cps.toList.toArray⟩:=by simp
  refine⟨aF hx,?_⟩;have e1:Txt.slice x none (some 1)=⟨(x.cps.toList.take 1).toArray⟩:=by
   conv=>lhs;rw[e]
   exact Aq x.cps.toList 1
  rw[e1];refine⟨⟨(x.cps.toList.take 1).toArray⟩,_,rfl,by rw[aN,length_take];lia,λH2 s2=>?_⟩;have dl:=all_eq_true.mp h;have f1:((⟨(x.cps.toList.take 1).toArray⟩:Str).cps.toList.all λc=>decide (c∈(ofString "abcdefghijklmnopqrstuvwxyzABCDEFGHIJKLMNOPQRSTUVWXYZ").cps.toList))=(x.cps.toList.take 1).all isLet:=by rw[AA,Bool.eq_iff_iff,all_eq_true,all_eq_true];refine forall_congr' λc=>forall_congr' λhc=>?_;rw[AH c (by have:=bi (dl c (List.mem_of_mem_take hc));lia)]
  have f2:(x.cps.toList.all λc=>decide (c∈(ofString "abcdefghijklmnopqrstuvwxyzABCDEFGHIJKLMNOPQRSTUVWXYZ0123456789").cps.toList))=x.cps.toList.all isAln:=by rw[Bool.eq_iff_iff,all_eq_true,all_eq_true];refine forall_congr' λc=>forall_congr' λhc=>?_;rw[AI c (by have:=bi (dl c hc);lia)]
  rw[f1];fail "r";refine ite2 (λh3=>?_) (λh3=>?_)
  .refine⟨x,_,rfl,hx,λH3 s3=>?_⟩;have k3:=k H3 (s1.trans (s2.trans s3));rw[f2];simp only[schD,h,h3,Bool.true_and,decide_eq_true (show x.length<=8 by lia)] at k3;exact k3
  .have k3:=k H2 (s1.trans s2);simp only[schD,h,(Bool.not_eq_true _).mp h3,Bool.false_and,Bool.and_false,Bool.true_and] at k3;exact k3
 |_=>exact k1
theorem GD:g.Fa.Ok P w base 3 sp_is_filled_text:=by
 refine lnF vO ?_;rintro dl A ad s H vs Q E hr ⟨d,v,rfl,hv,hs,k⟩
 exists vO.nd,lj,g.aX
 fail "r";refine⟨d,v,rfl,hv,hs,λH1 s1=>?_⟩;fail "r";have k1:=k H1 s1;cases hv with
 |str x=>
  refine ite2 (λh=>?_) (λh=>?_)
  .fail "r";refine⟨aF (dU hs),?_⟩;have e:ftx (.str x)=decide ((0:Int) < (x.length:Int)):=by
    simp only[ftx];rw[show x.cps.toList.all isSg=true from h,Bool.true_and];exact decide_eq_decide.mpr `l
   rw[e] at k1;exact k1
  .rw[show ftx (.str x)=false by simp only[ftx];rw[show x.cps.toList.all isSg=false from (Bool.not_eq_true _).mp h,Bool.false_and]] at k1;exact k1
 |_=>exact k1
theorem GF:g.Fb.Ok P w base 3 sp_shown_house:=by
 refine lnF vP ?_;rintro BT A ad s H vs Q E hr ⟨o,d,rfl,ho,hd,k⟩
 exists vP.nd,gK,g.c0,hint 0 114
 have c1:ofString ":"=⟨[58].toArray⟩:=by fail "k"
 have c2:ofString "//"=⟨[47,47].toArray⟩:=by fail "k"
 rw[c1,c2];fail "r";cases o with
 |none=>
  cases d with
  |some i=>exact absurd rfl (hd i rfl).2
  |none=>refine ite2 (λ_=>?_) `a;exact k H `r
 |some l=>
  refine ite2 (λz=>absurd z (by simp[otV])) (λ_=>?_);have hl:=ho l rfl;have w:=cK l;refine⟨λZ H'=>H'=H/\Z=[some (otV (some l)),some (itV d),some (.str ⟨(dooT d).toArray⟩)]/\(dooT d).length<=6,?_,?_⟩
  .cases d with
   |none=>exact ite2 (λ_=>⟨rfl,rfl,`d⟩) `a
   |some i=>
    have hi:=(hd i rfl).1;have mt:=nV hi.1 hi.2;refine ite2 (λz=>absurd z (by simp[itV])) (λ_=>?_);refine⟨i,rfl,lg hi.1 hi.2,aF (by rw[nu,aN];lia),rfl,?_,?_⟩
    .rw[nu,show (⟨#[58]⟩:Str)=⟨[58].toArray⟩ from rfl,ay];simp[dooT]
    .simp only[dooT,length_cons];lia
  .rintro Z H' ⟨rfl,rfl,mt⟩;fail "r";show gG [.str `A] H' _ _;fail "r";refine⟨`l,hl.2,λH'' dl=>?_⟩;refine⟨aF `l,aF `l,?_⟩;have:=k H'' dl;simpa [houT] using this
theorem wG:g.rD.Ok P w base 3 (sp_shown_way K):=by
 refine lnF vQ ?_;rintro Fn A ad s H vs Q E hr ⟨r,e,ss,p,q,rfl,hp,hq,hs,hn,hl,k⟩
 nomatch (aC (aH (aQ g.qt (G8 g) hr rfl (a8 `D (a8 (cmp1 [] [] (dN (K:=K) rfl `D) bF (aQ g.iC (gK g) hr rfl (a8 (pv 0) a9))) (a8 `D a9)))))),vQ.nd,g.iK,g.fj,g.fi
 fail "r";refine⟨_,_,.inr hp,rfl,?_⟩;refine⟨_,_,.inr hp,rfl,q,rfl,⟨_,hq⟩,λp1 Cl=>?_⟩;refine A3 (zs:=(ss.map wr).map λl=>V.str `A) hq (by rw[length_map];exact aF `l) Cl `s (λi x z hx hz H' T sm hT=>?_) (λH' sm BT=>?_)
 .rw[List.getElem?_map] at hx hz;rw[List.getElem?_map] at hz;obtain⟨s,dl,rfl⟩:=Option.map_eq_some_iff.mp hx;rw[dl] at hz;simp only[Option.map_some,Option.some.injEq] at hz;subst hz;have mt:=hs s (mem_of_getElem? dl);fail "r";exact⟨mt.1,mt.2,hT⟩
 .refine⟨_,_,.inr (sm.tup hp),rfl,?_⟩;have hw:(joinT 47 (ss.map wr)).length<=90000:=by
   have:=hl;unfold wayT at this;simp only[length_append] at this;lia
  refine⟨r,e,p1,ss.map wr,rfl,.of BT,hw,?_⟩;rw[<- AT];exact k H' sm
theorem GG:g.rE.Ok P w base 3 sp_shown_asked:=by
 refine lnF vR ?_;rintro BT A ad s H vs Q E hr ⟨n,o,rfl,hk,hn,ho,k⟩
 exists vR.nd,gK
 have c1:ofString "="=⟨[61].toArray⟩:=by fail "k"
 rw[c1];have w1:=cK n;fail "r";cases o with
 |none=>refine ite2 (λ_=>?_) `a;refine⟨hn,hk.1.2,λH' s'=>?_⟩;rw[show pairT (n,none)=wr n by simp[pairT,oT]] at k;exact k H' s'
 |some l=>refine ite2 (λz=>absurd z (by simp[otV])) (λ_=>?_);have mt:=ho l rfl;have w2:=cK l;rw[show pairT (n,some l)=wr n++[61]++wr l by simp[pairT,oT]] at k;refine⟨hn,hk.1.2,λH' s'=>?_⟩;refine⟨aF (by simp;lia),?_⟩;show gG [.str `A] H' _ _;fail "r";refine⟨mt,hk.2 l rfl,λH'' dl=>⟨aF (by simp;lia),k H'' (s'.trans dl)⟩⟩
theorem GH:g.Fc.Ok P w base 3 sp_shown_mark:=by
 refine lnF vS ?_;rintro dl A ad s H vs Q E hr ⟨o,rfl,ho,k⟩
 exists vS.nd,gK
 have c1:ofString "#"=⟨[35].toArray⟩:=by fail "k"
 rw[c1];fail "r";cases o with
 |none=>exact ite2 (λ_=>k H `r) `a
 |some l=>refine ite2 (λz=>absurd z (by simp[otV])) (λ_=>?_);have hl:=ho l rfl;have w:=cK l;show gG [.str `A] H _ _;rw[show (⟨#[35]⟩:Str)=⟨[35].toArray⟩ from rfl];fail "r";refine⟨hl.1,hl.2,λH' s'=>⟨aF `l,?_⟩⟩;exact k H' s'
theorem GI:g.Fe.Ok P w base 3 (sp_gone K):=by
 refine lnF vT ?_;rintro HD A BT s H vs Q E hr ⟨ss,en,v,rfl,hI,GT,hn,k⟩
 exists vT.nd,lh,Gr,g.fi,hint 2 0,g.iL,g.aX,g.iK,g.fj
 obtain⟨pw,ps,rfl,hw,dl⟩:=gi (r:=true) (e:=en) (ss:=ss) hI;fail "r";refine⟨_,_,.inr hw,rfl,?_⟩;fail "r";refine⟨_,.inr dl,?_⟩;rw[length_map];by_cases h0:ss=[]
 .refine ite2 (λ_=>k _ H `r ?_) (λz=>absurd (by rw[h0];rfl) z);rw[show goW ss en=(ss,en) by rw[h0,GT h0];rfl];exact hI
 have HB:0 < ss.length:=length_pos_iff.mpr h0;refine ite2 (λz=>absurd z `l) (λ_=>⟨_,_,.inr hw,rfl,ps,ss,rfl,dl,hn,λp H1 s1 mt=>?_⟩);have Cl:=s1.tup hw;refine⟨_,.inr (.of mt),?_⟩;rw[length_map];fail "r";unfold goW at k;by_cases h1:leftS ss=[]
 .rw[if_pos h1] at k;refine ite2 (λz=>by rw[h1] at z;simp at z) (λ_=>⟨_,_,.inr Cl,rfl,true,rfl,?_⟩);rw[if_pos rfl];exact⟨`d,λp7 H7 HC s7 GE=>⟨`d,λp8 H8 Fn s8 ad=>k _ H8 ((s1.trans s7).trans s8) (wayK (.of ad) (.of (s8 _ _ GE)))⟩⟩
 .rw[if_neg h1] at k;have HA:0 < (leftS ss).length:=length_pos_iff.mpr h1;refine ite2 (λ_=>?_) (λz=>absurd (show (0:Int) < ((leftS ss).length:Int) by lia) z);refine⟨_,_,.inr Cl,rfl,_,_,.inr Cl,rfl,en,rfl,?_⟩;refine ite2 (λhe=>⟨`d,λp8 H8 Fn s8 ad=>k _ H8 (s1.trans s8) ?_⟩) (λhe=>?_)
  .rw[he,Bool.true_or];exact wayK (.of ad) (.of (s8 _ _ mt))
  .have he:en=false:=by simpa using he
   obtain⟨s,Fr⟩:∃s,ss.getLast?=some s:=⟨_,List.getLast?_eq_some_getLast h0⟩;refine⟨_,_,.inr (s1.tup dl),jw _ Fr,s,rfl,`d,λp8 H8 Fn s8 ad=>k _ H8 (s1.trans s8) ?_⟩;rw[he,Bool.false_or,show endD ss=isDot s by unfold endD;rw[Fr]];exact wayK (.of ad) (.of (s8 _ _ mt))
theorem GJ:g.Ff.Ok P w base 3 sp_are_ends_of_part:=by
 refine lnF vU ?_;rintro BT A ad s H vs Q E hr ⟨d,e,v,u,rfl,hv,hu,hs,dl,k⟩
 exists vU.nd,lj
 fail "r";refine⟨d,v,rfl,hv,hs,λH1 s1=>⟨_,rfl,?_⟩⟩;cases hv with
 |str x=>
  refine ite2 (λh1=>⟨e,u,rfl,hu.mono s1,dl,λH2 s2=>⟨_,rfl,?_⟩⟩) (λh1=>?_)
  .cases hu with
   |str y=>
    have k2:=k H2 (s1.trans s2);have eE:endsD (.str x) (.str y)=(x.cps.toList.all isSg && y.cps.toList.all isSg && !decide (x.cps.toList++y.cps.toList=[])):=rfl;rw[eE,show x.cps.toList.all isSg=true from h1,Bool.true_and] at k2;refine ite2 (λh2=>?_) (λh2=>?_)
    .rw[show y.cps.toList.all isSg=true from h2,Bool.true_and] at k2;have hl:=dU hs;have mt:=dU dl;fail "r";refine⟨Nat.le_trans (Nat.add_le_add hl mt) `d,?_⟩;have e2:decide (x++y=(⟨#[]⟩:Str))=decide (x.cps.toList++y.cps.toList=[]):=by
      rw[decide_eq_decide,<- bI x,<- bI y,ay,bI,bI];exact bS
     rw[e2];exact k2
    .rw[show y.cps.toList.all isSg=false from (Bool.not_eq_true _).mp h2,Bool.false_and] at k2;exact k2
   |_=>exact ite2 `E (λ_=>k H2 (s1.trans s2))
  .have k2:=k H1 s1;have eE:endsD (.str x) e=false:=by
    cases e with
    |str y=>show (x.cps.toList.all isSg && y.cps.toList.all isSg && _)=false;rw[show x.cps.toList.all isSg=false from (Bool.not_eq_true _).mp h1];rfl
    |_=>rfl
   rw[eE] at k2;exact k2
 |_=>exact ite2 `E (λ_=>k H1 s1)
theorem GK:g.Fg.Ok P w base 3 (sp_names_are_unlike K):=by
 refine lnF vV ?_;rintro dl A ad s H vs Q E hr ⟨cs,xs,q,rfl,hq,hx,hl,k⟩
 nomatch (aA `D
   (aC (aH (pcm bK (Dq rfl rfl g.rp.1 rfl g.aX.1 PySem.boot_len (a8 (pv 1) a9)) `D)))),vV.nd,Gs,g.aX
 fail "r";refine⟨cs,xs,q,rfl,.of hq,hx,hl,λp1 H1 s1 h1=>?_⟩;have hgl:=Dg cs;refine⟨p1,(gapsM cs).map mkS,rfl,by rw[h1,map_map];rfl,by rw[length_map];lia,?_⟩;fail "r";refine⟨_,.inl (.of h1),?_⟩;have e:decide ((((fstU ((gapsM cs).map mkS)).length:Nat):Int)=(((gapsM cs).map tV).length:Int))=decide ((gapsM cs).Nodup):=by have h2:=(gr _ ((gapsM cs).map mkS) rfl).2;rw[Dz,length_map] at h2;rw[decide_eq_decide,length_map,<- h2];lia
 rw[e];exact k H1 s1
theorem wH:g.rF.Ok P w base 3 (sp_fits K):=by
 refine lnF vW ?_;rintro mt A dl s H vs Q E hr ⟨c,d,p,q,pw,ps,cl,rfl,hp,ht,hc,hd,hw,ad,k⟩
 nomatch (aA `D
   (aA `D
   (aA `D
   (aC (aH (ax (fB (K:=K) rfl rfl) rfl g.fk.1 PyProof.Rows.boot_all (a8 (cmp2 K [] [] (kD (K:=K) rfl rfl g.iN.1 (a8 (pv 3) (a8 (pv 2) a9))) bF (aQ g.kr (lm g) hr rfl (a8 (pv 0) (a8 (pv 1) a9)))) a9))))))),vW.nd,wF,g.iK,g.iM,g.fi,g.aX,g.fj
 fail "r";refine⟨_,_,.inr hw,aB (j:=1) rfl,?_⟩;fail "r";refine⟨_,.inr ad,c,d,p,q,cl,rfl,hp,ht,λr H1 s1 t1=>?_⟩;fail "r";refine⟨_,_,.inr (s1.tup hw),aB (j:=0) rfl,true,rfl,ite2 `E (λ_=>⟨_,_,.inr (s1.tup hw),aB (j:=2) rfl,_,_,.inr (.of (s1 _ _ hp)),aB (j:=1) rfl,mx.mpr ⟨_,rfl,?_⟩⟩)⟩;cases cl with
 |false=>exact ite2 (λ_=>k H1 s1) `a
 |true=>
  obtain⟨a,b,hr,ha,hb⟩:=t1;refine ite2 `E (λ_=>⟨r,ps,_,_,`R,.of hr,s1.tup ad,λpc nc=>?_⟩);refine pI (zs:=[.bl (fS c [120]),.bl (fS d [97])]) (.of hr) (s1.tup ad) (aF (Nat.le_of_ble_eq_true rfl)) nc rfl (λi x y z h1 h2 h3 H2 T s2 hT=>?_) (λH2 s2 e2=>?_)
  .fail "r";match i,h1,h2,h3 with
   |0,h1,h2,h3=>cases h1;cases h2;cases h3;exact⟨c,[120],a,rfl,s2 _ _ ha,hc,`d,hT H2 `r⟩
   |1,h1,h2,h3=>cases h1;cases h2;cases h3;exact⟨d,[97],b,rfl,s2 _ _ hb,hd,`d,hT H2 `r⟩
  .refine⟨pc,[fS c [120],fS d [97]],rfl,.of e2,?_⟩;have:=k H2 (s1.trans s2);simpa using this
theorem GL:g.Fh.Ok P w base 3 (sp_fitting_texts K):=by
 refine lnF vX ?_;rintro Cl A ad s H vs Q E hr ⟨c,p,rfl,hp,hz,k⟩
 nomatch (aR `D
   (aC (aH (cmp1 ["piece"] [0] (bh (K:=K) rfl (pv 1)) (jV (aS (aQ g.kr (lm g) hr rfl (a8 (pv 1) (a8 (pv 0) a9))))) (pv 0))))),vX.nd,jF,w4,vz,Ge,hint 2 0
 fail "r";refine⟨λZ H1=>Same H H1/\∃l:Addr,Z=[some (.ref p),some (.ref l)]/\H1 l=some (.lst ((fitT2 c).map tV)),⟨c,p,rfl,.of hp,_,rfl,?_⟩,?_⟩
 .cases c with
  |step w=>exact ite2 `E (λ_=>⟨_,_,.inr (.of hp),aB (j:=1) rfl,`d,λp1 H1 n1 s1 mt=>⟨s1,p1,rfl,mt⟩⟩)
  |_=>exact ite2 (λ_=>⟨_,p,rfl,hp,hz.1,_,p,rfl,hp,hz.1,rfl,λl H1 s1 hl=>⟨s1,l,rfl,hl⟩⟩) `a
 rintro Z H1 ⟨s1,l,rfl,hl⟩;fail "r";refine⟨⟨_,.of hl⟩,λp2 n2=>?_⟩;have h4:(fitT2 c).length<=4:=by cases c <;> first|exact Nat.le_of_ble_eq_true rfl|exact Nat.le_refl 4
 refine qE (λ_=>true) (λi=>((fitT2 c).map tV)[i]?.getD .non) (.of hl) (by rw[length_map];exact aF `l) n2 (λi x hx H2 R s2 hR=>?_) (λi x hx BT H2 T s2 hT=>?_) (λH2 s2 dl=>?_)
 .rw[List.getElem?_map] at hx;obtain⟨t,ht,rfl⟩:=Option.map_eq_some_iff.mp hx;obtain⟨h1,h2⟩:=hz.2 t (mem_of_getElem? ht);fail "r";exact⟨c,t,p,rfl,(s1.trans s2) _ _ hp,hz.1,h1,_,rfl,by rw[h2];exact hR H2 `r⟩
 .rw[hx] at hT;fail "r";exact hT H2 `r
 .refine k p2 H2 (s1.trans s2) (dl.trans ?_);cases c <;> rfl
theorem GM:FnOk P w K mg base (CXN P w base) 3 g.dy.a g.dy.fd ["cursor"] (FC K g.aM g.aP):=by
 refine g.dy.F.okn lS (λvs H Q E h=>?_) (λHD A Fr s H vs Q E hr h=>?_)
 .obtain⟨p,t,i,rfl,_⟩:=h;rfl
 .obtain⟨p,t,i,rfl,dl,hi,hl,HB,k1,k2⟩:=h;refine⟨_,(aA (aK (aq (aS (aW (pv 0) g.aI g.be (bp g) (hr.mono `d) g.bd .nil pass0 (a8 aG a9))))
    (aC (aH bH)) aL)
   (aA (aK (aq (aS (aW (pv 0) g.aI g.gA (jG g) (hr.mono `d) g.ft .nil pass0 (a8 (glC g.ky) a9))))
    (aC (df de rfl g.cP g.dD (eY g) (hr.mono `d) g.dA rfl pass0 rfl (a8 (au (pv 0) rfl) a9))) aL)
   (aA (sx 1 lS.nd (br oQ rfl g.fm.1 gU (a8 (cY (pv 0) g.aI g.eU (gJ g) (hr.mono `d) g.eQ .nil pass0) a9)))
   (aA (eh PassesOwn.leaving (PW.pt (cU (ptm mE (pv 1) aY) (cU (aS (aW (pv 0) g.aI g.gA (jG g) (hr.mono `d) g.ft .nil pass0 (a8 (glC g.ky) a9))) (dH (ptm mD (aQ g.ko (w8 g) hr rfl (a8 (pv 1) (a8 (pv 0) a9))) (glC g.rg))))))
   (aA (sx 1 lS.nd (aQ g.ko (w8 g) hr rfl (a8 (pv 1) (a8 (pv 0) a9))))
   (aC (cE (cY (pv 0) g.aI g.eU (gJ g) (hr.mono `d) g.eQ .nil pass0)))))
   (aC (aH (pv 1))))))),?_⟩
  have eF:qk=.str ⟨fgS.toArray⟩:=by show V.str (ofString _)=_;unfold fgS;simp
  have e1:ofString ":"=⟨[58].toArray⟩:=by fail "k"
  rw[eF,e1];fail "r";refine ao dl ⟨p,t,[58],i,rfl,dl,hi,hl,λhp H1 s1 c1=>⟨_,rfl,?_⟩,λhp=>⟨_,rfl,?_⟩⟩
  .rw[if_neg `d];have h1:=take1.mp hp;have HA:i+1<=`t:=by
    have:=congrArg List.length hp;rw[length_take,length_drop] at this;simp only[length_singleton] at this;lia
   have em:dooM (t.drop i)=(match t.drop (i+1) with|[]=>(.error 1:Rs (Option Int))|c::r'=>if 48<=c/\c<=57 then .ok (some ((dooG r' (c - 48)).1:Int),2+(dooG r' (c - 48)).2) else .error 1):=by unfold dooM;rw[if_pos h1,drop_drop];all_goals (cases t.drop (i+1) <;> rfl)
   refine ao c1 ⟨p,t,fgS,i+1,rfl,c1,HA,hl,_,rfl,?_⟩;cases hd:t.drop (i+1) with
   |nil=>
    have hn:t[i+1]?=none:=by rw[<- List.head?_drop,hd];rfl
    rw[fM hn,if_pos rfl];exact b9 c1 g.aI g.ar (cC λd H' sm hx=>k2 1 (by rw[em,hd]) d H' (s1.trans sm.but) hx)
   |cons c r=>
    obtain⟨hx,HC⟩:=fN hd;rw[fL hx];by_cases hf:48<=c/\c<=57
    .rw[decide_eq_true (gk.mpr hf),if_neg `d];rw[hd] at em;have em:dooM (t.drop i)=.ok (some ((dooG r (c - 48)).1:Int),2+(dooG r (c - 48)).2):=by rw[em];exact if_pos hf
     refine ao c1 ⟨p,t,i+1,c,rfl,c1,hx,hl,λH2 s2 c2=>⟨_,_,rfl,by show 1<=640;decide,om c `l hf.1,?_⟩⟩;refine fA (λm Z H'=>∃(n k:Nat),m=`t - (i+2+k)/\i+2+k<=`t/\Z=[some (.ref p),some (.int (n:Nat))]/\n<=65535/\SameBut p H H'/\Cur H' g.aM p t (i+2+k)/\(dooG r (c - 48)).1=(dooG (t.drop (i+2+k)) n).1/\(dooG r (c - 48)).2=k+(dooG (t.drop (i+2+k)) n).2) (`t - (i+2)) ⟨c - 48,0,rfl,`l,rfl,`l,s1.trans s2,c2,?_,?_⟩ ?_
     .rw[show t.drop (i+2+0)=r by rw[Nat.add_zero,show i+2=i+1+1 by lia,<- drop_drop,hd];rfl]
     .rw[show t.drop (i+2+0)=r by rw[Nat.add_zero,show i+2=i+1+1 by lia,<- drop_drop,hd];rfl,Nat.zero_add]
     rintro m Z H3 ⟨n,k,rfl,hk,rfl,hn,s3,c3,g1,g2⟩;have Cl:dooG (t.drop (i+2+k)) n=(n,0)->Q (.int (n:Nat)) H3:=λe=>by rw[e] at g1 g2;have:=k1 (some ((dooG r (c - 48)).1:Int)) _ em H3 s3 (by rw[g2,show i+(2+(k+0))=i+2+k by lia];exact c3);rw[g1] at this;exact this
     fail "r";by_cases h0:n=0
     .rw[if_neg `l];refine Cl ?_;cases t.drop (i+2+k) with
      |nil=>rfl
      |cons d r=>unfold dooG;rw[if_neg `l]
     rw[if_pos `l];refine ao c3 ⟨p,t,fgS,i+2+k,rfl,c3,hk,hl,_,rfl,?_⟩;cases hd3:t.drop (i+2+k) with
     |nil=>
      have GT:t[i+2+k]?=none:=by rw[<- List.head?_drop,hd3];rfl
      rw[fM GT,if_neg `d];exact Cl (by rw[hd3];rfl)
     |cons d r3=>
      obtain⟨mt,GE⟩:=fN hd3;rw[fL mt];by_cases ad:48<=d/\d<=57
      .rw[decide_eq_true (gk.mpr ad),if_pos rfl];refine⟨p,t,_,d,n,rfl,c3,hl,mt,ad.1,ad.2,`l,Exists.intro _ ⟨rfl,?_⟩⟩;by_cases BT:n * 10+(d - 48)<=65535
       .rw[decide_eq_true `l,if_pos rfl];refine⟨_,λ_ _ h=>h,p,t,_,d,n,rfl,c3,hl,mt,ad.1,ad.2,`l,ao c3 ⟨p,t,_,d,rfl,c3,mt,hl,λH4 s4 c4=>⟨`t - (i+2+(k+1)),`l,n * 10+(d - 48),k+1,rfl,`l,rfl,BT,s3.trans s4,c4,?_,?_⟩⟩⟩
        .have Fn:t.drop (i+2+(k+1))=r3:=by rw[<- Nat.add_assoc,<- drop_drop,hd3];rfl
         rw[g1,hd3,Fn]
         conv=>lhs;unfold dooG
         rw[if_pos ⟨`l,ad.1,ad.2,BT⟩]
        .have Fn:t.drop (i+2+(k+1))=r3:=by rw[<- Nat.add_assoc,<- drop_drop,hd3];rfl
         rw[g2,hd3,Fn]
         conv=>lhs;unfold dooG
         rw[if_pos ⟨`l,ad.1,ad.2,BT⟩];show k+(_+1)=_;lia
       .rw[decide_eq_false `l,if_neg `d];exact Cl (by rw[hd3];unfold dooG;rw[if_neg (λz=>BT z.2.2.2)])
      .rw[decide_eq_false (λz=>ad (gk.mp z)),if_neg `d];exact Cl (by rw[hd3];unfold dooG;rw[if_neg (λz=>ad ⟨z.2.1,z.2.2.1⟩)])
    .rw[decide_eq_false (λz=>hf (gk.mp z)),if_pos rfl];exact b9 c1 g.aI g.ar (cC λd H' sm hx=>k2 1 (by rw[em,hd];exact if_neg hf) d H' (s1.trans sm.but) hx)
  .rw[if_pos rfl];exact k1 none 0 (by unfold dooM;rw[if_neg (λz=>hp (take1.mpr z))]) H (SameBut.refl _ _) dl
theorem GN:FnOk P w K mg base (CXN P w base) 3 g.dz.a g.dz.fd ["cursor"] (FD K g.aM g.aP):=by
 refine g.dz.F.okn lT (λvs H Q E h=>?_) (λGT A Cl s H vs Q E hr h=>?_)
 .obtain⟨p,t,i,rfl,_⟩:=h;rfl
 .obtain⟨p,t,i,rfl,ad,hi,hl,mt,k1,k2⟩:=h;refine⟨_,(aA (aK (aq (aS (aW (pv 0) g.aI g.gA (jG g) (hr.mono `d) g.ft .nil pass0 (a8 (glC g.rk) a9))))
    (aC (df de rfl g.cP g.dD (eY g) (hr.mono `d) g.dA rfl pass0 rfl (a8 (au (pv 0) rfl) a9))) aL)
   (aA (sx 1 lT.nd (ai (cf (K:=K) rfl) (cY (pv 0) g.aI g.eU (gJ g) (hr.mono `d) g.eQ .nil pass0) (bf (gW (K:=K) rfl) (au (pv 0) rfl) (bW (au (pv 0) rfl)) (bW (ai (cf (K:=K) rfl) (au (pv 0) rfl) aY)))))
   (aA (sx 2 lT.nd (aQ g.kq (wD g) hr rfl (a8 (pv 1) a9)))
   (aA (aK (ptm f8 (pv 2) bH)
    (aC (df de rfl g.cP g.dD (eY g) (hr.mono `d) g.dA rfl pass0 rfl (a8 (au (pv 0) rfl) a9))) aL)
   (aA (cE (cY (pv 0) g.aI g.eU (gJ g) (hr.mono `d) g.eQ .nil pass0))
   (aC (aH (pv 2)))))))),?_⟩
  have eF:qp=.str ⟨fsF.toArray⟩:=by show V.str (ofString "234567")=_;rw[show ofString "234567"=⟨fsF.toArray⟩ by fail "k"]
  fail "r";rw[eF];refine ao ad ⟨p,t,_,i,rfl,ad,hi,hl,_,rfl,?_⟩;cases hd:t.drop i with
  |nil=>
   have hn:t[i]?=none:=by rw[<- List.head?_drop,hd];rfl
   rw[fM hn,if_pos rfl];exact b9 ad g.aI g.ar (cC λd H' sm hx=>k2 0 (by rw[hd];rfl) d H' sm.but hx)
  |cons a r=>
   obtain⟨BT,GE⟩:=fN hd;rw[fL BT];have ha:=mt a (mem_of_getElem? BT);by_cases hf:a∈fsF
   .rw[decide_eq_true hf,if_neg `d];refine ao ad ⟨p,t,i,a,rfl,ad,BT,hl,λH1 s1 c1=>?_⟩;refine cp c1 g.aI g.c9 (b9 c1 g.aI g.ar ⟨_,rfl,b9 c1 g.aI g.ar ?_⟩);fail "r";rw[show ((i+1:Nat):Int)+1=((i+2:Nat):Int) by lia,jf,show i+2 - (i+1)=1 by lia,<- drop_drop,hd];cases r with
    |nil=>
     rw[show List.take 1 (List.drop 1 [a])=[] from rfl];fail "r";refine⟨aF hl,`d,`d,λd dl=>?_,?_⟩
     .simp only[mem_cons,not_mem_nil,or_false] at dl;rw[dl];exact ha
     rw[show signOfL [a]=V.non from rfl,if_pos rfl];exact b9 c1 g.aI g.ar (cC λd H' sm hx=>k2 1 (by rw[hd];show (if a∈fsF then _ else _)=_;rw[if_pos hf]) d H' (s1.trans sm.but) hx)
    |cons b r=>
     rw[show List.take 1 (List.drop 1 (a::b::r))=[b] from rfl];have Fr:t.drop (i+1)=b::r:=by rw[<- drop_drop,hd];rfl
     obtain⟨Fn,_⟩:=fN Fr;have hb:=mt b (mem_of_getElem? Fn);fail "r";refine⟨aF hl,`d,`d,λd dl=>?_,?_⟩
     .simp only[mem_cons,not_mem_nil,or_false] at dl;rcases dl with rfl|rfl
      .exact ha
      .exact hb
     rw[show signOfL [a,b]=signOf a b from rfl,nL];cases hs:sgO a b with
     |none=>rw[if_pos (show oV none=V.non from rfl)];exact b9 c1 g.aI g.ar (cC λd H' sm hx=>k2 1 (by rw[hd];show (if a∈fsF then _ else _)=_;rw[if_pos hf,hs]) d H' (s1.trans sm.but) hx)
     |some c=>rw[if_neg (by intro z;cases z)];refine ao c1 ⟨p,t,i+1,b,rfl,c1,Fn,hl,λH2 s2 c2=>k1 c 2 ?_ H2 (s1.trans s2) c2⟩;rw[hd];show (if a∈fsF then _ else _)=_;rw[if_pos hf,hs]
   .rw[decide_eq_false hf,if_pos rfl];refine b9 ad g.aI g.ar (cC λd H' sm hx=>k2 0 ?_ d H' sm.but hx);rw[hd];cases r with
    |nil=>show (if a∈fsF then _ else _)=_;rw[if_neg hf]
    |cons b r=>show (if a∈fsF then _ else _)=_;rw[if_neg hf]
theorem GO:g.Fi.Ok P w base 3 (sp_worth_more K):=by
 refine lnF vY ?_;rintro HB A dl s H vs Q E hr ⟨p,q,p',q',rfl,hp,ht,mt,BT,k⟩
 exists vY.nd,Gv,g.cy,g.aX,hint 7 0,hint 1 468
 obtain⟨a,b,hq,ha,hb⟩:=ht;obtain⟨a',b',ad,HA,GT⟩:=BT;fail "r";refine⟨_,_,.inr (.of hp),aB (j:=0) rfl,_,_,.inr (.of mt),aB (j:=0) rfl,q,q',_,_,`R,.of hq,.of ad,?_⟩;refine Cb (λi Z H'=>Same H H'/\Ex2 λ(v2 v3:Option V)=>Z=[some (.ref p),some (.ref p'),v2,v3]) ⟨Same.refl _,none,none,rfl⟩ (λi Z H' hi ⟨s,_⟩=>⟨.of (s _ _ hq),.of (s _ _ ad)⟩) ?_ ?_
 .rintro i x y Z H1 T hx hy ⟨s1,v2,v3,rfl⟩ hT;obtain⟨c,pc,pd,hc,rfl,rfl,GE,Fr⟩:∃(c:Pc) (pc pd:Addr),(c=.step [120]\/c=.rest wR)/\x=.ref pc/\y=.ref pd/\H pc=some (.tup c.vals)/\H pd=some (.tup c.vals):=by
   match i,hx,hy with
   |0,hx,hy=>cases hx;cases hy;exact⟨_,_,_,.inl rfl,rfl,rfl,ha,HA⟩
   |1,hx,hy=>cases hx;cases hy;exact⟨_,_,_,.inr rfl,rfl,rfl,hb,GT⟩
  have s2:=s1.trans (aT (o:=.tup [.ref pc,.ref pd]) hT);refine⟨T,_,rfl,.of aE,rfl,_,_,rfl,_,_,rfl,rfl,?_⟩;fail "r";generalize upd H1 T (.tup [.ref pc,.ref pd])=H2 at s2;refine⟨c,pc,rfl,s2 _ _ GE,hc,λr3 H3 s3 Fn=>⟨c,pd,rfl,(s2.trans s3) _ _ Fr,hc,λr4 H4 s4 Cl=>?_⟩⟩;refine⟨.tuple ((worX c).map PyData.int),.tuple ((worX c).map PyData.int),.tup (s4 _ _ Fn) (kL _),.tup Cl (kL _),pz _,pz _,_,rfl,?_⟩;rw[Dk];exact ite2 (λz=>absurd z `s) (λ_=>⟨s2.trans (s3.trans s4),_,_,rfl,rfl⟩)
 .rintro Z H1 ⟨s1,v2,v3,rfl⟩;fail "r";refine⟨_,_,.inr (.of (s1 _ _ hp)),aB (j:=0) rfl,_,.inr (.of (s1 _ _ hq)),_,_,.inr (.of (s1 _ _ mt)),aB (j:=0) rfl,_,.inr (.of (s1 _ _ ad)),?_⟩;fail "r";exact k H1 s1
theorem GP:g.rG.Ok P w base 3 (sp_shown_value K):=by
 refine lnF vZ ?_;rintro BT A dl s H vs Q E hr ⟨q,rfl,hq,k⟩
 nomatch (aA (aK `D
    (aC (aH (am (K:=K) rfl PySem.F.plainAttrs_str PySem.F.slot_str_join PySem.F.type_str_join (dM (K:=K) rfl) aG (a8 (cmp1 [] [] (bh (K:=K) rfl (pv 0)) bF (aQ g.iC (gK g) hr rfl (a8 (pv 0) a9))) a9)))) aL)
   (aC `D)),vZ.nd,hint 1 560,g.lB,g.b4
 fail "r";refine⟨_,cI hq,ite2 (λ_=>⟨⟨_,.of hq⟩,λp np=>?_⟩) (λz=>absurd `d z)⟩;refine nB (zs:=[tV [97]]) (.of hq) (aF `d) np rfl (λi x z ad hz H1 U s1 hU=>?_) (λH1 s1 mt=>?_)
 .rw[ad] at hz;cases hz;cases i with
  |succ i=>cases ad
  |zero=>cases ad;fail "r";exact⟨`d,`d,hU⟩
 .refine⟨_,p,[mkS [97]],rfl,rfl,.of mt,`k,?_⟩;rw[show ofString ","=mkS [44] by fail "k"];exact k H1 s1
theorem GQ:g.Fj.Ok P w base 3 (sp__law_address K):=by
 refine lnF gI ?_;rintro Ic A HE s H vs Q E hr ⟨pc,is,gg,wh,rfl,mt,Ib,HZ,HY,HX,k⟩
 nomatch (aA `D
   (aA `D
   (aR `D
   (aA `D
   (aA `D
   (aR (aK (PW.pt (cU `D (dH (PW.pt (bD (ptm bE (pv 4) aG) (bJ `D))))))
    `D aL)
   (aR (sx 7 gI.nd (gM (pcm bE (pv 4) aG) (gM `D (cV `D))))
   (aR (sx 8 gI.nd (br (fC (K:=K) rfl) rfl g.bc.1 gV (a8 (cmp1 ["_law_signs_here","_law_cells_here"] [1,0] (dJ rfl g.cz.1 (a8 `D a9)) bF (aQ g.rB (Gz g) hr rfl (a8 (px K (pv 2) (ai (bM (K:=K)) aY (pv 0))) (a8 (pv 1) a9)))) a9)))
   (aA (sx 9 gI.nd (px K `D (br mq rfl g.fm.1 gU (a8 `D a9))))
   (aR `D
   (aC `D))))))))))),gI.nd,GA,li,hint 2 0,hint 7 0
 fail "r";have ad:∀j,j < 7->∃z:Int,(is.map V.int)[j]?=some (.int z):=λj hj=>⟨is[j],by rw[List.getElem?_map,List.getElem?_eq_getElem `l];rfl⟩;have md:∀(z b:Int),0 < b->∃m:Nat,(m:Int) < b/\z % b=(m:Int):=λz b hb=>by have h1:=Int.emod_nonneg z (show b≠0 by lia);have h2:=Int.emod_lt_of_pos z hb;exact⟨(z % b).toNat,`l,`l⟩
 obtain⟨z0,HN⟩:=ad 0 `d;refine⟨_,_,.inl (.of mt),aB (j:=0) HN,?_⟩;fail "r";refine⟨λZ H1=>Same H H1/\∃sc:Tq,Z=[some (.ref pc),some (tV gg),some (.bl wh),some (.int z0),some (tV sc),none,none,none,none,none,none]/\(wh=true->sc≠[])/\sc.length<=8/\(∀c∈sc,isAln c=true)/\∀c∈sc.take 1,isLet c=true,?_,?_⟩
 .obtain⟨m,hm,em⟩:=md (z0 / 4) 3 `d;obtain⟨sc,HP,h0,h1⟩:∃sc:Tq,atI [V.str (ofString "web"),V.str (ofString "x1"),V.str (ofString "Ab")] (z0 / 4 % 3)=some (tV sc)/\sc≠[]/\sc.length<=8/\(∀c∈sc,isAln c=true)/\∀c∈sc.take 1,isLet c=true:=by
   rw[em];match m,hm with
   |0,_=>exact⟨[119,101,98],aB (j:=0) `k,`d⟩
   |1,_=>exact⟨[120,49],aB (j:=1) `k,`d⟩
   |2,_=>exact⟨[65,98],aB (j:=2) `k,`d⟩
  refine ite2 (λhw=>?_) (λhw=>⟨`d,ite2 (λ_=>?_) (λ_=>⟨Same.refl _,[],rfl,(λz=>absurd z hw),`d,(λc hc=>by cases hc),λc hc=>by cases hc⟩)⟩);all_goals exact⟨`d,λp1 H1 n1 s1 e1=>⟨⟨`d,`d⟩,`d,_,_,.inl (.of e1),HP,s1,sc,rfl,λ_=>h0,h1⟩⟩
 rintro Z H1 ⟨s1,sc,rfl,HU,HS,HR,HQ⟩;fail "r";refine⟨λZ H2=>Same H1 H2/\∃(ho:Option Tq) (dr:Option Int),Z=[some (.ref pc),some (tV gg),some (.bl wh),some (.int z0),some (tV sc),some (otV ho),some (itV dr),none,none,none,none]/\(∀l,ho=some l->0 < `L/\Tx 13 l)/\∀i,dr=some i->(0<=i/\i<=65535)/\ho≠none,?_,?_⟩
 .obtain⟨m,hm,em⟩:=md (z0 / 72) 3 `d;obtain⟨d,hd,ed⟩:=md (z0 / 72) 65536 `d;obtain⟨b,hb,eb⟩:=md (z0 / 24) 2 `d;obtain⟨dr,hv,HB⟩:∃dr:Option Int,atI [V.non,V.int (d:Int)] (b:Int)=some (itV dr)/\∀i,dr=some i->0<=i/\i<=65535:=by
   match b,hb with
   |0,_=>exact⟨none,aB (j:=0) rfl,λi z=>by cases z⟩
   |1,_=>exact⟨some d,aB (j:=1) rfl,λi z=>by cases z;lia⟩
  rw[em,ed,eb,show (1:Int)+(m:Int)=((1+m:Nat):Int) by lia];refine⟨⟨`d,`d⟩,`d,ite2 (λ_=>ite2 (λ_=>?_) (λ_=>⟨⟨`d,`d⟩,`d,ite2 (λ_=>?_) (λ_=>?_)⟩)) (λ_=>?_)⟩;iterate 2 exact⟨⟨`d,`d⟩,⟨`d,`d⟩,`d,z0 / 72,1+m,rfl,`l,λl hl hs=>⟨⟨`d,`d⟩,`d,`d,λp2 H2 n2 s2 e2=>⟨⟨`d,`d⟩,`d,_,_,.inl (.of e2),hv,s2,some l,dr,rfl,(λl' z=>by cases z;exact⟨`l,`l,hs⟩),λi z=>⟨HB i z,λy=>by cases y⟩⟩⟩⟩
  all_goals exact⟨Same.refl _,none,none,rfl,(λl z=>by cases z),λi z=>by cases z⟩
 rintro Z H2 ⟨s2,ho,dr,rfl,Fn,HB⟩;fail "r";refine⟨λZ H3=>H2=H3/\∃rb:Bool,Z=[some (.ref pc),some (tV gg),some (.bl wh),some (.int z0),some (tV sc),some (otV ho),some (itV dr),some (.bl rb),none,none,none]/\(sc≠[]\/ho≠none->rb=true),?_,?_⟩
 .refine ite2 (λz=>⟨rfl,true,rfl,λ_=>rfl⟩) (λhz=>ite2 (λ_=>⟨rfl,true,rfl,λ_=>rfl⟩) (λh0=>⟨⟨`d,`d⟩,`d,rfl,_,rfl,λo=>?_⟩));rcases o with o|o
  .exact absurd (λz=>o (bS.mp z)) hz
  .cases ho with
   |none=>exact absurd rfl o
   |some l=>exact absurd `E h0
 rintro Z H3 ⟨rfl,rb,rfl,HV⟩;have HD:=s1.trans s2;obtain⟨z4,HF⟩:=ad 4 `d;obtain⟨m,hm,em⟩:=md z4 4 `d;fail "r";refine⟨λZ H3=>Same H2 H3/\∃(ss:List Tq) (ps:Addr),Z=[some (.ref pc),some (tV gg),some (.bl wh),some (.int z0),some (tV sc),some (otV ho),some (itV dr),some (.bl rb),some (.ref ps),none,none]/\H3 ps=some (.tup (ss.map tV))/\ss.length<=3/\∀x∈ss,0 < x.length/\Tx 9 x,⟨_,_,.inl (.of (HD _ _ mt)),aB (j:=4) HF,?_⟩,?_⟩
 .fail "r";rw[em];refine⟨`d,`l,`l,λp3 n3=>?_⟩;rw[Int.toNat_natCast];refine pJ (λi ys H'=>SameBut p3 H2 H'/\∃ss:List Tq,ys=ss.map tV/\ss.length=i/\∀x∈ss,0 < x.length/\Tx 9 x) (aF `l) ⟨b8.trans (SameBut.refl _ _),[],rfl,rfl,λx hx=>by cases hx⟩ (λi ys H3 T hi hJ h3 hT=>?_) (λys H3 hJ h3=>?_)
  .obtain⟨sb,ss,rfl,Cl,dl⟩:=hJ;obtain⟨zi,HL⟩:=ad (1+i) `l;have GE:=HD.trans (sb.same n3);fail "r";refine⟨_,_,.inl (.of (GE _ _ mt)),by rw[show (1:Int)+(0+(i:Int))=((1+i:Nat):Int) by lia];exact aB HL,zi,gg,rfl,HZ,HY,HX,λl h1 h2 h4=>hT _ H3 h3 ⟨sb.trans b8,ss++[l],by rw[map_append];rfl,by rw[length_append,length_singleton,Cl],λx hx=>?_⟩⟩;rcases mem_append.mp hx with z|z
   .exact dl x z
   .rw[mem_singleton.mp z];exact⟨length_pos_iff.mpr h1,`l,h4⟩
  .obtain⟨sb,ss,rfl,Cl,dl⟩:=hJ;fail "r";exact⟨_,.inl (.of h3),λl H4 s4 e4=>⟨(sb.same n3).trans s4,ss,e4,`l,dl⟩⟩
 rintro Z H3 ⟨s3,ss,ps,rfl,HG,Cl,dl⟩;have GE:=HD.trans s3;fail "r";refine⟨_,_,.inl (.of (GE _ _ mt)),aB (j:=4) HF,?_⟩;fail "r";refine⟨⟨`d,`d⟩,`d,?_⟩;refine⟨`d,λp4 H4 n4 s4 e4=>⟨`d,λp5 H5 n5 s5 e5=>?_⟩⟩;have HC:=s4.trans s5;have HK:SeqAt.shaped (.tuple (ss.map st))=true:=(LayAt.tup (n:=0) λd hd=>by obtain⟨x,hx,rfl⟩:=mem_map.mp hd;exact .st (dl x hx).2.2).shaped `d
 refine⟨.tuple (ss.map st),.tuple [],.tup (HC _ _ HG) (pj ss),.tup e5 .nil,HK,`k,?_⟩;rw[AL,List.isEmpty_map];obtain⟨en,Ia,HA⟩:∃en:Bool,atI [V.bl rb,V.bl (decide (z4 / 4 % 2=0))] (if ss.isEmpty=false then 1 else 0)=some (.bl en)/\(ss=[]->en=rb):=by
  cases ss with
  |nil=>exact⟨rb,aB (j:=0) rfl,λ_=>rfl⟩
  |cons x r=>exact⟨_,aB (j:=1) rfl,λz=>by cases z⟩
 fail "r";refine⟨_,_,.inl (.of (s5 _ _ e4)),Ia,?_⟩;obtain⟨z5,GT⟩:=ad 5 `d;obtain⟨a,ha,ea⟩:=md z5 4 `d;have Fr:=GE.trans HC;refine⟨λZ H6=>Same H5 H6/\∃mk:Option Tq,Z=[some (.ref pc),some (tV gg),some (.bl wh),some (.int z0),some (tV sc),some (otV ho),some (itV dr),some (.bl rb),some (.ref ps),some (.bl en),some (otV mk)]/\∀l,mk=some l->Tx 7 l,⟨_,_,.inl (.of (Fr _ _ mt)),aB (j:=5) GT,_,_,.inl (.of (Fr _ _ mt)),aB (j:=5) GT,?_⟩,?_⟩
 .fail "r";rw[ea];refine⟨`d,z5,a,rfl,`l,λl hl hs=>⟨`d,λp6 H6 n6 s6 e6=>⟨_,_,.inl (.of ((Fr.trans s6) _ _ mt)),aB (j:=5) GT,?_⟩⟩⟩;obtain⟨b,hb,eb⟩:=md (z5 / 4) 2 `d;fail "r";rw[eb];obtain⟨mk,BT,HW⟩:∃mk:Option Tq,atI [V.non,tV l] (b:Int)=some (otV mk)/\∀x,mk=some x->Tx 7 x:=by
   match b,hb with
   |0,_=>exact⟨none,aB (j:=0) rfl,λx z=>by cases z⟩
   |1,_=>exact⟨some l,aB (j:=1) rfl,λx z=>by cases z;exact⟨`l,hs⟩⟩
  exact⟨⟨`d,`d⟩,`d,_,_,.inl (.of e6),BT,s6,mk,rfl,HW⟩
 rintro Z H6 ⟨s6,mk,rfl,BT⟩;fail "r";obtain⟨z6,HM⟩:=ad 6 `d;refine⟨`d,λp7 H7 n7 s7 e7=>⟨_,_,.inl (.of ((Fr.trans (s6.trans s7)) _ _ mt)),aB (j:=6) HM,z6,rfl,λqs v H8 hq s8 hv=>⟨`d,λp9 H9 n9 s9 e9=>?_⟩⟩⟩;have HI:=s8.trans s9;have HJ:=HC.trans (s6.trans (s7.trans HI));refine k ⟨sc,ho,dr,rb,ss,en,qs,mk⟩ _ H9 ⟨⟨HS,HR,HQ⟩,λl e=>⟨(Fn l e).1,by have:=(Fn l e).2.1;lia,(Fn l e).2.2⟩,HB,⟨by show ss.length<=50;lia,λl hl=>⟨(dl l hl).1,by have:=(dl l hl).2.1;lia,(dl l hl).2.2⟩⟩,HV,HA,λps e=>⟨by have:=(hq ps e).1.1;lia,λp hp=>⟨⟨((hq ps e).2 p hp).1.1,by have:=((hq ps e).1.2 p hp).1;lia,((hq ps e).2 p hp).1.2⟩,λv ev=>⟨((hq ps e).1.2 p hp).2 v ev,((hq ps e).2 p hp).2 v ev⟩⟩⟩,λl e=>⟨by have:=(BT l e).1;lia,(BT l e).2⟩⟩ ⟨λl hl=>(dl l hl).2.1,λps e=>(hq ps e).1,λl e=>(BT l e).1,λl e=>(Fn l e).2.1⟩ Cl HU (GE.trans HJ) ?_;exact .tup e9 (.cons (.str _) (.cons (ci _) (.cons (jq _) (.cons (.tup (HI _ _ e7) (.cons (.bl _) (.cons (.tup (HJ _ _ HG) (qW ss)) (.cons (.bl _) .nil)))) (.cons (hv.mono s9.toT) (.cons (ci _) .nil))))))
theorem lp:FnOk P w K mg base CX0 4 g.ia g.fu ["text","free"] uM:=by
 refine g.fw.ok va (λvs H Q E h=>?_) (λHE A GE s H vs Q E hr h=>?_)
 .obtain⟨l,fr,rfl,_⟩:=h;rfl
 .obtain⟨l,fr,rfl,hl,ha,k⟩:=h
  exists va.nd,GB,g.aX
  fail "r";refine⟨`d,λq hq=>?_⟩;refine fA (λm Z H'=>Ex4 λ(p:Nat) (dn:Tq) (v4 v5:Option V)=>m=`L - p/\Z=[some (.str `A),some (.str ⟨fr.toArray⟩),some (.ref q),some (.int (p:Int)),v4,v5]/\p<=`L/\dn.length<=p/\
   H' q=some (.lst (dn.map one))/\Same H H'/\und fr l=(und fr (l.drop p)).map (dn++·)) `L ⟨0,[],none,none,`s,rfl,Nat.zero_le _,Nat.le_refl _,aE,AB hq,`s⟩ ?_
  rintro m Z H' ⟨p,dn,v4,v5,rfl,rfl,hp,HD,BT,sm,hu⟩;fail "r";refine⟨aF `l,ite2 (λh=>?_) (λh=>?_)⟩
  .have HC:p < `L:=by lia
   refine⟨_,λ_ _ h=>h,?_⟩;have hc:l[p]?=some l[p]:=List.getElem?_eq_getElem HC;generalize l[p]=c at hc;have hd:=AD hc;refine⟨c,aF `l,aB hc,?_⟩;have mt:∀y,Same H (upd H' q (.lst y)):=λy b o e=>by rw[aD (aJ e hq)];exact sm _ _ e
   have Cl:(dn.map one).length < sizeLine:=by rw[length_map];exact Nat.lt_of_le_of_lt (show dn.length<=2000 by lia) `d
   refine ite2 (λh2=>?_) (λh2=>?_)
   .have ad:c=126:=by have:=ac.mp h2;injection this
    subst ad;refine⟨aF `l,?_⟩;rw[show ((p:Int)+3)=((p+3:Nat):Int) by lia,jf,show p+3 - p=3 by lia,hd,List.take_succ_cons];refine c_sw.mpr ⟨by rw[length_take];lia,λd Fr=>?_,.inl rfl,?_⟩
    .rcases mem_cons.mp Fr with rfl|q'
     .decide
     .exact ha d (List.mem_of_mem_drop (List.mem_of_mem_take q'))
    rw[nO];have dl:(l.drop p).length=`L - p:=length_drop;rw[hd] at dl;generalize l.drop (p+1)=r at hd dl ⊢;rw[length_cons] at dl;by_cases HA:2<=r.length
    .obtain⟨a,b,r',rfl⟩:∃a b r',r=a::b::r':=by
      match r,HA with
      |a::b::r',_=>exact⟨a,b,r',rfl⟩
     rw[show signOfL (List.take 2 (a::b::r'))=oV (sgO a b) from nL a b];rw[length_cons,length_cons] at dl;cases e:sgO a b with
     |none=>have k2:=k H' sm;rw[hu,hd,nM e] at k2;exact k2
     |some d=>rw[if_neg (by intro z;cases z)];refine⟨⟨_,SqL.of BT⟩,dn.map one,BT,Cl,`L - (p+3),`l,p+3,dn++[d],_,_,rfl,rfl,`l,by rw[length_append,length_singleton];lia,?_,mt _,AE hu hd e⟩;rw[aE];exact congrArg (λz=>some (HO.lst z)) (nS dn d)
    .have Fn:r.length < 2:=by lia
     have k2:=k H' sm;rw[hu,hd,jn Fn] at k2;rw[show signOfL (List.take 2 r)=V.non from nJ (by rw[length_take];lia)];exact k2
   .have ad:c≠126:=λz=>h2 (by rw[z]);refine⟨aF `l,?_⟩;rw[show ((p:Int)+1)=((p+1:Nat):Int) by lia,jf,show p+1 - p=1 by lia,hd,List.take_succ_cons,take_zero];refine c_sw.mpr ⟨`s,λd Fr=>?_,.inr rfl,?_⟩
    .rw[mem_singleton.mp Fr];exact ha c (mem_of_getElem? hc)
    rw[nP ad];by_cases hb:(isPl c || decide (c∈fr))=true
    .rw[if_pos hb,if_neg (by intro z;cases z)];refine⟨⟨_,SqL.of BT⟩,dn.map one,BT,Cl,`L - (p+1),`l,p+1,dn++[c],_,_,rfl,rfl,`l,by rw[length_append,length_singleton];lia,?_,mt _,AF hu hd ad hb⟩;rw[aE];exact congrArg (λz=>some (HO.lst z)) (nS dn c)
    .rw[if_neg hb,if_pos rfl];have k2:=k H' sm;rw[hu,hd,nN ad hb] at k2;exact k2
  .have HB:p=`L:=by lia
   rw[HB,List.drop_length,jl] at hu;have GT:und fr l=some dn:=by rw[hu];simp
   refine⟨dn.map λc=>⟨[c].toArray⟩,SqL.of (by rw[BT,map_map];rfl),?_,?_⟩
   .rw[nR];simp only[length_map,length_nil,Nat.mul_zero,Nat.add_zero];lia
   .rw[jg,nQ];have k2:=k H' sm;rw[GT] at k2;exact k2
theorem GR:g.Fk.Ok P w base 4 (sp_shown_question K):=by
 refine lnF vc ?_;rintro GE A ad s H vs Q E hr ⟨q,v,rfl,hI,hq,hl,k⟩
 nomatch (aA `D
   (aC (aH (ai (cf (K:=K) rfl) aG (am (K:=K) rfl PySem.F.plainAttrs_str PySem.F.slot_str_join PySem.F.type_str_join (dM (K:=K) rfl) aG (a8 (cmp2 K [] [] (dN (K:=K) rfl (pv 0)) bF (aQ g.rE (GG g) hr rfl (a8 (pv 0) (a8 (pv 1) a9)))) a9)))))),vc.nd
 have c1:ofString "?"=⟨[63].toArray⟩:=by fail "k"
 have c2:ofString "&"=⟨[38].toArray⟩:=by fail "k"
 rw[c1,c2];fail "r";cases q with
 |none=>cases hI;exact ite2 (λ_=>k H `r) `a
 |some ps=>
  obtain⟨p,xs,rfl,hp,r⟩:=fG hI;refine ite2 `E (λ_=>?_);obtain⟨Fr,dl⟩:=hq ps rfl;have Cl:=r.length;rw[length_map] at Cl;refine⟨p,rfl,⟨_,hp⟩,λp1 BT=>?_⟩;refine Be (f:=λi=>match ps[i]? with|some p=>(.str ⟨p.1.toArray⟩,otV p.2)|none=>(.non,.non)) (zs:=(ps.map pairT).map λl=>V.str `A) hp (aF `l) BT (by simp;lia) (λi x H' hx sm=>?_) (λi z hi hz H' T sm hT=>?_) (λH' sm mt=>?_)
  .have hi:i < ps.length:=by have:=(List.getElem?_eq_some_iff.mp hx).1;lia
   have he:ps[i]?=some ps[i]:=by simp[hi]
   obtain⟨b,x1,x2,rfl,hb,b1,b2⟩:=isK2 (oq r (by rw[List.getElem?_map,he];rfl) hx);cases gh b1;cases jv b2;refine⟨b,rfl,?_⟩;rw[he];exact sm.tup hb
  .have hi:i < ps.length:=by lia
   have he:ps[i]?=some ps[i]:=by simp[hi]
   rw[List.getElem?_map,List.getElem?_map,he] at hz;simp only[Option.map_some,Option.some.injEq] at hz;subst hz;obtain⟨k1,k2,k3⟩:=dl ps[i] (getElem_mem hi);rw[he];fail "r";exact⟨ps[i].1,ps[i].2,rfl,k1,k2,k3,hT⟩
  .fail "r";have hj:=o0 (sep:=38) (ps.map pairT);have Fn:(queT (some ps)).length=(joinT 38 (ps.map pairT)).length+1:=by simp[queT]
   refine⟨(ps.map pairT).map λl=>`A,by rw[map_map (f:=λl:Tq=>(⟨l.toArray⟩:Str)) (g:=V.str)];exact .of mt,?_,?_⟩
   .rw[o9,length_map];have:((ps.map pairT).map List.length).sum+(ps.map pairT).length<=(joinT 38 (ps.map pairT)).length+1:=hj;lia
   rw[show (⟨#[38]⟩:Str)=⟨[38].toArray⟩ from rfl,jt,show (⟨#[63]⟩:Str)=⟨[63].toArray⟩ from rfl];fail "r";refine⟨aF `l,?_⟩;have:=k H' sm;simpa [queT] using this
theorem wI:g.rH.Ok P w base 4 (sp_with_way_gone K):=by
 refine lnF vd ?_;rintro HA A ad s H vs Q E hr ⟨x,v,rfl,hI,dl,GE,hn,k⟩
 nomatch (aC (aH (ai (gf (K:=K) rfl) (ai (gf (K:=K) rfl) (bf (fF (K:=K) rfl) (pv 0) bt (bW `D)) `D) (bf (fF (K:=K) rfl) (pv 0) (bW `D) bt)))),vd.nd,GI,g.eM,hint 2 0,g.iJ
 obtain⟨p,w,q,rfl,hp,hw,hq⟩:=bu hI;fail "r";refine⟨_,hp,λp1 H1 s1 Fr=>⟨_,_,.inr (s1.tup hp),rfl,?_⟩⟩;refine⟨x.steps,x.ends,w,rfl,dl▸hw.mono s1,GE,hn,λu H2 s2 hu=>⟨`d,λp3 H3 GT s3 Fn=>⟨_,_,(s2.trans s3).tup Fr,.of Fn,(show 4<=sizeLine by decide),λp4 H4 s4 Cl=>⟨_,(((s1.trans s2).trans s3).trans s4).tup hp,λp5 H5 s5 BT=>⟨_,_,s5.tup Cl,BT,(show 6<=sizeLine by decide),λp6 H6 s6 mt=>?_⟩⟩⟩⟩⟩;have sm:Same H H6:=((((s1.trans s2).trans s3).trans s4).trans s5).trans s6;exact k _ H6 sm (adK (x:=goR x) mt (by show IsK K H6 (wayOf (x.rooted,_,_)) _;rw[dl];exact hu.mono (((s3.trans s4).trans s5).trans s6)) (hq.mono sm))
theorem GS:g.rJ.Ok P w base 4 (sp_is_piece K):=by
 refine lnF ve ?_;rintro Fn A mt s H vs Q E hr ⟨d,v,rfl,hv,hs,k⟩
 nomatch (aA `D
   (aA `D
   (aA `D
   (aC (aH (dI (el (cj (K:=K) rfl) `D (bC (v:=.ref g.j2) rfl g.sw rfl) (by with_unfolding_all rfl)) (dI `D (cV `D)))))))),ve.nd,wE,vv,GJ,lh,GD,g.c0,g.b4,g.aX,g.bc
 fail "r";cases hv with
 |@tup p xs ds hp r=>
  refine⟨_,L2.cg hp,ite2 (λz=>absurd z `d) (λ_=>?_)⟩;have BT:=(jp hs).2;fail "r";cases r with
  |nil=>exact⟨_,.inr (.of hp),ite2 (λ_=>k H `r) `a⟩
  |@cons d0 x0 ds' xs' h0 r'=>
   refine⟨_,.inr (.of hp),ite2 (λz=>absurd z (by rw[length_cons];lia)) (λ_=>⟨_,_,.inr (.of hp),aB (j:=0) rfl,?_⟩)⟩;have sm:∀d∈ds',smallD d=true:=λd hd=>gX BT (mem_cons_of_mem _ hd);cases h0 with
   |str kk=>
    have eK:pieceD (.tuple (.str kk::ds'))=pieceK kk ds':=rfl;rw[eK] at k;have ad:Is H (.tuple (.str kk::ds')) (.ref p):=.tup hp (.cons (.str _) r');refine⟨_,L2.dR,ite2 (λz=>absurd z `d) (λ_=>⟨_,_,.inr (.of hp),aB (j:=0) rfl,ag.mpr ⟨_,rfl,?_⟩⟩)⟩;refine ite2 (λh1=>⟨_,_,_,rfl,ad,_,rfl,?_⟩) (λh1=>⟨_,_,.inr (.of hp),aB (j:=0) rfl,ag.mpr ⟨_,rfl,ite2 (λh2=>⟨_,_,_,rfl,ad,_,rfl,?_⟩) (λh2=>?_)⟩⟩)
    .have e1:pieceK kk ds'=stepD ds':=by unfold pieceK;rw[if_pos (of_decide_eq_true h1)]
     rw[e1] at k;cases r' with
     |nil=>exact ite2 (λz=>absurd (bj (n:=2).mp z) `s) (λ_=>k H `r)
     |@cons d1 x1 ds2 xs2 h3 r2=>
      cases r2 with
      |cons h4 r3=>exact ite2 (λz=>absurd (bj (n:=2).mp z) `s) (λ_=>k H `r)
      |nil=>
       refine ite2 (λ_=>⟨_,_,.inr (.of hp),aB (j:=1) rfl,d1,x1,rfl,h3,sm d1 `f,λH1 s1=>⟨_,rfl,?_⟩⟩) (λz=>absurd (bj (n:=2).mpr rfl) z);have k1:=k H1 s1;cases h3 with
       |str z=>
        have e2:stepD [.str z]=(ftx (.str z) && !isDot z.cps.toList):=rfl;rw[e2] at k1;refine ite2 (λhf=>?_) (λhf=>?_)
        .rw[hf,Bool.true_and] at k1;exact⟨_,_,.inr (.of (s1 _ _ hp)),aB (j:=1) rfl,z.cps.toList,rfl,_,rfl,k1⟩
        .rw[Bool.eq_false_iff.mpr hf,Bool.false_and] at k1;exact k1
       |_=>exact ite2 `E (λ_=>k1)
    .have e1:pieceK kk ds'=partD ds':=by unfold pieceK;rw[if_neg (λz=>h1 (decide_eq_true z)),if_pos (of_decide_eq_true h2)]
     rw[e1] at k;have Cl:(∀a b c,ds'≠[a,b,c])->Q (.bl false) H:=λhn=>by
      have e2:partD ds'=false:=by
       match ds',hn with
       |[],_=>rfl
       |[_],_=>rfl
       |[_,_],_=>rfl
       |[a,b,c],hn=>exact absurd rfl (hn a b c)
       |_::_::_::_::_,_=>rfl
      rw[<- e2];exact k H `r
     refine ite2 (λhz=>?_) (λhz=>Cl λa b c z=>hz (bj (n:=4).mpr (by rw[z];rfl)));have dl:=bj (n:=4).mp hz;cases r' with
     |nil=>cases dl
     |@cons d1 x1 ds2 xs2 g1 r2=>
      cases r2 with
      |nil=>cases dl
      |@cons d2 x2 ds3 xs3 g2 r3=>
       cases r3 with
       |nil=>cases dl
       |@cons d3 x3 ds4 xs4 g3 r4=>
        cases r4 with
        |cons _ _=>simp at dl
        |nil=>
         refine⟨_,_,.inr (.of hp),aB (j:=2) rfl,d2,x2,rfl,g2,sm d2 `s,λH1 s1=>⟨_,rfl,?_⟩⟩;have e2:partD [d1,d2,d3]=(nameD d2 && endsD d1 d3):=rfl;rw[e2] at k;refine ite2 (λhn=>?_) (λhn=>?_)
         .rw[hn,Bool.true_and] at k;exact⟨_,_,.inr (.of (s1 _ _ hp)),aB (j:=1) rfl,_,_,.inr (.of (s1 _ _ hp)),aB (j:=3) rfl,d1,d3,x1,x3,rfl,g1.mono s1,g3.mono s1,sm d1 `s,sm d3 `s,λH2 s2=>k H2 (s1.trans s2)⟩
         .rw[Bool.eq_false_iff.mpr hn,Bool.false_and] at k;exact k H1 s1
    .have e1:pieceK kk ds'=(decide (kk∈kwN) && namD ds'):=by unfold pieceK;rw[if_neg (λz=>h1 (decide_eq_true z)),if_neg (λz=>h2 (decide_eq_true z))]
     rw[e1] at k;refine⟨_,_,.inr (.of hp),aB (j:=0) rfl,_,kwN.map V.str,rfl,.inr (gt (ss:=kwN) (g.t0 H)),rfl,rfl,_,rfl,?_⟩;rw[if_neg (show ¬ false=true by decide),cv];refine ite2 (λh3=>⟨_,_,_,rfl,ad,_,rfl,?_⟩) (λh3=>?_)
     .rw[h3,Bool.true_and] at k;cases r' with
      |nil=>exact ite2 (λz=>absurd (bj (n:=2).mp z) `s) (λ_=>k H `r)
      |@cons d1 x1 ds2 xs2 h4 r2=>
       cases r2 with
       |cons h5 r3=>exact ite2 (λz=>absurd (bj (n:=2).mp z) `s) (λ_=>k H `r)
       |nil=>exact ite2 (λ_=>⟨_,_,.inr (.of hp),aB (j:=1) rfl,d1,x1,rfl,h4,sm d1 `s,λH1 s1=>k H1 s1⟩) (λz=>absurd (bj (n:=2).mpr rfl) z)
     .rw[Bool.eq_false_iff.mpr h3,Bool.false_and] at k;exact k H `r
   |lst hq r=>exact⟨_,L2.cI hq,ite2 (λ_=>k H `r) (λz=>absurd `d z)⟩
   |dic hq=>exact⟨_,L2.dS hq,ite2 (λ_=>k H `r) (λz=>absurd `d z)⟩
   |tup hq r=>exact⟨_,L2.cg hq,ite2 (λ_=>k H `r) (λz=>absurd `d z)⟩
   |non=>exact⟨_,L2.dO,ite2 (λ_=>k H `r) (λz=>absurd `d z)⟩
   |bl b=>exact⟨_,L2.dP,ite2 (λ_=>k H `r) (λz=>absurd `d z)⟩
   |int i=>exact⟨_,L2.dQ,ite2 (λ_=>k H `r) (λz=>absurd `d z)⟩
 |lst hp r=>exact⟨_,L2.cI hp,ite2 (λ_=>k H `r) (λz=>absurd `d z)⟩
 |dic hp=>exact⟨_,L2.dS hp,ite2 (λ_=>k H `r) (λz=>absurd `d z)⟩
 |str x=>exact⟨_,L2.dR,ite2 (λ_=>k H `r) (λz=>absurd `d z)⟩
 |non=>exact⟨_,L2.dO,ite2 (λ_=>k H `r) (λz=>absurd `d z)⟩
 |bl b=>exact⟨_,L2.dP,ite2 (λ_=>k H `r) (λz=>absurd `d z)⟩
 |int i=>exact⟨_,L2.dQ,ite2 (λ_=>k H `r) (λz=>absurd `d z)⟩
theorem GU:g.Fl.Ok P w base 4 (sp_bound K):=by
 refine lnF jA ?_;rintro Fn A dl s H vs Q E hr ⟨p,q,pw,ps,rfl,hp,ht,hw,mt,k⟩
 nomatch (aA `D
   (aA `D
   (aA (cG PassesOwn.never rfl (pH (K:=K) rfl rfl g.lC.1 (a8 `D a9)) (jb (n:=2) (K:=K) rfl rfl (cW (pgn 3 jA.nd) (cW (pgn 4 jA.nd) gN)))
   (aC (aK `D
    (aC (cE (am (K:=K) rfl PySem.F.plainAttrs_list PySem.F.slot_list_append PySem.F.type_list_append dL (pv 2) (a8 (bG (a8 `D (a8 (aQ g.qw (Gd g) hr rfl (a8 (pv 4) (a8 (bf (fF (K:=K) rfl) `D (bW (pv 3)) bt) a9))) a9))) a9)))) aL)))
   (aC `D)))),jA.nd,jF,vy,wH,g.cy,g.fj,hint 2 0,hint 1 236
 fail "r";refine⟨_,_,p,q,pw,ps,true,rfl,hp,ht,rfl,rfl,hw,mt,λH1 s1=>⟨_,rfl,ite2 `E (λ_=>⟨`d,λl H2 n2 s2 e2=>?_⟩)⟩⟩;obtain⟨a,b,hq,ha,hb⟩:=ht;have ad:=s1.trans s2;have nl:=Wm.Same.free s1 n2;refine⟨_,_,.inr (.of (ad _ _ hp)),aB (j:=0) rfl,q,_,rfl,.of (ad _ _ hq),?_⟩;refine C2 (λi Z H'=>Same H H'/\Ex2 λ(v3 v4:Option V)=>Z=[some (.ref p),some (.ref pw),some (.ref l),v3,v4]/\(i < 2->H' l=some (.lst []))/\(i=2->∃v r,H' l=some (.lst [.ref v])/\H' v=some (.tup [tV wR,.ref r])/\H' r=some (.lst [tV [97]]))) ⟨ad,none,none,rfl,λ_=>e2,λz=>nomatch z⟩ (λi Z H' _ h=>.of (h.1 _ _ hq)) ?_ ?_
 .rintro i v Z H3 T hv ⟨s3,v3,v4,rfl,h0,_⟩ hT;have st:Same H3 (upd H3 T (.tup [.int (i:Int),v])):=aT hT;have sT:=s3.trans st;fail "r";refine⟨T,_,rfl,.of aE,rfl,_,_,rfl,_,_,rfl,rfl,?_⟩;fail "r";match i,hv,h0 with
  |0,hv,h0=>cases hv;exact⟨.step [120],a,rfl,.of (sT _ _ ha),_,rfl,ite2 `E (λ_=>⟨sT,_,_,`R,λ_=>st _ _ (h0 `d),λz=>nomatch z⟩)⟩
  |1,hv,h0=>
   cases hv;have e3:=st _ _ (h0 `d);refine⟨.rest wR,b,rfl,.of (sT _ _ hb),_,rfl,ite2 (λ_=>?_) `a⟩;refine⟨⟨_,.of e3⟩,.rest wR,b,rfl,.of (sT _ _ hb),rfl,_,_,.inr (sT.tup hw),aB (j:=1) rfl,ps,_,rfl,sT.tup mt,λp4 H4 s4 e4=>⟨b,p4,rfl,(sT.trans s4) _ _ hb,e4,λr H5 n5 s5 e5=>⟨`d,λp6 H6 n6 s6 e6=>?_⟩⟩⟩;have BT:=s4.trans (s5.trans s6);have Cl:=BT _ _ e3;refine⟨_,Cl,`d,dX nl (sT.trans BT),_,_,`R,(λz=>nomatch z),λ_=>⟨p6,r,aE,?_,?_⟩⟩
   .rw[aD (bU e6 Cl (by intro z;cases z))];exact e6
   .rw[aD λz=>by rw[z,s4 _ _ e3] at n5;cases n5];exact s6 _ _ e5
 .rintro Z H3 ⟨s3,v3,v4,rfl,_,h⟩;obtain⟨v,r,e1,e2,e3⟩:=h rfl;fail "r";exact k l v r H3 s3 e1 e2 e3
theorem GV:g.Fm.Ok P w base 4 (sp_texts_for_both K):=by
 refine lnF vf ?_;rintro mt A ad s H vs Q E hr ⟨c,d,p,q,rfl,hp,hq,hc,hd,hs,k⟩
 exists vf.nd,jF,GL,hint 1 305,hint 1 304,hint 2 0
 fail "r";have f4:∀c:Pc,(fitT2 c).length<=4:=λc=>by cases c <;> first|exact Nat.le_of_ble_eq_true rfl|exact Nat.le_refl 4
 have dl:sp_fitting_texts K [.ref p] H (λx H1=>sp_fitting_texts K [.ref q] H1 (λy H2=>rAddS K x y H2 Q) E0) E0:=by
  refine⟨c,p,rfl,hp,hc,λl1 H1 s1 h1=>⟨d,q,rfl,s1 _ _ hq,hd,λl2 H2 s2 h2=>.inl ⟨_,_,s2 _ _ h1,h2,aF ?_,λl3 H3 n3 s3 h3=>?_⟩⟩⟩
  .rw[length_map,length_map];have:=f4 c;have:=f4 d;lia
  .exact k l3 H3 ((s1.trans s2).trans s3) (by rw[h3,map_append])
 refine⟨c,p,rfl,.of hp,_,rfl,?_⟩;cases hcs:c.isStep with
 |true=>exact ite2 (λ_=>dl) `a
 |false=>rw[hcs] at hs;exact ite2 `E (λ_=>⟨d,q,rfl,.of hq,_,rfl,ite2 (λ_=>dl) (λz=>absurd (by rw[show d.isStep=true from hs];rfl) z)⟩)
theorem GW:g.rK.Ok P w base 4 (sp_taken_scheme K g.aM):=by
 refine lnF lU ?_;rintro Fn A BT s H vs Q E hr ⟨p,t,rfl,ad,hl,k⟩
 nomatch (aA (sx 1 lU.nd (px K (am (K:=K) rfl PySem.F.plainAttrs_str PySem.F.slot_str_partition PySem.F.type_str_partition fK `D (a8 aG a9)) aY))
   (aA (aK (PW.pt (bD `D (bD `D (bJ (aq (aS (aW (pv 0) g.aI g.be (bp g) (hr.mono `d) g.bd .nil pass0 (a8 `D a9))))))))
    `D aL)
   (aC `D))),lU.nd,GC
 have e1:ofString ":"=⟨[58].toArray⟩:=by fail "k"
 rw[e1];fail "r";refine cp ad g.aI g.c9 ⟨rfl,oR.mpr ⟨`d,aF (show `t<=100000 by lia),λq hq=>?_⟩⟩;rw[show (⟨#[58]⟩:Str)=⟨[58].toArray⟩ from rfl,BF];have dl:=aT (o:=.tup [.str ⟨(ahead t).toArray⟩,.str (Txt.partition ⟨t.toArray⟩ ⟨[58].toArray⟩).2.1,.str (Txt.partition ⟨t.toArray⟩ ⟨[58].toArray⟩).2.2]) hq;have Cl:(upd H q (.tup [.str ⟨(ahead t).toArray⟩,.str (Txt.partition ⟨t.toArray⟩ ⟨[58].toArray⟩).2.1,.str (Txt.partition ⟨t.toArray⟩ ⟨[58].toArray⟩).2.2])) q=some (.tup [.str ⟨(ahead t).toArray⟩,.str (Txt.partition ⟨t.toArray⟩ ⟨[58].toArray⟩).2.1,.str (Txt.partition ⟨t.toArray⟩ ⟨[58].toArray⟩).2.2]):=aE;generalize upd H q (.tup [.str ⟨(ahead t).toArray⟩,.str (Txt.partition ⟨t.toArray⟩ ⟨[58].toArray⟩).2.1,.str (Txt.partition ⟨t.toArray⟩ ⟨[58].toArray⟩).2.2])=H1 at dl Cl ⊢;have c1:=ad.same dl;have hal:=BM t;fail "r";refine⟨_,_,.inr (.of Cl),rfl,?_⟩;rw[L2.ag];refine⟨_,rfl,?_⟩;by_cases h1:ahead t=[]
 .rw[decide_eq_true (by rw[h1]),if_pos rfl];obtain⟨z1,z2⟩:=fQ (t:=t) (λz=>z.1 h1);have:=k H1 dl.but (by rw[z2];exact c1);rw[z1] at this;exact this
 rw[decide_eq_false (λz=>h1 (bS.mp z)),if_neg `d];refine⟨.str ⟨(ahead t).toArray⟩,_,rfl,.str _,by simp[smallD,Str.length];lia,λH2 s2=>⟨_,rfl,?_⟩⟩;have c2:=c1.same s2;have mt:=dl.trans s2;cases h2:schD (.str ⟨(ahead t).toArray⟩) with
 |false=>rw[if_pos rfl];obtain⟨z1,z2⟩:=fQ (t:=t) (λz=>by rw[h2] at z;cases z.2.1);have:=k H2 mt.but (by rw[z2];exact c2);rw[z1] at this;exact this
 |true=>
  rw[if_neg `d];refine ao c2 ?_;rw[show (⟨#[58]⟩:Str)=⟨[58].toArray⟩ from rfl];fail "r";refine⟨aF (by simp;lia),?_⟩;by_cases h3:t[(ahead t).length]?=some 58
  .obtain⟨z1,z2⟩:=kA h1 h2 h3;have ht:=(oo t).mpr h3;refine Gg (w:=ahead t++[58]) (r:=t.drop (ahead t++[58]).length) c2 (Nat.zero_le _) `l ?_ λH3 s3 c3 _ _=>⟨_,rfl,?_⟩
   .rw[drop_zero]
    conv=>lhs;rw[<- List.take_append_drop (ahead t++[58]).length t,ht]
   rw[if_neg `d];have:=k H3 (mt.but.trans s3) (by rw[z2];rw[Nat.zero_add] at c3;exact c3);rw[z1] at this;exact this
  .obtain⟨z1,z2⟩:=fQ (t:=t) (λz=>h3 z.2.2);refine Gh (w:=ahead t++[58]) c2 (Nat.zero_le _) `l (by rw[drop_zero];exact λz=>h3 ((oo t).mp z)) ⟨_,rfl,?_⟩;rw[if_pos rfl];have:=k H2 mt.but (by rw[z2];exact c2);rw[z1] at this;exact this
theorem eZ:FnOk P w K mg base (CXN P w base) 4 g.ig g.fz ["cursor","free","most"] (FE K g.aM g.aP):=by
 refine g.cN.okn lV (λvs H Q E h=>?_) (λHW A HL s H vs Q E hr h=>?_)
 .obtain⟨p,t,fr,i,mo,rfl,_⟩:=h;rfl
 .obtain⟨p,t,fr,i,mo,rfl,GE,hi,hl,GT,HU,k1,k2⟩:=h;refine⟨_,(aA (sx 3 lV.nd (mI a9))
   (aA (sx 4 lV.nd (ai (cf (K:=K) rfl) (ai (cf (K:=K) rfl) (glC g.iF) (pv 1)) aG))
   (aA (eh PassesOwn.leaving (PW.pt (cU (PW.pt (bD (ptm f8 (pv 2) bH) (bJ (ptm mC (ax (jX (K:=K) rfl) rfl g.aX.1 PySem.boot_len (a8 (pv 3) a9)) (pv 2))))) (dH (aS (aW (pv 0) g.aI g.gA (jG g) (hr.mono `d) g.ft .nil pass0 (a8 (pv 4) a9))))))
   (aC (cE (am (K:=K) rfl PySem.F.plainAttrs_list PySem.F.slot_list_append PySem.F.type_list_append dL (pv 3) (a8 (bQ (aS (aW (pv 0) g.aI g.be (bp g) (hr.mono `d) g.bd .nil pass0 (a8 aG a9))) (aj (GN g) (hr.mono `d) rfl g.dz.m g.dz.F.kp g.dz.b .nil ah (a8 (pv 0) a9)) (cY (pv 0) g.aI g.eU (gJ g) (hr.mono `d) g.eQ .nil pass0)) a9)))))
   (aC (aH (am (K:=K) rfl PySem.F.plainAttrs_str PySem.F.slot_str_join PySem.F.type_str_join (dM (K:=K) rfl) aG (a8 (pv 3) a9))))))),?_⟩
  have eP:ql=.str ⟨plS.toArray⟩:=by show V.str (ofString _)=_;unfold plS;simp
  rw[eP];fail "r";refine⟨`d,λq hq=>⟨aF (by rw[oX];lia),aF (by rw[length_append,oX];lia),?_⟩⟩;have Fn:q≠p:=by obtain⟨dx,hp⟩:=GE;exact (aJ hp hq).symm
  refine fA (λm Z H'=>∃(dn:Tq) (n:Nat) (ad:Option Nat),m=`t - (i+n)/\i+n<=`t/\dn.length<=n/\ad=mo.map (λz=>z - dn.length)/\Capd mo dn.length/\Z=[some (.ref p),some (.str ⟨fr.toArray⟩),some (moV mo),some (.ref q),some (.str ⟨(plS++fr++[126]).toArray⟩)]/\H' q=some (.lst (dn.map one))/\SameBut p H H'/\Cur H' g.aM p t (i+n)/\Via (txtM fr (t.drop i) mo) n (λl=>dn++l) (txtM fr (t.drop (i+n)) ad)) (`t - i) ⟨[],0,mo,rfl,hi,Nat.le_refl _,by cases mo <;> rfl,λz _=>Nat.zero_le _,rfl,aE,(aT hq).but,?_,Via.refl⟩ ?_
  .obtain⟨dx,hp⟩:=GE;exact⟨dx,by rw[aD Fn.symm];exact hp⟩
  rintro m Z H' ⟨dn,n,ad,rfl,HI,HV,HA,HP,rfl,Cl,sb,BT,HD⟩;have Fr:(dn.map one).length < sizeLine:=by rw[length_map];exact Nat.lt_of_le_of_lt (show dn.length<=100000 by lia) `d
  have HK:txtM fr (t.drop (i+n)) ad=.ok ([],0)->∃ys:List Str,SqL K H' q (ys.map V.str)/\(ys.map λx=>x.length).sum+ys.length * 0<=16777216/\Q (V.str (Txt.join ⟨#[]⟩ ys)) H':=λe=>by
   have e2:=HD.ok e;rw[append_nil,Nat.add_zero] at e2;refine⟨dn.map λc=>⟨[c].toArray⟩,SqL.of (by rw[Cl,map_map];rfl),?_,?_⟩
   .rw[nR];simp only[length_map,Nat.mul_zero,Nat.add_zero];lia
   .rw[show (⟨#[]⟩:Str)=⟨([]:Tq).toArray⟩ from rfl,jg,nQ];exact k1 dn n e2 H' sb BT
  have HC:∀c:Nat,dec ad=mo.map (λz=>z - (dn++[c]).length):=λc=>by
   rw[HA];cases mo with
   |none=>rfl
   |some z=>show some (z - dn.length - 1)=some _;rw[length_append,length_singleton,Nat.sub_sub]
  have HB:ad≠some 0->∀c:Nat,Capd mo (dn++[c]).length:=λh0 c z e=>by have:=HP z e;subst e;rw[length_append,length_singleton];have:z - dn.length≠0:=λw=>h0 (by rw[HA];show some (z - dn.length)=_;rw[w]);lia
  cases mo
  case' none=>
   fail "r";rw[if_pos (show moV none=V.non from rfl)];have h0:ad≠some 0:=by rw[HA];intro z;cases z
  case' some mm=>
   fail "r";rw[if_neg (by intro z;cases z)];refine⟨_,.inl (.of Cl),?_⟩;show rI0 (λi j=>V.bl (decide (i < j))) (V.int _) (V.int (mm:Int)) H' _;fail "r";refine ite2 (λHG=>?_) (λHQ=>HK (by
    rw[length_map] at HQ;have e0:ad=some 0:=by rw[HA];show some (mm - dn.length)=some 0;congr 1;lia
    rw[e0];exact gm))
   rw[length_map] at HG;have h0:ad≠some 0:=by rw[HA];intro z;have z:some (mm - dn.length)=some 0:=z;have:=Option.some.inj z;lia
  all_goals
   refine ao BT ⟨p,t,_,i+n,rfl,BT,HI,hl,_,rfl,?_⟩;cases hd:t.drop (i+n) with
   |nil=>
    have hn:t[i+n]?=none:=by rw[<- List.head?_drop,hd];rfl
    rw[fM hn,if_neg `d];exact HK (by rw[hd];exact fT)
   |cons c r=>
    obtain⟨hx,HR⟩:=fN hd;have hc:=GT c (mem_of_getElem? hx);rw[fL hx];by_cases dl:c∈plS++fr++[126]
    .rw[decide_eq_true dl,if_pos rfl];by_cases mt:c=126
     .subst mt;have HM:t.drop (i+n+1)=r:=by rw[<- drop_drop,hd];rfl
      refine⟨_,λ_ _ h=>h,⟨_,.of Cl⟩,ao BT ⟨p,t,[126],i+n,rfl,BT,HI,hl,λ_ H1 s1 c1=>⟨_,rfl,?_⟩,λHE=>absurd (by rw[hd];rfl) HE⟩⟩;rw[if_pos rfl];refine⟨p,t,i+n+1,rfl,c1,`l,hl,GT,λc m e H2 s2 c2=>?_,λm e d H2 s2 hx=>?_⟩
      .rw[HM] at e;obtain⟨a,b,r2,rfl,hs,rfl,_⟩:=pP e;have HS:i+n+3<=`t:=by have:=congrArg List.length hd;rw[length_drop] at this;simp only[length_cons] at this;lia
       refine⟨_,(s1.trans s2) _ _ Fn Cl,Fr,`t - (i+(n+3)),`l,dn++[c],n+3,dec ad,rfl,`l,by rw[length_append,length_singleton];lia,HC c,HB h0 c,rfl,?_,?_,?_,?_⟩
       .rw[aE,map_append];rfl
       .exact ((sb.trans s1).trans s2).upd hq
       .obtain⟨dx,HF⟩:=c2;exact⟨dx,by rw[aD Fn.symm];exact HF⟩
       .have HJ:t.drop (i+(n+3))=r2:=by rw[show i+(n+3)=i+n+3 by lia,<- drop_drop,hd];rfl
        have:=HD.step (a:=3) (g:=λl=>c::l) (r':=txtM fr r2 (dec ad)) (by rw[hd,gn h0,e];exact pO);rw[HJ];simpa using this
      .rw[HM] at e;refine k2 (n+(m+1)) (HD.err ?_) d H2 ((sb.trans s1).trans s2) (by rw[hx,show i+n+1+m=i+(n+(m+1)) by lia]);rw[hd,gn h0,e]
     .have HN:isPl c=true\/c∈fr:=by
       rcases mem_append.mp dl with z|z
       .exact (mem_append.mp z).imp (oY hc).mp id
       .exact absurd (mem_singleton.mp z) mt
      refine⟨_,λ_ _ h=>h,⟨_,.of Cl⟩,ao BT ⟨p,t,[126],i+n,rfl,BT,HI,hl,λHE=>?_,λ_=>⟨_,rfl,?_⟩⟩⟩
      .rw[hd] at HE;exact absurd (List.cons.inj HE).1 mt
      rw[if_neg `d];refine ao BT ⟨p,t,i+n,c,rfl,BT,hx,hl,λH1 s1 c1=>⟨_,s1 _ _ Fn Cl,Fr,`t - (i+(n+1)),`l,dn++[c],n+1,dec ad,rfl,`l,by rw[length_append,length_singleton];lia,HC c,HB h0 c,rfl,?_,?_,?_,?_⟩⟩
      .rw[aE,map_append];rfl
      .exact (sb.trans s1).upd hq
      .obtain⟨dx,HF⟩:=c1;exact⟨dx,by rw[aD Fn.symm];exact HF⟩
      .have HJ:t.drop (i+(n+1))=r:=by rw[<- Nat.add_assoc,<- drop_drop,hd];rfl
       have:=HD.step (a:=1) (g:=λl=>c::l) (r':=txtM fr r (dec ad)) (by rw[hd,kI h0 mt HN];exact pO);rw[HJ];simpa using this
    .rw[decide_eq_false dl,if_neg `d];refine HK (fU ?_);rw[hd];refine bY ⟨?_,λz=>dl (mem_append.mpr (.inl (mem_append.mpr (.inr z)))),λz=>dl (mem_append.mpr (.inr (mem_singleton.mpr z)))⟩;cases hi2:isPl c with
     |false=>rfl
     |true=>exact absurd (mem_append.mpr (.inl (mem_append.mpr (.inl ((oY hc).mpr hi2))))) dl
theorem GX:g.Fo.Ok P w base 4 (sp_worth_most K):=by
 refine lnF vg ?_;rintro GT A dl s H vs Q E hr ⟨l,b,L,ws,rfl,hl,hT,mt,k⟩
 exists vg.nd,GO,hint 4 0,hint 1 484
 cases hT with
 |cons h0 hT=>
  fail "r";refine⟨_,_,.inl (.of hl),aB (j:=0) rfl,_,.of hl,λp1 H1 n1 s1 ad=>⟨⟨_,.of ad⟩,?_⟩⟩;rw[show (1:Int)=((1:Nat):Int) from rfl,D9] at ad;have GE:=hT.mono s1.toT;have hb:=mt _ `f;refine f9 (λi Z H'=>Same H1 H'/\∃v2:Option V,Z=[some (.ref l),some _,v2]) ⟨Same.refl _,none,rfl⟩ (λi Z H' _ h=>.of (h.1 _ _ ad)) ?_ ?_
  .rintro i x Z H2 BT ⟨s2,v2,rfl⟩;obtain⟨r,hr,a1,p',rfl,Fr,pt⟩:=GE.get BT;obtain⟨a2,p,e,Fn,pb⟩:=h0.mono (s1.trans s2).toT;subst e;rw[mt r (mem_cons_of_mem _ (mem_of_getElem? hr))] at pt;rw[hb] at pb;obtain⟨q',Cl,t'⟩:=du (pt.mono s2.toT);obtain⟨q,hp,t⟩:=du pb;fail "r";exact⟨_,_,.inr (.of (s2 _ _ Fr)),aB (j:=1) rfl,_,_,.inr (.of Fn),aB (j:=1) rfl,p',q',p,q,rfl,Cl,t',hp,t,λH3 s3=>⟨_,rfl,ite2 `E (λ_=>⟨s2.trans s3,_,rfl⟩)⟩⟩
  .rintro Z H2 ⟨s2,v2,rfl⟩;fail "r";exact k _ H2 (s1.trans s2) (h0.mono (s1.trans s2).toT)
theorem GY:g.rL.Ok P w base 4 (sp_shown_lead K):=by
 refine lnF vh ?_;rintro Fn A ad s H vs Q E hr ⟨p,l,q,r,n,rfl,hp,hl,hq,hv,hn,k⟩
 nomatch (aA `D
   (aC (aH (am (K:=K) rfl PySem.F.plainAttrs_str PySem.F.slot_str_join PySem.F.type_str_join (dM (K:=K) rfl) aG (a8 (ai (bM (K:=K)) `D (cmp2 K [] [] (bh (K:=K) rfl `D) bF (ai (bM (K:=K)) (ai (bM (K:=K)) (pv 0) aG) (aQ g.rG (GP g) hr rfl (a8 (pv 1) a9))))) a9))))),vh.nd,hint 2 0,hint 1 555
 fail "r";refine⟨_,_,.inr (.of hp),aB (j:=0) rfl,`d,λp1 H1 n1 s1 Cl=>⟨_,_,.inr (.of (s1 _ _ hp)),aB (j:=1) rfl,l,rfl,⟨_,.of (s1 _ _ hl)⟩,λp2 n2=>?_⟩⟩;have dl:=s1 _ _ hq;refine De (λi=>prAt H1 [.ref q] i) (λ_=>true) (λ_=>tV [114,101,115,116,61,97]) (.of (s1 _ _ hl)) (aF (show 1<=100000 by decide)) n2 (λi x H2 hx s2=>?_) (λi hi H2 R s2 hR=>hR H2 `r) (λi hi ht H2 U s2 hU=>?_) (λH2 s2 BT=>?_)
 .cases i with
  |succ i=>cases hx
  |zero=>cases hx;rw[pp (i:=0) rfl dl];exact⟨q,rfl,.of (s2 _ _ dl)⟩
 .cases i with
  |succ i=>exact absurd hi `s
  |zero=>rw[pp (i:=0) rfl dl];fail "r";rw[show ofString "="=mkS [61] by fail "k"];refine⟨aF `d,r,rfl,s2 _ _ (s1 _ _ hv),λH3 s3=>?_⟩;rw[ay];refine fD.mpr ⟨aF `d,?_⟩;rw[ay];exact hU H3 s3
 .refine .inl ⟨_,_,s2 _ _ Cl,BT,aF (show 2<=100000 by decide),λp3 H3 n3 s3 mt=>?_⟩;refine⟨_,p3,[mkS n,mkS [114,101,115,116,61,97]],rfl,rfl,.of mt,?_,?_⟩
  .show _<=_;simp only[map_cons,map_nil,aN,sum_cons,List.sum_nil,length_cons,length_nil,show (ofString " ").length=1 by fail "k"];have:1000<=sizeLine:=by decide
   lia
  .rw[show ofString " "=mkS [32] by fail "k",show Txt.join (mkS [32]) [mkS n,mkS [114,101,115,116,61,97]]=mkS (n++wRA) from jt 32 [n,[114,101,115,116,61,97]]];exact k H3 (s1.trans (s2.trans s3))
theorem jH:g.iE.Ok P w base 5 (sp_show K):=by
 refine lnF vi ?_;rintro BT A dl s H vs Q E hr ⟨x,v,rfl,hI,wf,sz,k⟩
 exists vi.nd,GF,wG,GR,GH,lf,g.l9,g.iI,g.eM,g.iJ,g.lA,g.iH,hint 0 109
 obtain⟨p,w,q,rfl,hp,mt,i4⟩:=bu hI;obtain⟨pw,ps,rfl,hw,hs⟩:=gi mt;have ad:=sz.all;rw[Ad.shw] at ad;simp only[length_append] at ad;have c1:ofString ":"=⟨[58].toArray⟩:=by fail "k"
 rw[c1];fail "r";refine⟨λZ H'=>H'=H/\Z=[some (.ref p),some (.str ⟨(schT x.scheme).toArray⟩)],?_,?_⟩
 .refine⟨p,x.scheme,_,rfl,hp,_,rfl,?_⟩;by_cases hh:x.scheme=[]
  .refine ite2 (λz=>absurd hh (by simpa using z)) (λ_=>⟨rfl,?_⟩);rw[hh];rfl
  .refine ite2 (λ_=>?_) (λz=>absurd hh (by simpa using z));have e:schT x.scheme=x.scheme++[58]:=by simp[schT,hh]
   refine⟨_,_,.inr hp,rfl,?_⟩;rw[show (⟨#[58]⟩:Str)=⟨[58].toArray⟩ from rfl];fail "r";rw[e,length_append] at ad;refine⟨aF (by simp at ad ⊢;lia),?_⟩;rw[e]
 rintro Z H' ⟨rfl,rfl⟩;fail "r";refine⟨_,_,.inr hp,rfl,_,_,.inr hp,rfl,x.house,x.door,rfl,λl e=>⟨(wf.hou l e).1.2,(wf.hou l e).2⟩,wf.doo,λH1 s1=>?_⟩;fail "r";refine⟨aF (by simp;lia),_,_,.inr (s1.tup hp),rfl,x.rooted,x.ends,x.steps,pw,ps,rfl,s1.tup hw,s1.tup hs,λs h=>⟨sz.stp s h,(wf.stp s h).2⟩,sz.num,by show x.wayT.length<=90000;lia,λH2 s2=>?_⟩;fail "r";refine⟨aF (by show _+x.wayT.length<=_;simp;lia),_,_,.inr ((s1.trans s2).tup hp),rfl,x.quest,q,rfl,i4.mono (s1.trans s2),λps e=>⟨(sz.que ps e).1,λq hq=>⟨wf.que ps e q hq,(sz.que ps e).2 q hq⟩⟩,`l,λH3 s3=>?_⟩;fail "r";refine⟨aF (by show _+(queT x.quest).length<=_;simp[Ad.wayT] at ad ⊢;lia),_,_,.inr (((s1.trans s2).trans s3).tup hp),rfl,x.mark,rfl,λl e=>⟨sz.mar l e,wf.mar l e⟩,λH4 s4=>?_⟩;fail "r";refine⟨aF (by simp[Ad.wayT] at ad ⊢;lia),?_⟩;have:=k H4 (((s1.trans s2).trans s3).trans s4);rw[Ad.shw] at this;simpa [Ad.wayT] using this
theorem GZ:g.Fp.Ok P w base 5 (sp_are_pieces K):=by
 refine lnF vj ?_;rintro Fr A ad s H vs Q E hr ⟨ds,xs,q,rfl,hq,hx,hs,k⟩
 nomatch (aA (aK (PW.pt (bD `D (bJ (aq (aS (ax (fB (K:=K) rfl rfl) rfl g.fk.1 PyProof.Rows.boot_all (a8 (cmp1 [] [] (dN (K:=K) rfl (pv 0)) bF (aQ g.rJ (GS g) hr rfl (a8 (pv 0) a9))) a9)))))))
    `D aL)
   (aC `D)),vj.nd,GK,Ga,g.aX,g.rh
 fail "r";have Fn:=kP hx;have mt:=jp hs;have dl:piecesD ds=false->∀H',Same H H'->Q (.bl false) H':=λe H' s'=>by rw[<- e];exact k H' s'
 refine⟨_,.inr (.of hq),ite2 (λh=>dl ?_ H `r) (λh=>⟨⟨_,.of hq⟩,λp1 n1=>?_⟩)⟩
 .unfold piecesD;rw[decide_eq_false `l,Bool.false_and]
 refine pE (xs:=xs) (λi ys H'=>Same H H'/\ys=((ds.take i).map pieceD).map V.bl) (aF `l) ⟨aT n1,rfl⟩ (λi ys H2 hJ=>.of (hJ.1 _ _ hq)) (λi x ys H2 T BT hJ h2 hT=>?_) (λys H2 hJ h2=>?_)
 .obtain⟨s2,rfl⟩:=hJ;obtain⟨d,hd,Cl⟩:=qM hx BT;fail "r";refine⟨d,x,rfl,Cl.mono s2,gX mt.2 (mem_of_getElem? hd),λH3 s3=>hT _ H3 (s3 _ _ h2) ⟨dX n1 (s2.trans s3),?_⟩⟩;rw[take_add_one,hd,map_append,map_append];rfl
 .obtain⟨s2,rfl⟩:=hJ;fail "r";have eA:((ds.take `x).map pieceD).all id=ds.all pieceD:=by
   rw[Fn,take_length,all_map];rfl
  refine⟨_,.of h2,?_⟩;rw[eA];refine ite2 (λh3=>dl ?_ H2 s2) (λh3=>?_)
  .unfold piecesD;rw[h3,Bool.false_and,Bool.and_false]
  have h3:ds.all pieceD=true:=(Bool.not_eq_false _).mp h3;have hP:PcAll K H2 (ds.map pcOf) xs:=kQ (hx.mono s2) h3;have eP:piecesD ds=(restsL (ds.map pcOf) && decide ((gapsM (ds.map pcOf)).Nodup)):=by unfold piecesD;rw[decide_eq_true (show ds.length<=12 by lia),h3,Bool.true_and,Bool.true_and]
  refine⟨_,xs,q,rfl,s2 _ _ hq,hP,by rw[length_map];lia,λH3 s3=>⟨_,rfl,?_⟩⟩;rw[eP] at k;refine ite2 (λh4=>?_) (λh4=>?_)
  .rw[h4,Bool.true_and] at k;exact⟨_,xs,q,rfl,(s2.trans s3) _ _ hq,kQ (hx.mono (s2.trans s3)) h3,by rw[length_map];lia,λH4 s4=>k H4 ((s2.trans s3).trans s4)⟩
  .rw[Bool.eq_false_iff.mpr h4,Bool.false_and] at k;exact k H3 (s2.trans s3)
theorem H0:g.Fq.Ok P w base 5 (sp_read_gap K):=by
 refine lnF lW ?_;rintro BT A dl s H vs Q E hr ⟨hd,i,t,rfl,l1,l2,l3,c1,c3,k⟩
 nomatch (aA (aK `D
    (aC (aH (bG (a8 aG (a8 (aj (lp g) (hr.mono `d) rfl g.ic g.fw.kp g.ie .nil pass0 (a8 (pv 0) (a8 `D a9))) (a8 (pv 1) (a8 (aj (lp g) (hr.mono `d) rfl g.ic g.fw.kp g.ie .nil pass0 (a8 (pv 2) (a8 `D a9))) a9))))))) aL)
   (aA (sx 3 lW.nd (am (K:=K) rfl PySem.F.plainAttrs_str PySem.F.slot_str_partition PySem.F.type_str_partition fK (pv 1) (a8 aG a9)))
   (aA `D
   (aC (aH (bQ (cH (cj (K:=K) rfl) `D (bC (v:=.ref g.j3) rfl g.t5 rfl) (by with_unfolding_all rfl)) `D bH)))))),lW.nd,hint 2 0,g.fh
 have b3:ofString ":"=⟨[58].toArray⟩:=by fail "k"
 have eF:iB=.str ⟨frS.toArray⟩:=congrArg V.str (bI _).symm;rw[b3,eF];fail "r";have P:¬ (hd=[]/\t=[])->hd.length<=2000/\(∀(c:Nat),c∈hd->c < 128)/\∀H',Same H H'->`t<=2000/\(∀(c:Nat),c∈t->c < 128)/\∀H2,Same H' H2->4<=sizeLine/\∀p H',H2 p=none->Same H2 H'->H' p=some (.tup [V.str (ofString "part"),undV (und frS hd),tV i,undV (und frS t)])->Q (V.ref p) H':=λmt=>
  ⟨l1,c1,λH1 s1=>⟨l3,c3,λH2 s2=>⟨`d,λp H3 n s3 e3=>k _ _ (s1.trans (s2.trans s3)) (by unfold gapD;rw[if_neg mt];exact .tup e3 (.cons (.str _) (.cons (kU _) (.cons (.str _) (.cons (kU _) .nil)))))⟩⟩⟩
 refine ite2 (λh=>P λz=>h (by rw[z.1])) (λh1=>ite2 (λh=>P λz=>h (by rw[z.2])) (λh2=>⟨`d,aF `l,λp hp=>?_⟩));have e1:hd=[]:=bS.mp (Decidable.not_not.mp h1);have e2:t=[]:=bS.mp (Decidable.not_not.mp h2);have sm:∀o,Same H (upd H p o):=λo=>aT hp;by_cases hm:58∈i
 .rw[show Txt.partition ⟨i.toArray⟩ ⟨#[58]⟩=_ from gu hm];have eg:gapD hd i t=if mkS (aft 58 i)∈kwW then .tuple [.str (mkS (aft 58 i)),st (bfo 58 i)] else .none:=by unfold gapD;rw[if_pos ⟨e1,e2⟩,if_pos hm]
  rw[eg] at k;refine⟨_,_,.inr (.of aE),aB (j:=1) rfl,ag.mpr ⟨_,rfl,ite2 (λz=>absurd (of_decide_eq_true z) (show (⟨#[58]⟩:Str)≠⟨#[]⟩ by decide)) (λ_=>?_)⟩⟩;generalize hH:upd H p _=H1;have s1:Same H H1:=hH▸sm _;have ad:SqT K H1 p [.str (mkS (bfo 58 i)),.str (mkS [58]),.str (mkS (aft 58 i))]:=hH▸.of aE;refine⟨_,_,.inr ad,aB (j:=2) rfl,_,kwW.map V.str,rfl,.inr (gt (ss:=kwW) (g.t6 H1)),rfl,rfl,_,rfl,?_⟩;rw[if_neg (show ¬ false=true by decide),cv];refine ite2 (λz=>?_) (λz=>?_)
  .rw[if_pos (of_decide_eq_true z)] at k;exact⟨_,_,.inr ad,aB (j:=2) rfl,_,_,.inr ad,aB (j:=0) rfl,`d,λp2 H2 n2 s2 e2=>k _ _ (s1.trans s2) (.tup e2 (.cons (.str _) (.cons (.str _) .nil)))⟩
  .rw[if_neg (λy=>z (decide_eq_true y))] at k;exact k _ _ s1 .non
 .rw[show Txt.partition ⟨i.toArray⟩ ⟨#[58]⟩=_ from gs hm];have eg:gapD hd i t=.tuple [.str (ofString "gap"),st i]:=by unfold gapD;rw[if_pos ⟨e1,e2⟩,if_neg hm]
  rw[eg] at k;refine⟨_,_,.inr (.of aE),aB (j:=1) rfl,ag.mpr ⟨_,rfl,ite2 (λ_=>?_) (λz=>absurd (decide_eq_true rfl) z)⟩⟩;exact⟨`d,λp2 H2 n2 s2 e2=>k _ _ ((sm _).trans s2) (.tup e2 (.cons (.str _) (.cons (.str _) .nil)))⟩
theorem He:g.rM.Ok P w base 5 (sp_step_for_both K):=by
 refine lnF vk ?_;rintro BT A dl s H vs Q E hr ⟨c,d,p,q,n,s,rfl,hp,hq,hc,hd,hs,hf,k⟩
 exists vk.nd,GV,lm,hint 1 300
 fail "r";refine⟨c,d,p,q,rfl,hp,hq,hc,hd,hs,λl H1 s1 hl=>⟨l,rfl,⟨_,.of hl⟩,?_⟩⟩;refine f9 (xs:=(fitT2 c++fitT2 d).map tV) (λi Z H'=>Same H1 H'/\i<=n/\∃v2,Z=[some (.ref p),some (.ref q),v2]) ⟨Same.refl _,Nat.zero_le _,none,rfl⟩ (λi Z H' _ h=>.of (h.1 _ _ hl)) ?_ ?_
 .rintro i x Z H2 mt ⟨s2,hi,v2,rfl⟩;rw[List.getElem?_map] at mt;obtain⟨t,ht,rfl⟩:=Option.map_eq_some_iff.mp mt;have nd:isDot t=false:=(mem_append.mp (mem_of_getElem? ht)).elim (λz=>(hc.2 t z).1) (λz=>(hd.2 t z).1);have ad:=s1.trans s2;fail "r";refine⟨c,t,p,rfl,ad _ _ hp,hc.1,nd,_,rfl,?_⟩;rcases Nat.lt_or_ge i n with h|h
  .have no:=hf.2.2 i t h ht;refine ite2 (λz=>⟨d,t,q,rfl,ad _ _ hq,hd.1,nd,_,rfl,ite2 (λy=>by rw[z,y] at no;cases no) (λ_=>⟨s2,h,_,rfl⟩)⟩) (λ_=>⟨s2,h,_,rfl⟩)
  .obtain rfl:i=n:=by lia
   cases ht.symm.trans hf.1;have yes:=hf.2.1;rw[Bool.and_eq_true] at yes;rw[yes.1,if_pos rfl];refine⟨d,s,q,rfl,ad _ _ hq,hd.1,nd,_,rfl,?_⟩;rw[yes.2,if_pos rfl];exact k H2 ad
 .rintro Z H2 ⟨s2,hi,v2,rfl⟩;rw[length_map] at hi;exact absurd (List.getElem?_eq_some_iff.mp hf.1).1 `l
theorem Hf:FnOk P w K mg base (CXN P w base) 5 g.eC.a g.eC.fd ["cursor","must_be_rooted"] (uN K g.aM g.aP):=by
 refine g.eC.F.okn dE (λvs H Q E h=>?_) (λIa A HN s H vs Q E hr h=>?_)
 .obtain⟨p,t,i,ad,rfl,_⟩:=h;rfl
 .obtain⟨p,t,i,ad,rfl,Fn,hi,hl,Fr,k1,k2⟩:=h;refine⟨_,(aR (sx 2 dE.nd (aW (pv 0) g.aI g.be (bp g) (hr.mono `d) g.bd .nil pass0 (a8 aG a9)))
   (aR (aK (PW.pt (cU (aS (pv 1)) (dH (aq (aS (pv 2))))))
    (aC (aH (bG (a8 dF (a8 (bG a9) (a8 dF a9)))))) aL)
   (aA (sx 3 dE.nd (cJ a9))
   (aA (sx 4 dE.nd (pv 2))
   (aR (sx 5 dE.nd (aj (dvs:=[.non]) (eZ g) (hr.mono `d) rfl g.dB g.cN.kp g.eR (.cons rfl .nil) ah (a8 (pv 0) (a8 (glC g.fh) a9))))
   (aA (eh PassesOwn.leaving (ptm bE (pv 5) aG)
   (aA (cE (am (K:=K) rfl PySem.F.plainAttrs_list PySem.F.slot_list_append PySem.F.type_list_append dL (pv 3) (a8 (pv 5) a9)))
   (aA (sx 4 dE.nd (aW (pv 0) g.aI g.be (bp g) (hr.mono `d) g.bd .nil pass0 (a8 aG a9)))
   (aC (sx 5 dE.nd (aj (dvs:=[.non]) (eZ g) (hr.mono `d) rfl g.dB g.cN.kp g.eR (.cons rfl .nil) ah (a8 (pv 0) (a8 (glC g.fh) a9))))))))
   (aC (aH (bG (a8 (pv 2) (a8 (br (fC (K:=K) rfl) rfl g.bc.1 gV (a8 (pv 3) a9)) (a8 (pv 4) a9)))))))))))),?_⟩
  have eF:iB=.str ⟨frS.toArray⟩:=by show V.str (ofString _)=_;unfold frS;simp
  have e1:ofString "/"=⟨[47].toArray⟩:=by fail "k"
  rw[eF,e1];fail "r";refine⟨λZ H1=>SameBut p H H1/\∃(j:Nat) (r:Bool),Z=[some (.ref p),some (.bl ad),some (.bl r),none,none,none]/\Cur H1 g.aM p t j/\j<=`t/\((r=true/\(t.drop i).head?=some 47/\j=i+1)\/(r=false/\¬ (t.drop i).head?=some 47/\j=i)),?_,?_⟩
  .refine ao Fn ⟨p,t,[47],i,rfl,Fn,hi,hl,λhp H1 s1 c1=>⟨s1,i+1,true,rfl,c1,?_,.inl ⟨rfl,take1.mp hp,rfl⟩⟩,λhp=>⟨SameBut.refl _ _,i,false,rfl,Fn,hi,.inr ⟨rfl,λz=>hp (take1.mpr z),rfl⟩⟩⟩;have:=congrArg List.length hp;rw[length_take,length_drop] at this;simp only[length_singleton] at this;lia
  rintro Z H1 ⟨s1,j,r,rfl,c1,hj,hr⟩;fail "r";refine⟨λZ H2=>H2=H1/\¬ (ad=true/\r=false)/\Z=[some (.ref p),some (.bl ad),some (.bl r),none,none,none],?_,?_⟩
  .have HX:ad=true->r=false->(∀u H',SameBut p H H'->Cur H' g.aM p t j->IsT H' (wayOf (true,[],true)) u->Q u H'):=λhm h0 u H' sb cu hu=>by
    rcases hr with⟨z,_⟩|⟨_,hh,rfl⟩
    .rw[h0] at z;cases z
    .exact k1 (true,[],true) 0 (by unfold wayM;rw[if_neg hh,if_pos hm]) H' sb cu u hu
   cases ad with
   |true=>
    rw[if_pos rfl];cases r with
    |true=>exact⟨rfl,`s,rfl⟩
    |false=>rw[if_pos rfl];exact⟨`d,λpt Ha n1 sa HI=>⟨`d,λpw Hb nb Cl HG=>HX rfl rfl _ Hb ((s1.trans sa.but).trans Cl.but) ((c1.same sa).same Cl) (wayT' (ss:=[]) HG (Cl _ _ HI))⟩⟩
   |false=>rw[if_neg `d];exact⟨rfl,`s,rfl⟩
  rintro Z H2 ⟨rfl,HS,rfl⟩;fail "r";obtain⟨BT,dl⟩:∃BT,BT=stpF ((t.drop i).length+1) (t.drop j) r:=`o;have ew:wayM ad (t.drop i)=sh (j - i) (mp (λx=>(r,x)) BT):=by
   unfold wayM;rcases hr with⟨rfl,hh,rfl⟩|⟨rfl,hh,rfl⟩
   .rw[if_pos hh,dl,show i+1 - i=1 by lia,drop_drop]
   .rw[if_neg hh,if_neg (λz=>HS ⟨z,rfl⟩),dl,Nat.sub_self,sh_0]
  have HY:i<=j:=by rcases hr with⟨_,_,rfl⟩|⟨_,_,rfl⟩ <;> lia
  have HV:∀x n,BT=.ok (x,n)->∀u H',SameBut p H H'->Cur H' g.aM p t (j+n)->IsT H' (wayOf (r,x)) u->Q u H':=λx n e u H' sb cu hu=>
   k1 (r,x) (j - i+n) (by rw[ew,e];rfl) H' sb (by rw[show i+(j - i+n)=j+n by lia];exact cu) u hu
  have HJ:∀n,BT=.error n->∀d H',SameBut p H H'->H' d=some (.xd [("at",.int ((j+n:Nat):Int))])->E (.ref g.aP) (some d) H':=λn e d H' sb hx=>
   k2 (j - i+n) (by rw[ew,e];rfl) d H' sb (by rw[hx,show i+(j - i+n)=j+n by lia])
  refine⟨`d,λq H3 hq s3 HR=>?_⟩;have GT:q≠p:=by obtain⟨dx,hp⟩:=c1;exact (aJ hp hq).symm
  have c3:=c1.same s3;have HM:SameBut p H H3:=s1.trans s3.but;have HQ:H q=none:=s1.free hq GT;obtain⟨W,hW⟩:∃W:Nat->St->Hp->Prop,W=λm Z H'=>∃(dn:List Tq) (s:Tq) (b n:Nat) (en:Bool),Z=[some (.ref p),some (.bl ad),some (.bl r),some (.ref q),some (.bl en),some (.str ⟨s.toArray⟩)]/\txtM frS (t.drop (j+b)) none=.ok (s,n)/\j+b+n<=`t/\dn.length<=b/\(t.drop (j+b)).length<=m/\Via BT b (λx=>(dn++x.1,x.2)) (stpF (m+1) (t.drop (j+b)) en)/\H' q=some (.lst (dn.map sV))/\SameBut p H H'/\Cur H' g.aM p t (j+b+n):=`o;have HD:∀{b n:Nat}{s:Tq},j+b<=`t->txtM frS (t.drop (j+b)) none=.ok (s,n)->j+b+n<=`t:=λ{b n s} hb e=>by have:=(bZ e).1;rw[length_drop] at this;lia
  refine⟨λZ H4=>∃m,W m Z H4,?_,?_⟩
  .refine⟨p,t,frS,j,none,rfl,c3,hj,hl,Fr,jz,λs n e H4 s4 c4=>⟨(t.drop i).length,?_⟩,λn e d H4 s4 hx=>HJ n ?_ d H4 (HM.trans s4) hx⟩
   .rw[hW];refine⟨[],s,0,n,r,rfl,e,HD hj e,Nat.le_refl _,by simp only[length_drop];lia,?_,s4 _ _ GT HR,HM.trans s4,c4⟩;show Via BT 0 (λx=>x) _;rw[dl];exact Via.refl
   .rw[dl];unfold stpF;rw[e]
  rintro Z H4 ⟨m,hm⟩;unfold L2.Later;rw[L2.jU];refine fA W m hm ?_;rintro m Z H5 hm;rw[hW] at hm;obtain⟨dn,s,b,n,en,rfl,HB,HW,HZ,HK,HC,HF,HL,c5⟩:=hm;fail "r";by_cases hs:s=[]
  .refine ite2 (λz=>absurd (bS.mpr hs) z) (λ_=>?_);have e2:stpF (m+1) (t.drop (j+b)) en=.ok (([],en),n):=by
    conv=>lhs;unfold stpF
    rw[HB];exact if_pos hs
   have e3:=HC.ok e2;exact⟨_,.inl (.of HF),λpt Ha sa HI=>⟨`d,λpw Hb nb Cl HG=>HV _ _ e3 _ Hb ((HL.trans sa.but).trans Cl.but) (by rw[<- Nat.add_assoc];exact (c5.same sa).same Cl) (by rw[append_nil];exact wayT' HG (Cl _ _ HI))⟩⟩
  .have hpos:=(bZ HB).2.2 hs;have HU:∃m',m=m'+1:=by
    refine⟨m - 1,?_⟩;rw[length_drop] at HK;lia
   obtain⟨m',rfl⟩:=HU;refine ite2 (λ_=>⟨_,λ_ _ h=>h,⟨_,.of HF⟩,_,HF,?_,?_⟩) (λz=>absurd (bS.mp (Classical.not_not.mp z)) hs)
   .rw[length_map];exact Nat.lt_of_le_of_lt (show dn.length<=100000 by lia) `d
   have c6:Cur (upd H5 q (.lst (dn.map sV++[sV s]))) g.aM p t (j+b+n):=by obtain⟨dx,hp⟩:=c5;exact⟨dx,by rw[aD GT.symm];exact hp⟩
   have GE:SameBut p H (upd H5 q (.lst (dn.map sV++[sV s]))):=HL.upd HQ;have HE:(upd H5 q (.lst (dn.map sV++[sV s]))) q=some (.lst ((dn++[s]).map sV)):=by rw[aE,map_append];rfl
   generalize upd H5 q (.lst (dn.map sV++[sV s]))=H6 at c6 GE HE ⊢;have HP:(t.drop (j+b)).drop n=t.drop (j+b+n):=drop_drop;refine ao c6 ⟨p,t,[47],j+b+n,rfl,c6,HW,hl,λhp H7 s7 c7=>?_,λhp=>?_⟩
   .have hh:((t.drop (j+b)).drop n).head?=some 47:=by rw[HP];exact take1.mp hp
    have e2:stpF (m'+1+1) (t.drop (j+b)) en=sh (n+1) (mp (λx=>(s::x.1,x.2)) (stpF (m'+1) (t.drop (j+(b+(n+1)))) true)):=by
     conv=>lhs;unfold stpF
     rw[HB];show (if s=[] then _ else _)=_;rw[if_neg hs,if_pos hh,drop_drop,Nat.add_assoc j b (n+1)]
    have mt:=HC.step e2;have HA:j+(b+(n+1))<=`t:=by have:=congrArg List.length hp;rw[length_take,length_drop] at this;simp only[length_singleton] at this;lia
    refine⟨p,t,frS,j+(b+(n+1)),none,rfl,by rw[show j+(b+(n+1))=j+b+n+1 by lia];exact c7,HA,hl,Fr,jz,λs' n' e' H8 s8 c8=>⟨m',`l,?_⟩,λn' e' d H8 s8 hx=>HJ (b+(n+1)+n') (mt.err (by unfold stpF;rw[e'])) d H8 ((GE.trans s7).trans s8) (by rw[hx,show j+(b+(n+1))+n'=j+(b+(n+1)+n') by lia])⟩;rw[hW];refine⟨dn++[s],s',b+(n+1),n',true,rfl,e',HD HA e',by rw[length_append,length_singleton];lia,by rw[length_drop] at HK ⊢;lia,?_,(s7.trans s8) _ _ GT HE,(GE.trans s7).trans s8,c8⟩;simpa using mt
   .have hh:¬ ((t.drop (j+b)).drop n).head?=some 47:=by rw[HP];exact λz=>hp (take1.mpr z)
    have e2:stpF (m'+1+1) (t.drop (j+b)) en=sh n (mp (λx=>(s::x.1,x.2)) (stpF (m'+1) (t.drop (j+(b+n))) false)):=by
     conv=>lhs;unfold stpF
     rw[HB];show (if s=[] then _ else _)=_;rw[if_neg hs,if_neg hh,drop_drop,Nat.add_assoc j b n]
    have mt:=HC.step e2;have HA:j+(b+n)<=`t:=by lia
    refine⟨p,t,frS,j+(b+n),none,rfl,by rw[<- Nat.add_assoc];exact c6,HA,hl,Fr,jz,λs' n' e' H8 s8 c8=>⟨m',`l,?_⟩,λn' e' d H8 s8 hx=>HJ (b+n+n') (mt.err (by unfold stpF;rw[e'])) d H8 (GE.trans s8) (by rw[hx,show j+(b+n)+n'=j+(b+n+n') by lia])⟩;rw[hW];refine⟨dn++[s],s',b+n,n',false,rfl,e',HD HA e',by rw[length_append,length_singleton];lia,by rw[length_drop] at HK ⊢;lia,?_,s8 _ _ GT HE,GE.trans s8,c8⟩;simpa using mt
theorem wJ:FnOk P w K mg base (CXN P w base) 5 g.bx.a g.bx.fd ["cursor"] (FF K g.aM g.aP):=by
 refine g.bx.F.okn FZ (λvs H Q E h=>?_) (λCl A mt s H vs Q E hr h=>?_)
 .obtain⟨p,t,i,rfl,_⟩:=h;rfl
 .obtain⟨p,t,i,rfl,ad,hi,hl,dl,k1,k2⟩:=h;refine⟨_,(aC (aH (bQ (aS (aW (pv 0) g.aI g.be (bp g) (hr.mono `d) g.bd .nil pass0 (a8 aG a9))) (aj (dvs:=[.non]) (eZ g) (hr.mono `d) rfl g.dB g.cN.kp g.eR (.cons rfl .nil) ah (a8 (pv 0) (a8 (glC g.iG) a9))) bH))),?_⟩;have eF:km=.str ⟨frQ.toArray⟩:=by
   show V.str (ofString _)=_;unfold frQ;simp
  have e1:ofString "="=⟨[61].toArray⟩:=by fail "k"
  rw[eF,e1];fail "r";refine ao ad ⟨p,t,[61],i,rfl,ad,hi,hl,λhp H1 s1 c1=>⟨_,rfl,?_⟩,λhp=>⟨_,rfl,?_⟩⟩
  .rw[if_pos rfl];have h1:=take1.mp hp;have BT:i+1<=`t:=by
    have:=congrArg List.length hp;rw[length_take,length_drop] at this;simp only[length_singleton] at this;lia
   have em:valM (t.drop i)=sh 1 (mp some (txtM frQ (t.drop (i+1)) none)):=by unfold valM;rw[if_pos h1,drop_drop]
   refine⟨p,t,frQ,i+1,none,rfl,c1,BT,hl,dl,k6,λs n e H2 s2 c2=>k1 (some s) (1+n) (by rw[em,e];rfl) H2 (s1.trans s2) (by rw[<- Nat.add_assoc];exact c2),λn e d H2 s2 hx=>k2 (1+n) (by rw[em,e];rfl) d H2 (s1.trans s2) (by rw[hx,Nat.add_assoc])⟩
  .rw[if_neg `d];exact k1 none 0 (by unfold valM;rw[if_neg (λz=>hp (take1.mpr z))]) H (SameBut.refl _ _) ad
theorem Hg:FnOk P w K mg base (CXN P w base) 5 g.eG.a g.eG.fd ["cursor"] (FG K g.aM g.aP):=by
 refine g.eG.F.okn G0 (λvs H Q E h=>?_) (λCl A mt s H vs Q E hr h=>?_)
 .obtain⟨p,t,i,rfl,_⟩:=h;rfl
 .obtain⟨p,t,i,rfl,ad,hi,hl,dl,k1,k2⟩:=h;refine⟨_,(aC (aH (bQ (aS (aW (pv 0) g.aI g.be (bp g) (hr.mono `d) g.bd .nil pass0 (a8 aG a9))) (aj (dvs:=[.non]) (eZ g) (hr.mono `d) rfl g.dB g.cN.kp g.eR (.cons rfl .nil) ah (a8 (pv 0) (a8 (glC g.rW) a9))) bH))),?_⟩;have eF:qm=.str ⟨frM.toArray⟩:=by
   show V.str (ofString _)=_;unfold frM;simp
  have e1:ofString "#"=⟨[35].toArray⟩:=by fail "k"
  rw[eF,e1];fail "r";refine ao ad ⟨p,t,[35],i,rfl,ad,hi,hl,λhp H1 s1 c1=>⟨_,rfl,?_⟩,λhp=>⟨_,rfl,?_⟩⟩
  .rw[if_pos rfl];have h1:=take1.mp hp;have BT:i+1<=`t:=by
    have:=congrArg List.length hp;rw[length_take,length_drop] at this;simp only[length_singleton] at this;lia
   have em:marM (t.drop i)=sh 1 (mp some (txtM frM (t.drop (i+1)) none)):=by unfold marM;rw[if_pos h1,drop_drop]
   refine⟨p,t,frM,i+1,none,rfl,c1,BT,hl,dl,BK,λs n e H2 s2 c2=>k1 (some s) (1+n) (by rw[em,e];rfl) H2 (s1.trans s2) (by rw[<- Nat.add_assoc];exact c2),λn e d H2 s2 hx=>k2 (1+n) (by rw[em,e];rfl) d H2 (s1.trans s2) (by rw[hx,Nat.add_assoc])⟩
  .rw[if_neg `d];exact k1 none 0 (by unfold marM;rw[if_neg (λz=>hp (take1.mpr z))]) H (SameBut.refl _ _) ad
theorem wK:FnOk P w K mg base (CXN P w base) 5 g.ii g.g9 ["cursor","free","most"] (FH K g.aM g.aP):=by
 refine g.ij.okn vm (λvs H Q E h=>?_) (λCl A mt s H vs Q E hr h=>?_)
 .obtain⟨p,t,fr,i,mo,rfl,_⟩:=h;rfl
 .obtain⟨p,t,fr,i,mo,rfl,ad,hi,hl,dl,BT,k1,k2⟩:=h;refine⟨_,(aA (sx 3 vm.nd (aj (eZ g) (hr.mono `d) rfl g.dB g.cN.kp g.sL .nil ah (a8 (pv 0) (a8 (pv 1) (a8 (pv 2) a9)))))
   (aA (aK (ptm bK (pv 3) aG)
    (aC (df de rfl g.cP g.dD (eY g) (hr.mono `d) g.dA rfl pass0 rfl (a8 (au (pv 0) rfl) a9))) aL)
   (aC (aH (pv 3))))),?_⟩
  fail "r";refine⟨p,t,fr,i,mo,rfl,ad,hi,hl,dl,BT,λs n e H1 s1 c1=>?_,λn e d H1 s1 hx=>k2 n (by unfold filM;rw[e]) d H1 s1 hx⟩;fail "r";by_cases hs:s=[]
  .rw[if_pos (bS.mpr hs)];exact b9 c1 g.aI g.ar (cC λd H' sm hx=>k2 n (by unfold filM;rw[e];exact if_pos hs) d H' (s1.trans sm.but) hx)
  .rw[if_neg (λz=>hs (bS.mp z))];exact k1 s n (by unfold filM;rw[e];exact if_neg hs) H1 s1 c1
theorem wL:g.kt.Ok P w base 5 (sp_plain K):=by
 refine lnF lX ?_;rintro GT A ad s H vs Q E hr ⟨x,v,rfl,hI,wf,mt,hn,k⟩
 nomatch (aA `D
   (aR (sx 2 lX.nd (bQ `D bH (jY (K:=K) rfl PySem.F.plainAttrs_str PySem.F.slot_str_lower PySem.F.type_str_lower mj (pv 1))))
   (aC (aH (aQ g.rH (wI g) hr rfl (a8 (ai (gf (K:=K) rfl) (bG (a8 (jY (K:=K) rfl PySem.F.plainAttrs_str PySem.F.slot_str_lower PySem.F.type_str_lower mj `D) (a8 (pv 2) a9))) (bf (fF (K:=K) rfl) (pv 0) (bW `D) bt)) a9)))))),lX.nd,g.iH,g.l9,g.iI
 obtain⟨p,w,q,rfl,hp,hw,hq⟩:=bu hI;have dl:∀l:Tq,(l.map PyProof.Rows.lo1)=lowT l:=λl=>rfl;have BT:∀c∈x.scheme,c < 128:=λc hc=>fH (gY (wf.sch.2.1 c hc));fail "r";refine⟨_,_,.inr hp,rfl,?_⟩;refine⟨λZ H1=>H1=H/\Z=[some (.ref p),some (otV x.house),some (otV (x.house.map lowT))],?_,?_⟩
 .fail "r";cases hh:x.house with
  |none=>exact ite2 (λ_=>rfl) `a
  |some l=>refine ite2 (λz=>absurd z (by simp[otV])) (λ_=>?_);have hl:=wf.hou l hh;refine⟨rfl,?_⟩;show rLower (.str `A) [] H _;fail "r";refine⟨λc hc=>fH (hl.2 c hc),`l,?_⟩;rw[dl];rfl
 rintro Z H1 ⟨rfl,rfl⟩;fail "r";refine⟨_,_,.inr hp,rfl,?_⟩;fail "r";rw[dl];refine⟨BT,by have:=wf.sch.1;lia,`d,λp2 H2 GE s2 Fr=>⟨_,s2.tup hp,λp3 H3 s3 Fn=>⟨_,_,.of (s3 _ _ Fr),Fn,(show 6<=sizeLine by decide),λp4 H4 s4 Cl=>?_⟩⟩⟩;have sm:=(s2.trans s3).trans s4;exact⟨lowA x,_,rfl,adK (x:=lowA x) Cl (hw.mono sm) (hq.mono sm),mt,(λe=>(wf.end_ e).trans mt),hn,λu H5 s5 hu=>k u H5 (sm.trans s5) hu⟩
theorem Hh:g.rN.Ok P w base 5 (sp_resolved K):=by
 refine lnF vn ?_;rintro GT A ad s H vs Q E hr ⟨b,x,vb,vx,rfl,hB,hX,dl,wf,rs,hx,k⟩
 exists vn.nd,lf,Gu,wI,hint 1 447
 obtain⟨pb,wb,qb,rfl,BT,Fn,GE⟩:=bu hB;obtain⟨px,wx,qx,rfl,mt,Cl,Fr⟩:=bu hX;fail "r";refine⟨pb,b.scheme,_,rfl,BT,_,rfl,?_⟩;rw[if_neg (by simp[dl])];refine⟨px,x.scheme,_,rfl,mt,_,rfl,?_⟩;unfold whX at k;by_cases h:x.scheme=[]
 .rw[if_neg (λz=>z h)] at k;rw[if_neg (by simp[h])];have rs:=rs.resolve_left (λz=>z h);exact⟨b,x,_,_,rfl,hB,hX,wf,rs.1,rs.2,λv H1 s1 hv=>⟨_,v,rfl,hv,rs.2,(λe=>(wf.end_ e).trans rs.2),by show x.steps.length<=_;lia,λu H2 s2 hu=>k u H2 (s1.trans s2) hu⟩⟩
 .rw[if_pos h] at k;rw[if_pos (by simp[h])];exact⟨x,_,rfl,hX,wf.roo (.inl h),(λe=>(wf.end_ e).trans (wf.roo (.inl h))),`l,λu H1 s1 hu=>k u H1 s1 hu⟩
theorem Hi:g.rO.Ok P w base 5 (sp_lead K):=by
 refine lnF lY ?_;rintro HC A BT s H vs Q E hr ⟨l,pw,ps,T,ws,n,L,rfl,hl,hT,GT,HB,Cl,Fn,hF,hX,k⟩
 nomatch (aR (cmpS ["way"] [1] 2 lY.nd (bh (K:=K) rfl (pv 0)) (jV (aS (aQ g.rF (wH g) hr rfl (a8 (px K (pv 0) aY) (a8 (pv 1) a9))))) (pv 0))
   (aA `D
   (aA `D
   (aC `D)))),lY.nd,GU,GX,hint 2 0,g.aX,hint 1 477
 fail "r";have hwl:=hT.length;refine⟨λZ H1=>Same H H1/\Ex2 λ(l1:Addr) (us:`V)=>Z=[some (.ref l),some (.ref pw),some (.ref l1),none]/\H1 l1=some (.lst us)/\TbV H1 (T.filter fitR) us,⟨⟨_,.of hl⟩,λl1 n1=>?_⟩,?_⟩
 .refine qE (λi=>match T[i]? with|some t=>fitR t|none=>false) (λi=>ws[i]?.getD .non) (.of hl) (aF `l) n1 (λi x dl H1 R s1 hR=>?_) (λi x dl ht H1 T' s1 Fr=>?_) (λH1 s1 ad=>?_)
  .obtain⟨⟨m,cs,e⟩,ht,a,p,rfl,ha,pt⟩:=hT.get dl;obtain⟨c,d,rfl,oc,od⟩:=GT _ (mem_of_getElem? ht);obtain⟨q,hp,t2⟩:=du (pt.mono s1.toT);rw[ht] at hR;fail "r";refine⟨_,_,.inr (.of (s1 _ _ ha)),aB (j:=1) rfl,c,d,p,q,pw,ps,e,rfl,hp,t2,oc,od,s1.tup Cl,s1.tup Fn,λH2 s2=>⟨_,rfl,?_⟩⟩;cases e <;> exact hR H2 s2
  .rw[dl] at Fr;fail "r";exact Fr H1 `r
  .exact⟨s1,l1,_,rfl,ad,(hT.mono s1.toT).pick⟩
 rintro Z H1 ⟨s1,l1,us,rfl,ad,hU⟩;rw[hF] at hU;have HA:=hU.length;fail "r";refine⟨_,.inl (.of ad),ite2 (λh0=>absurd h0 (by rw[HA,length_cons];lia)) (λh0=>?_)⟩;refine⟨l1,(n,pX),L,us,rfl,ad,hU,(λr hr=>(mem_cons.mp hr).elim (λe=>by rw[e]) (hX r)),λv H2 s2 hv=>?_⟩;obtain⟨a,p,rfl,ha,pt⟩:=hv;obtain⟨q,hp,t2⟩:=du pt;have mt:=s1.trans s2;fail "r";exact⟨_,_,.inr (.of ha),aB (j:=0) rfl,_,_,.inr (.of ha),aB (j:=1) rfl,p,q,pw,ps,rfl,hp,t2,mt.tup Cl,mt.tup Fn,λl' v r H3 s3 h1 h2 h3=>⟨`d,λp4 H4 n4 s4 GE=>k p4 l' v r H4 ((mt.trans s3).trans s4) GE (s4 _ _ h1) (s4 _ _ h2) (s4 _ _ h3)⟩⟩
theorem Hj:g.rP.Ok P w base 6 (sp_is_pattern K):=by
 refine lnF vo ?_;rintro Cl A dl s H vs Q E hr ⟨d,v,rfl,hv,hs,k⟩
 exists vo.nd,GZ,vv,g.cy,g.aX,g.iM,g.rq,g.b4,g.bc
 fail "r";refine⟨d,v,2,rfl,hv,_,rfl,?_⟩;cases hv with
 |@tup p xs ds hp r=>
  have BT:=(jp hs).2;have ad:(∀l e,ds≠[.tuple l,.bool e])->Q (.bl false) H:=λhn=>by
   have e2:patD (.tuple ds)=false:=by
    unfold patD;split
    .next l e h=>cases h;exact absurd rfl (hn l e)
    .rfl
   rw[<- e2];exact k H `r
  refine ite2 (λh=>ad λl e z=>by rw[z] at h;exact absurd h (by rw[show tupN 2 (.tuple [.tuple l,.bool e])=true from bj (n:=2).mpr rfl];decide)) (λh=>?_);have mt:=bj (n:=2).mp ((Bool.not_eq_false _).mp h);cases r with
  |nil=>cases mt
  |@cons d0 x0 ds1 xs1 g0 r1=>
   cases r1 with
   |nil=>cases mt
   |@cons d1 x1 ds2 xs2 g1 r2=>
    cases r2 with
    |cons _ _=>simp at mt
    |nil=>
     fail "r";refine⟨_,_,.inr (.of hp),aB (j:=0) rfl,?_⟩;cases g0 with
     |@tup q ys l hq ry=>
      refine⟨_,L2.cg hq,ite2 (λz=>absurd z `d) (λ_=>⟨_,_,.inr (.of hp),aB (j:=1) rfl,?_⟩)⟩;cases g1 with
      |bl e=>
       refine⟨_,L2.dP,ite2 (λz=>absurd z `d) (λ_=>⟨_,_,.inr (.of hp),aB (j:=0) rfl,l,ys,q,rfl,hq,ry,gX BT `f,λH1 s1=>⟨_,rfl,?_⟩⟩)⟩;have eP:patD (.tuple [.tuple l,.bool e])=(piecesD l && (e || decide (0 < `L))):=rfl;rw[eP] at k;have hyl:=kP ry;refine ite2 (λh1=>⟨_,_,.inr (.of (s1 _ _ hp)),aB (j:=1) rfl,e,rfl,?_⟩) (λh1=>?_)
       .rw[h1,Bool.true_and] at k;cases e with
        |true=>exact ite2 (λ_=>k H1 s1) `a
        |false=>
         refine ite2 `E (λ_=>⟨_,_,.inr (.of (s1 _ _ hp)),aB (j:=0) rfl,?_⟩);fail "r";refine⟨_,.inr (.of (s1 _ _ hq)),?_⟩;have e3:decide ((0:Int) < (ys.length:Int))=(false || decide (0 < `L)):=by rw[Bool.false_or,decide_eq_decide];lia
         rw[e3];exact k H1 s1
       .rw[Bool.eq_false_iff.mpr h1,Bool.false_and] at k;exact k H1 s1
      |lst hq r=>exact⟨_,L2.cI hq,ite2 (λ_=>k H `r) (λz=>absurd `d z)⟩
      |dic hq=>exact⟨_,L2.dS hq,ite2 (λ_=>k H `r) (λz=>absurd `d z)⟩
      |tup hq r=>exact⟨_,L2.cg hq,ite2 (λ_=>k H `r) (λz=>absurd `d z)⟩
      |str x=>exact⟨_,L2.dR,ite2 (λ_=>k H `r) (λz=>absurd `d z)⟩
      |non=>exact⟨_,L2.dO,ite2 (λ_=>k H `r) (λz=>absurd `d z)⟩
      |int i=>exact⟨_,L2.dQ,ite2 (λ_=>k H `r) (λz=>absurd `d z)⟩
     |lst hq r=>exact⟨_,L2.cI hq,ite2 (λ_=>ad (λl e z=>by cases z)) (λz=>absurd `d z)⟩
     |dic hq=>exact⟨_,L2.dS hq,ite2 (λ_=>ad (λl e z=>by cases z)) (λz=>absurd `d z)⟩
     |str x=>exact⟨_,L2.dR,ite2 (λ_=>ad (λl e z=>by cases z)) (λz=>absurd `d z)⟩
     |non=>exact⟨_,L2.dO,ite2 (λ_=>ad (λl e z=>by cases z)) (λz=>absurd `d z)⟩
     |bl b=>exact⟨_,L2.dP,ite2 (λ_=>ad (λl e z=>by cases z)) (λz=>absurd `d z)⟩
     |int i=>exact⟨_,L2.dQ,ite2 (λ_=>ad (λl e z=>by cases z)) (λz=>absurd `d z)⟩
 |_=>exact ite2 (λ_=>k H `r) `a
theorem Hk:g.rQ.Ok P w base 6 (sp_read_piece K):=by
 refine lnF jB ?_;rintro HB A mt s H vs Q E hr ⟨t,rfl,l1,c1,k⟩
 nomatch (aA (sx 1 jB.nd (am (K:=K) rfl PySem.F.plainAttrs_str PySem.F.slot_str_partition PySem.F.type_str_partition fK (pv 0) (a8 aG a9)))
   (aA (aK `D
    (aC (aH (bG (a8 aG (a8 (aj (lp g) (hr.mono `d) rfl g.ic g.fw.kp g.ie .nil pass0 (a8 (pv 0) (a8 `D a9))) a9))))) aL)
   (aA (sx 2 jB.nd (am (K:=K) rfl PySem.F.plainAttrs_str PySem.F.slot_str_partition PySem.F.type_str_partition fK `D (a8 aG a9)))
   (aA `D
   (aC `D))))),jB.nd,H0,g.fh
 have b1:ofString "{"=⟨[123].toArray⟩:=by fail "k"
 have b2:ofString "}"=⟨[125].toArray⟩:=by fail "k"
 have eF:iB=.str ⟨frS.toArray⟩:=congrArg V.str (bI _).symm;rw[b1,b2,eF];fail "r";refine⟨`d,aF `l,λp hp=>?_⟩;have sm:∀o,Same H (upd H p o):=λo=>aT hp;by_cases hm:123∈t
 .obtain⟨a,b,et,ha,ea,eb⟩:=dm hm;have hl:=congrArg List.length et;rw[length_append,length_cons] at hl;have ca:∀c∈a,c < 128:=λc hc=>c1 c (by rw[et];exact mem_append_left _ hc);have cb:∀c∈b,c < 128:=λc hc=>c1 c (by rw[et];exact mem_append_right _ (mem_cons_of_mem _ hc));have eg:rpcD t=if 125∈b then gapD a (bfo 125 b) (aft 125 b) else .none:=by unfold rpcD;rw[if_pos hm,ea,eb]
  rw[eg] at k;rw[show Txt.partition ⟨t.toArray⟩ ⟨#[123]⟩=_ from gu hm,ea,eb];refine⟨_,_,.inr (.of aE),aB (j:=1) rfl,ag.mpr ⟨_,rfl,ite2 (λz=>absurd (of_decide_eq_true z) (show (⟨#[123]⟩:Str)≠⟨#[]⟩ by decide)) (λ_=>?_)⟩⟩;generalize hH:upd H p _=H1;have s1:Same H H1:=hH▸sm _;have Cl:SqT K H1 p [.str (mkS a),.str (mkS [123]),.str (mkS b)]:=hH▸.of aE;refine⟨_,_,.inr Cl,aB (j:=2) rfl,?_⟩;fail "r";refine⟨`d,aF `l,λp2 BT=>?_⟩;have dl:∀o,Same H (upd H1 p2 o):=λo=>s1.trans (aT BT);by_cases ad:125∈b
  .obtain⟨a2,b2,Fn,HA,GE,Fr⟩:=dm ad;rw[if_pos ad,GE,Fr] at k;have GT:=congrArg List.length Fn;rw[length_append,length_cons] at GT;rw[show Txt.partition ⟨b.toArray⟩ ⟨#[125]⟩=_ from gu ad,GE,Fr];refine⟨_,_,.inr (.of aE),aB (j:=1) rfl,ag.mpr ⟨_,rfl,ite2 (λz=>absurd (of_decide_eq_true z) (show (⟨#[125]⟩:Str)≠⟨#[]⟩ by decide)) (λ_=>?_)⟩⟩;refine⟨_,_,.inr ((aT BT).tup Cl),aB (j:=0) rfl,_,_,.inr (.of aE),aB (j:=0) rfl,_,_,.inr (.of aE),aB (j:=2) rfl,?_⟩;exact⟨a,a2,b2,rfl,`l,`l,`l,ca,λc hc=>cb c (by rw[Fn];exact mem_append_right _ (mem_cons_of_mem _ hc)),λv H2 s2 hv=>k v H2 ((dl _).trans s2) hv⟩
  .rw[if_neg ad] at k;rw[show Txt.partition ⟨b.toArray⟩ ⟨#[125]⟩=_ from gs ad];refine⟨_,_,.inr (.of aE),aB (j:=1) rfl,ag.mpr ⟨_,rfl,ite2 (λ_=>k _ _ (dl _) .non) (λz=>absurd (decide_eq_true rfl) z)⟩⟩
 .have eg:rpcD t=.tuple [.str (ofString "step"),oD (und frS t)]:=by
   unfold rpcD;rw[if_neg hm]
  rw[eg] at k;rw[show Txt.partition ⟨t.toArray⟩ ⟨#[123]⟩=_ from gs hm];refine⟨_,_,.inr (.of aE),aB (j:=1) rfl,ag.mpr ⟨_,rfl,ite2 (λ_=>?_) (λz=>absurd (decide_eq_true rfl) z)⟩⟩;exact⟨l1,c1,λH1 s1=>⟨`d,λp2 H2 n2 s2 e2=>k _ _ ((sm _).trans (s1.trans s2)) (.tup e2 (.cons (.str _) (.cons (kU _) .nil)))⟩⟩
theorem Hl:g.rR.Ok P w base 6 (sp_meeting K):=by
 refine lnF jC ?_;rintro HB A mt s H vs Q E hr ⟨p,q,p',q',rfl,hp,ht,ad,BT,k⟩
 nomatch (aA (sx 2 jC.nd (ax (xE rfl) rfl g.rz.1 PyProof.Rows.boot_max (a8 `D (a8 `D a9))))
   (aA `D
   (aA `D
   (aA `D
   (aA (cmpS2 K [] [] 5 jC.nd (kD (K:=K) rfl rfl g.iN.1 (a8 (pv 3) (a8 (pv 4) a9))) bF (aQ g.rM (He g) hr rfl (a8 (pv 0) (a8 (pv 1) a9))))
   (aC `D)))))),jC.nd,wF,hint 10 0,g.iM,hint 2 0,g.bc,hint 1 293,g.cy,g.aX
 obtain⟨_,_,hq,_⟩:=id ht;obtain⟨_,_,Fr,_⟩:=id BT;fail "r";refine⟨_,_,.inr (.of hp),aB (j:=0) rfl,_,.inr (.of hq),_,_,.inr (.of ad),aB (j:=0) rfl,_,.inr (.of Fr),_,_,`R,?_⟩;refine⟨_,_,p,q,false,rfl,hp,ht,λr H1 s1 t1=>?_⟩;fail "r";refine⟨_,_,p',q',false,rfl,s1 _ _ ad,BT.mono s1.toT,λr' H2 s2 t2=>?_⟩;have dl:=s1.trans s2;fail "r";refine⟨_,_,.inr (.of (dl _ _ hp)),aB (j:=1) rfl,_,_,.inr (.of (dl _ _ ad)),aB (j:=1) rfl,?_⟩;fail "r";obtain⟨a,b,hr,ha,hb⟩:=t1.mono s2.toT;obtain⟨a',b',Cl,HA,GT⟩:=t2;refine⟨r,r',_,_,`R,.of hr,.of Cl,λl nl=>?_⟩;refine pI (zs:=[tV [97],tV [98]]) (.of hr) (.of Cl) (aF `d) nl rfl (λi x y z h1 h2 h3 H3 T s3 hT=>?_) (λH3 s3 hl=>?_)
 .fail "r";match i,h1,h2,h3 with
  |0,h1,h2,h3=>cases h1;cases h2;cases h3;exact⟨_,_,a,a',0,[97],rfl,s3 _ _ ha,s3 _ _ HA,⟨rfl,`d⟩,⟨rfl,`d⟩,rfl,⟨rfl,rfl,λj t z=>nomatch z⟩,hT⟩
  |1,h1,h2,h3=>cases h1;cases h2;cases h3;exact⟨_,_,b,b',1,[98],rfl,s3 _ _ hb,s3 _ _ GT,⟨rfl,`d⟩,⟨rfl,`d⟩,rfl,⟨rfl,rfl,λj t z e=>by cases Nat.lt_one_iff.mp z;cases e;rfl⟩,hT⟩
 refine⟨l,_,rfl,.inl (.of hl),rfl,rfl,_,rfl,ite2 `E (λ_=>?_)⟩;fail "r";have Fn:=dl.trans s3;exact⟨_,.inl (.of hl),λt H4 s4 ht=>⟨_,_,.inr (.of ((Fn.trans s4) _ _ hp)),aB (j:=1) rfl,`d,λp5 H5 n5 s5 GE=>k p5 t H5 ((Fn.trans s4).trans s5) GE (s5 _ _ ht)⟩⟩
theorem Hm:FnOk P w K mg base (CXN P w base) 6 g.eH.a g.eH.fd ["cursor"] (FI K g.aM g.aP):=by
 refine g.eH.F.okn G1 (λvs H Q E h=>?_) (λCl A mt s H vs Q E hr h=>?_)
 .obtain⟨p,t,i,rfl,_⟩:=h;rfl
 .obtain⟨p,t,i,rfl,ad,hi,hl,dl,k1,k2⟩:=h;refine⟨_,(aA (aK (aq (aS (aW (pv 0) g.aI g.be (bp g) (hr.mono `d) g.bd .nil pass0 (a8 aG a9))))
    (aC (aH bH)) aL)
   (aC (aH (aj (wK g) (hr.mono `d) rfl g.lE g.ij.kp g.sO .nil ah (a8 (pv 0) (a8 aG (a8 (glC g.rf) a9))))))),?_⟩
  have e1:ofString "//"=⟨[47,47].toArray⟩:=by fail "k"
  rw[e1];fail "r";refine ao ad ⟨p,t,[47,47],i,rfl,ad,hi,hl,λhp H1 s1 c1=>⟨_,rfl,?_⟩,λhp=>⟨_,rfl,?_⟩⟩
  .rw[if_neg `d];have h1:(t.drop i).take 2=[47,47]:=hp;have BT:i+2<=`t:=by
    have:=congrArg List.length h1;rw[length_take,length_drop] at this;simp only[length_cons,length_nil] at this;lia
   have em:houM (t.drop i)=sh 2 (mp some (filM [] (t.drop (i+2)) (some 60))):=by unfold houM;rw[if_pos h1,drop_drop]
   refine⟨p,t,[],i+2,some 60,rfl,c1,BT,hl,dl,`d,λs n e H2 s2 c2=>k1 (some s) (2+n) (by rw[em,e];rfl) H2 (s1.trans s2) (by rw[<- Nat.add_assoc];exact c2),λn e d H2 s2 hx=>k2 (2+n) (by rw[em,e];rfl) d H2 (s1.trans s2) (by rw[hx,Nat.add_assoc])⟩
  .rw[if_pos rfl];exact k1 none 0 (by unfold houM;exact if_neg hp) H (SameBut.refl _ _) ad
theorem Ho:FnOk P w K mg base (CXN P w base) 6 g.eI.a g.eI.fd ["cursor"] (FJ K g.aM g.aP):=by
 refine g.eI.F.okn jD (λvs H Q E h=>?_) (λHQ A HB s H vs Q E hr h=>?_)
 .obtain⟨p,t,i,rfl,_⟩:=h;rfl
 .obtain⟨p,t,i,rfl,mt,hi,hl,ad,k1,k2⟩:=h;refine⟨_,(aA (aK (aq (aS (aW (pv 0) g.aI g.be (bp g) (hr.mono `d) g.bd .nil pass0 (a8 aG a9))))
    (aC (aH bH)) aL)
   (aA (sx 1 jD.nd (aj (dvs:=[.non]) (eZ g) (hr.mono `d) rfl g.dB g.cN.kp g.eR (.cons rfl .nil) ah (a8 (pv 0) (a8 (glC g.iG) a9))))
   (aR (aK (ptm bK (pv 1) aG)
    (aC (aH (bG a9))) aL)
   (aR (sx 2 jD.nd (cJ (a8 (bG (a8 (pv 1) (a8 (aj (wJ g) (hr.mono `d) rfl g.bx.m g.bx.F.kp g.bx.b .nil ah (a8 (pv 0) a9)) a9))) a9)))
   (aA (eh PassesOwn.leaving (aS (aW (pv 0) g.aI g.be (bp g) (hr.mono `d) g.bd .nil pass0 (a8 aG a9)))
   (aA (sx 1 jD.nd (aj (dvs:=[.non]) (wK g) (hr.mono `d) rfl g.lE g.ij.kp g.sN (.cons rfl .nil) ah (a8 (pv 0) (a8 (glC g.iG) a9))))
   (aC (cE (am (K:=K) rfl PySem.F.plainAttrs_list PySem.F.slot_list_append PySem.F.type_list_append dL (pv 2) (a8 (bG (a8 (pv 1) (a8 (aj (wJ g) (hr.mono `d) rfl g.bx.m g.bx.F.kp g.bx.b .nil ah (a8 (pv 0) a9)) a9))) a9))))))
   (aC (aH (br (fC (K:=K) rfl) rfl g.bc.1 gV (a8 (pv 2) a9))))))))),?_⟩
  have eF:km=.str ⟨frQ.toArray⟩:=by show V.str (ofString _)=_;unfold frQ;simp
  have e1:ofString "?"=⟨[63].toArray⟩:=by fail "k"
  have e2:ofString "&"=⟨[38].toArray⟩:=by fail "k"
  rw[eF,e1,e2];have pl:∀{j c:Nat},(t.drop j).take [c].length=[c]->j+1<=`t:=λ{j c} hp=>by have:=congrArg List.length hp;rw[length_take,length_drop] at this;simp only[length_singleton] at this;lia
  have tl:∀{j n:Nat}{s fr:Tq},j<=`t->txtM fr (t.drop j) none=.ok (s,n)->j+n<=`t:=λ{j n s fr} hb e=>by have:=(bZ e).1;rw[length_drop] at this;lia
  have vl:∀{j n:Nat}{o:Option Tq},j<=`t->valM (t.drop j)=.ok (o,n)->j+n<=`t:=λ{j n o} hb e=>by have:=pR e;rw[length_drop] at this;lia
  fail "r";refine ao mt ⟨p,t,[63],i,rfl,mt,hi,hl,λhp H1 s1 c1=>⟨_,rfl,?_⟩,λhp=>⟨_,rfl,?_⟩⟩
  .rw[if_neg `d];have HL:=pl hp;have em:queM (t.drop i)=sh 1 (bdR (txtM frQ (t.drop (i+1)) none) λs n=>if s=[] then .ok (some [],0) else bdR (valM (t.drop (i+(1+n)))) λv m=>mp (λl=>some ((s,v)::l)) (prsF ((t.drop i).length+1) (t.drop (i+(1+n+m))))):=by
    unfold queM;rw[if_pos (take1.mp hp)];simp only[drop_drop]
   refine⟨p,t,frQ,i+1,none,rfl,c1,HL,hl,ad,k6,λs n e H2 s2 c2=>?_,λn e d H2 s2 hx=>k2 (1+n) (by rw[em,e];rfl) d H2 (s1.trans s2) (by rw[hx,Nat.add_assoc])⟩;have HA:=s1.trans s2;have HK:=tl HL e;by_cases hs:s=[]
   .refine⟨λ_ _=>False,?_,λ_ _ z=>z.elim⟩;rw[L2.ag,decide_eq_true (bS.mpr hs)];refine⟨_,rfl,?_⟩;rw[if_pos rfl];refine⟨`d,λpt Ha n1 sa BT=>k1 (some []) (1+n) ?_ Ha (HA.trans sa.but) (by rw[<- Nat.add_assoc];exact c2.same sa) _ (.tup BT .nil)⟩;rw[em,e];show sh 1 (sh n (if s=[] then _ else _))=_;rw[if_pos hs];rfl
   refine⟨λZ H'=>H'=H2/\Z=[some (.ref p),some (.str ⟨s.toArray⟩),none],?_,?_⟩
   .rw[L2.ag];refine⟨_,rfl,?_⟩;rw[if_neg (by rw[decide_eq_false (λz=>hs (bS.mp z))];decide)];exact⟨rfl,rfl⟩
   rintro Z H' ⟨rfl,rfl⟩;have HD:queM (t.drop i)=sh (1+n) (bdR (valM (t.drop (i+(1+n)))) λv m=>mp (λl=>some ((s,v)::l)) (prsF ((t.drop i).length+1) (t.drop (i+(1+n+m))))):=by rw[em,e];show sh 1 (sh n (if s=[] then _ else _))=_;rw[if_neg hs,fR]
   fail "r";obtain⟨W,hW⟩:∃W:Nat->St->Hp->Prop,W=λm Z H4=>∃(dn:List (Tq×Option Tq)) (b:Nat) (q:Addr) (v1:Option V) (vs:`V),Z=[some (.ref p),v1,some (.ref q)]/\Cur H4 g.aM p t (i+b)/\i+b<=`t/\dn.length<=b/\(t.drop (i+b)).length < m/\Via (queM (t.drop i)) b (λl=>some (dn++l)) (prsF m (t.drop (i+b)))/\H4 q=some (.lst vs)/\PrL H4 vs dn/\SameBut p H H4/\H q=none/\q≠p:=`o;refine⟨λZ H4=>∃m,W m Z H4,?_,?_⟩
   .refine⟨p,t,i+1+n,rfl,c2,HK,hl,ad,λo m e' H3 s3 c3=>⟨`d,λp1 Ha n1 sa BT=>⟨`d,λq Hb nq sb hq=>⟨(t.drop i).length+1,?_⟩⟩⟩,λm e' d H3 s3 hx=>k2 (1+n+m) (by rw[HD,<- Nat.add_assoc,e'];rfl) d H3 (HA.trans s3) (by rw[hx,show i+1+n+m=i+(1+n+m) by lia])⟩;rw[hW];have hi3:=vl HK e';have dl:q≠p:=by obtain⟨dx,hp⟩:=c3.same sa;exact (aJ hp nq).symm
    have GT:SameBut p H Ha:=(HA.trans s3).trans sa.but;have hk:=(bZ e).2.2 hs;refine⟨[(s,o)],1+n+m,q,_,_,rfl,by rw[show i+(1+n+m)=i+1+n+m by lia];exact (c3.same sa).same sb,`l,by show 1<=_;lia,by simp only[length_drop];lia,?_,hq,⟨rfl,λi' a' y z1 z2=>?_⟩,GT.trans sb.but,GT.free nq dl,dl⟩
    .show _=sh _ (mp _ _);rw[HD,<- Nat.add_assoc,e'];show sh (1+n) (sh m (mp _ _))=_;rw[fR];rfl
    .cases i' with
     |zero=>cases z1;cases z2;exact .tup (sb _ _ BT) (.cons (.str _) (.cons (ci _) .nil))
     |succ j=>cases z1
   rintro Z H4 ⟨m,hm⟩;unfold L2.Later;rw[L2.jU];refine fA W m hm ?_;rintro m Z H5 hm;rw[hW] at hm;obtain⟨dn,b,q,v1,vs,rfl,c5,HG,HP,HM,Cl,Fr,GE,Fn,HC,dl⟩:=hm;have HN:dn.length<=100000:=by lia
   obtain⟨m',rfl⟩:∃m',m=m'+1:=⟨m - 1,`l⟩;fail "r";refine ao c5 ⟨p,t,[38],i+b,rfl,c5,HG,hl,λhp H6 s6 c6=>⟨_,rfl,?_⟩,λhp=>⟨_,rfl,?_⟩⟩
   .rw[if_pos rfl];have HJ:=pl hp;have ep:prsF (m'+1) (t.drop (i+b))=sh 1 (bdR (filM frQ (t.drop (i+b+1)) none) λs n=>bdR (valM (t.drop (i+b+(1+n)))) λv m=>mp (λl=>(s,v)::l) (prsF m' (t.drop (i+b+(1+n+m))))):=by
     conv=>lhs;unfold prsF
     rw[if_pos (take1.mp hp)];simp only[drop_drop]
    refine⟨_,λ_ _ h=>h,p,t,frQ,i+b+1,none,rfl,c6,HJ,hl,ad,k6,λs2 n2 e6 H7 s7 c7=>⟨⟨_,.of ((s6.trans s7) _ _ dl Fr)⟩,?_⟩,λn2 e6 d H7 s7 hx=>k2 (b+(1+n2)) (Cl.err (by rw[ep,e6];rfl)) d H7 ((Fn.trans s6).trans s7) (by rw[hx,show i+b+1+n2=i+(b+(1+n2)) by lia])⟩;have HI:=tl HJ (fW e6).1;have hk2:=(bZ (fW e6).1).2.2 (fW e6).2;refine⟨p,t,i+b+1+n2,rfl,c7,HI,hl,ad,λo2 k3 e7 H8 s8 c8=>⟨`d,λp1 Ha n1 sa BT=>⟨vs,sa _ _ (((s6.trans s7).trans s8) _ _ dl Fr),?_,m',Nat.lt_succ_self _,?_⟩⟩,λk3 e7 d H8 s8 hx=>k2 (b+(1+(n2+k3))) (Cl.err ?_) d H8 (((Fn.trans s6).trans s7).trans s8) (by rw[hx,show i+b+1+n2+k3=i+(b+(1+(n2+k3))) by lia])⟩
    .rw[GE.1];exact Nat.lt_of_le_of_lt HN `d
    .rw[hW];have hi8:=vl HI e7;have HE:Ha q=some (.lst vs):=sa _ _ (((s6.trans s7).trans s8) _ _ dl Fr);refine⟨dn++[(s2,o2)],b+(1+n2+k3),q,_,_,rfl,?_,`l,by rw[length_append,length_singleton];lia,by rw[length_drop] at HM ⊢;lia,?_,aE,?_,?_,HC,dl⟩
     .obtain⟨dx,hp⟩:=c8.same sa;exact⟨dx,by rw[aD dl.symm,show i+(b+(1+n2+k3))=i+b+1+n2+k3 by lia];exact hp⟩
     .have:=Cl.step (a:=1+n2+k3) (g:=λl=>(s2,o2)::l) (r':=prsF m' (t.drop (i+b+(1+n2+k3)))) (by
       rw[ep,e6];show sh 1 (sh n2 (bdR _ _))=_;rw[show i+b+(1+n2)=i+b+1+n2 by lia,e7];show sh 1 (sh n2 (sh k3 _))=_;rw[fR,fR])
      rw[Nat.add_assoc i b] at this;simpa using this
     .refine PrL.mono (PrL.snoc ((((GE.mono (c5.toT s6)).mono (c6.toT s7)).mono (c7.toT s8)).mono sa.toT) ?_) (ja HE);exact .tup BT (.cons (.str _) (.cons (ci _) .nil))
     .exact ((((Fn.trans s6).trans s7).trans s8).trans sa.but).upd HC
    .rw[ep,e6];show sh 1 (sh n2 (bdR _ _))=_;rw[show i+b+(1+n2)=i+b+1+n2 by lia,e7];rfl
   .rw[if_neg `d];have ep:prsF (m'+1) (t.drop (i+b))=.ok ([],0):=by
     unfold prsF;rw[if_neg (λz=>hp (take1.mpr z))]
    have e3:=Cl.ok ep;rw[append_nil] at e3;refine⟨vs,.inl (.of Fr),λl Ha sa HF=>k1 (some dn) b e3 Ha (Fn.trans sa.but) (c5.same sa) _ ?_⟩;exact .tup HF (oi (g:=pD) GE.1 λi' a' y z1 z2=>(GE.2 i' a' y z1 z2).mono sa.toT)
  .rw[if_pos rfl];exact k1 none 0 (by unfold queM;rw[if_neg (λz=>hp (take1.mpr z))]) H (SameBut.refl _ _) mt _ .non
theorem Hq:FnOk P w K mg base (CXN P w base) 7 g.eJ.a g.eJ.fd ["text"] (FK K g.aZ):=by
 refine g.eJ.F.okn jE (λvs H Q E h=>?_) (λFr A dl s H vs Q E hr h=>?_)
 .obtain⟨t,o,rfl,_⟩:=h;rfl
 .obtain⟨t,o,rfl,hv,he,k⟩:=h;refine⟨_,(aA (aK (PW.pt (bD (aq (aS (ax gS rfl g.b4.1 bX (a8 (pv 0) (a8 (gL (v:=.ty "str") rfl g.c0.1 jS rfl) a9))))) (bJ (aq (aS (am (K:=K) rfl PySem.F.plainAttrs_str PySem.F.slot_str_startswith PySem.F.type_str_startswith D4 (pv 0) (a8 aG a9)))))))
    (aC (ck raisesN rfl g.j5 g.lP rfl)) aL)
   (aA (sx 1 jE.nd (am (K:=K) rfl PySem.F.plainAttrs_str PySem.F.slot_str_split PySem.F.type_str_split qA (bf (gW (K:=K) rfl) (pv 0) (bW aY) bt) (a8 aG a9)))
   (aA (sx 2 jE.nd (pcm bK (px K (pv 1) (jK jL aY)) aG))
   (aA (sx 3 jE.nd (br (fC (K:=K) rfl) rfl g.bc.1 gV (a8 (cmp1 [] [] (bh (K:=K) rfl (bQ (aS (pv 2)) (bf (nE (K:=K) rfl) (pv 1) bt (bW (jK jL aY))) (pv 1))) bF (aQ g.rQ (Hk g) hr rfl (a8 (pv 0) a9))) a9)))
   (aA (aK (aq (aS (aQ g.rP (Hj g) hr rfl (a8 (bG (a8 (pv 3) (a8 (pv 2) a9))) a9))))
    (aC (ck raisesN rfl g.j5 g.lP rfl)) aL)
   (aC (aH (bG (a8 (pv 3) (a8 (pv 2) a9)))))))))),?_⟩
  have b1:ofString "/"=⟨[47].toArray⟩:=by fail "k"
  rw[b1];fail "r";refine⟨_,_,_,_,rfl,.str _,bg K "str" `d "str" `d,_,rfl,ite2 `E (λ_=>?_)⟩;have Y:(∃ts,TsOk ts/\t=47::joinT 47 ts/\(patD (rptD ts)=false->∀H',Same H H'->E (.ref g.aZ) none H')/\(patD (rptD ts)=true->∀(v:V) (H':Hp),Same H H'->IsT H' (rptD ts) v->Q v H'))\/(t.take 1≠[47]/\∀H',Same H H'->E (.ref g.aZ) none H'):=by
   cases hv with
   |no h=>exact .inr ⟨h,he rfl⟩
   |bad h p=>exact .inl ⟨_,h,rfl,λ_=>he rfl,λz=>by rw[p] at z;cases z⟩
   |yes h p d=>exact .inl ⟨_,h,rfl,λz=>(by rw[p] at z;cases z),λ_ v H' s hv=>by rw[d] at hv;obtain⟨q,rfl,hq⟩:=Eg hv;exact k _ _ rfl q H' s hq⟩
  clear hv he k;rcases Y with⟨ts,⟨h0,hf,hl,hc⟩,rfl,he,k⟩|⟨ht,he⟩;rotate_left
  .exact ite2 (λ_=>he H `r) (λz=>absurd z (λy=>y ht))
  fail "r";have hj:(joinT 47 ts).length<=70100:=by have:=(DG 47 700 (ws:=ts) λt ht=>(hc t ht).1).1;have:ts.length * 701<=100 * 701:=Nat.mul_le_mul_right _ hl;lia
  refine ite2 `a (λ_=>⟨aF `l,`l,λpt nt=>?_⟩);rw[show Txt.split ⟨(joinT 47 ts).toArray⟩ ⟨#[47]⟩=ts.map mkS from qI hf h0,map_map];have s1:∀o,Same H (upd H pt o):=λo=>aT nt;generalize hH:upd H pt _=H1;have s1:Same H H1:=hH▸s1 _;have ad:SqL K H1 pt (ts.map tV):=hH▸.of aE;obtain⟨tl,mt⟩:∃tl,ts.getLast?=some tl:=⟨_,List.getLast?_eq_some_getLast h0⟩;have eE:rptE ts=decide (mkS tl=⟨#[]⟩):=by unfold rptE;rw[mt,decide_eq_decide,bS];exact⟨λz=>by cases z;rfl,λz=>by rw[z]⟩
  refine⟨_,_,.inl ad,jw tV mt,ag.mpr ⟨_,rfl,?_⟩⟩;rw[<- eE];have hL:(rptL ts).length<=ts.length/\∀t∈rptL ts,t∈ts:=by
   unfold rptL;split
   .exact⟨by rw[length_dropLast];lia,λt ht=>List.dropLast_subset _ ht⟩
   .exact⟨Nat.le_refl _,λt ht=>ht⟩
  have F:∀(pl:Addr) (ys:`V) (H3:Hp),Same H H3->H3 pl=some (.lst ys)->IsTAll H3 ((rptL ts).map rpcD) ys->rTupleS K [.ref pl] H3 λx H1=>2<=sizeLine/\∀(p:Addr) (H':Hp),H1 p=none->Same H1 H'->H' p=some (HO.tup [x,V.bl (rptE ts)])->sp_is_pattern K [V.ref p] H' (λBT H'=>∃k,BT=V.bl k/\if k=false then E (.ref g.aZ) none H' else 2<=sizeLine/\∀(p:Addr) (H'_1:Hp),H' p=none->Same H' H'_1->H'_1 p=some (HO.tup [x,V.bl (rptE ts)])->Q (V.ref p) H'_1) E0:=λpl ys H3 s3 e3 i3=>by have Fn:=i3.length;rw[length_map] at Fn;refine⟨pl,ys,rfl,.inl (.of e3),λp4 H4 s4 e4=>⟨`d,λp5 H5 n5 s5 e5=>?_⟩⟩;have u5:=s3.trans (s4.trans s5);have i5:IsT H5 (rptD ts) (.ref p5):=.tup e5 (.cons (.tup (s5 _ _ e4) (i3.mono (s4.trans s5).toT)) (.cons (.bl _) .nil));exact⟨_,_,rfl,i5.is,DD `l (λt ht=>by have:=(hc t ht).1;lia),λH6 s6=>⟨_,rfl,ite2 (λz=>he z _ (u5.trans s6)) (λz=>⟨`d,λp7 H7 n7 s7 e7=>k (by simpa using z) _ _ (u5.trans (s6.trans s7)) (.tup e7 (.cons (.tup ((s5.trans (s6.trans s7)) _ _ e4) (i3.mono (s4.trans (s5.trans (s6.trans s7))).toT)) (.cons (.bl _) .nil)))⟩)⟩⟩
  have W:∀(pa:Addr) (H2:Hp),Same H H2->SqL K H2 pa ((rptL ts).map tV)->∀p,H2 p=none->∀Zb:VK,(∀(pl:Addr) (ys:`V) (H3:Hp),Same H H3->H3 pl=some (.lst ys)->IsTAll H3 ((rptL ts).map rpcD) ys->Zb (.ref pl) H3)->CompI (Itl K pa) p [] tYes (tCall (sp_read_piece K) [] E0 (tCons (tVar 0) tNil)) Zb H2:=λpa H2 s2 h2 p np Zb hZ=>by
   refine nA h2 (aF (by rw[length_map];lia)) np (λx y H'=>∀t,x=tV t->IsT H' (rpcD t) y) (λx y Ha Hb sm h t et=>(h t et).mono sm) (λx hx H3 T s3 hT=>?_) (λys H3 s3 hA e3=>hZ p ys H3 (s2.trans s3) e3 ?_)
   .obtain⟨t,ht,rfl⟩:=mem_map.mp hx;obtain⟨c1,c2⟩:=hc t (hL.2 t ht);fail "r";exact⟨t,rfl,`l,c2,λv H4 s4 hv=>hT v H4 s4 λt' et=>by cases ac.mp (V.str.inj et);exact hv⟩
   .have Cl:∀(l:List Tq) (ys:`V),All2 (λx y H'=>∀t,x=tV t->IsT H' (rpcD t) y) H3 (l.map tV) ys->IsTAll H3 (l.map rpcD) ys:=λl=>by
     induction l with
     |nil=>intro ys h;cases h;exact .nil
     |cons a l ih=>
      intro ys h;cases h with
      |cons h1 h2=>exact .cons (h1 a rfl) (ih _ h2)
    exact Cl _ _ hA
  refine ite2 (λhE=>⟨_,ad,λp2 H2 n2 s2 e2=>?_⟩) (λhE=>?_)
  .have eL:cutV (ts.map tV) none (some (-1))=(rptL ts).map tV:=by
    rw[qL];unfold rptL;rw[if_pos hE];exact List.map_dropLast.symm
   rw[eL] at e2;exact⟨⟨_,.of e2⟩,λp np=>W p2 H2 (s1.trans s2) (.of e2) p np _ F⟩
  .have eL:ts=rptL ts:=by
    unfold rptL;rw[if_neg hE]
   exact⟨⟨_,ad⟩,λp np=>W pt H1 s1 (eL▸ad) p np _ F⟩
theorem wM:FnOk P w K mg base (CXN P w base) 7 g.bz.a g.bz.fd ["text"] (FL K g.aP):=by
 refine g.bz.F.okn cS (λvs H Q E h=>?_) (λHR A HC s H vs Q E hr h=>?_)
 .obtain⟨v,rfl,_⟩:=h;rfl
 .obtain⟨v,rfl,h⟩:=h;refine⟨_,(aA (aK (aq (aS (ax gS rfl g.b4.1 bX (a8 (pv 0) (a8 (gL (v:=.ty "str") rfl g.c0.1 jS rfl) a9)))))
    (aC (df de rfl g.cP g.dD (eY g) (hr.mono `d) g.dA rfl pass0 rfl (a8 aY a9))) aL)
   (aA (sx 1 cS.nd (mJ g.sk (Gf g) (hr.mono `d) rfl g.sj g.sD .nil pass0 (a8 (pv 0) a9)))
   (aA (sx 2 cS.nd (aQ g.rK (GW g) hr rfl (a8 (pv 1) a9)))
   (aA (sx 3 cS.nd (aj (Hm g) (hr.mono `d) rfl g.eH.m g.eH.F.kp g.eH.b .nil ah (a8 (pv 1) a9)))
   (aR (sx 4 cS.nd (bQ (ptm f8 (pv 3) bH) bH (aj (GM g) (hr.mono `d) rfl g.dy.m g.dy.F.kp g.dy.b .nil ah (a8 (pv 1) a9))))
   (aR (sx 5 cS.nd (aj (Hf g) (hr.mono `d) rfl g.eC.m g.eC.F.kp g.eC.b .nil ah (a8 (pv 1) (a8 (gM (pcm bE (pv 2) aG) (cV (pcm mr (pv 3) bH))) a9))))
   (aA (sx 6 cS.nd (aj (Ho g) (hr.mono `d) rfl g.eI.m g.eI.F.kp g.eI.b .nil ah (a8 (pv 1) a9)))
   (aA (sx 7 cS.nd (aj (Hg g) (hr.mono `d) rfl g.eG.m g.eG.F.kp g.eG.b .nil ah (a8 (pv 1) a9)))
   (aA (aK (aq (aS (cY (pv 1) g.aI g.lG (w6 g) (hr.mono `d) g.lD .nil pass0)))
    (aC (df de rfl g.cP g.dD (eY g) (hr.mono `d) g.dA rfl pass0 rfl (a8 (au (pv 1) rfl) a9))) aL)
   (aC (aH (bG (a8 (pv 2) (a8 (pv 3) (a8 (pv 4) (a8 (pv 5) (a8 (pv 6) (a8 (pv 7) a9)))))))))))))))))),?_⟩
  fail "r";rcases h with⟨ty,HI,GE,kE⟩|⟨t,rfl,hl,mt,k1,k2⟩
  .refine⟨_,_,_,_,rfl,HI,GE,?_⟩;refine⟨_,rfl,?_⟩;rw[if_pos rfl];exact cC λd H' sm hx=>kE d H' sm hx
  refine⟨_,_,_,_,rfl,.str _,bg K "str" `d "str" `d,?_⟩;refine⟨_,rfl,?_⟩;rw[if_neg `d];intro p dx hp HN HQ;have HF:SameBut p H (upd (upd H dx (.own p)) p (.ins g.aM dx [])):=λb o n e=>by rw[aD n,aD (aJ e HN)];exact e
  refine⟨p,dx,t,rfl,aE,λH1 s1 c1=>⟨rfl,?_⟩⟩;have HP:=HF.trans s1;have Cl:`t<=100000:=by lia
  refine⟨p,t,rfl,c1,hl,λH2 s2 c2=>?_⟩;have HE:=HP.trans s2;refine⟨p,t,schP t,rfl,c2,pW t,Cl,mt,λh n1 e1 H3 s3 c3=>?_,λn e d H3 s3 hx=>k2 _ (CF e) d H3 ((HE.trans s3).same hp) hx⟩;have HB:=HE.trans s3;have HM:schP t+n1<=`t:=by have:=CK e1;have:=pW t;rw[length_drop] at *;lia
  refine⟨λZ H4=>SameBut p H H4/\∃d n2,dorM h (t.drop (schP t+n1))=.ok (d,n2)/\Cur H4 g.aM p t (schP t+n1+n2)/\Z=[some (.str ⟨t.toArray⟩),some (.ref p),some (.str ⟨(schM t).toArray⟩),some (otV h),some (itV d),none,none,none],?_,?_⟩
  .cases hho:h with
   |none=>rw[if_pos (show otV none=V.non from rfl)];exact⟨HB,none,0,by unfold dorM;rw[if_pos rfl],c3,rfl⟩
   |some l=>
    rw[if_neg (by simp[otV])];have ed:dorM (some l) (t.drop (schP t+n1))=dooM (t.drop (schP t+n1)):=by unfold dorM;rw[if_neg `s]
    rw[hho] at e1;exact⟨p,t,schP t+n1,rfl,c3,HM,Cl,mt,λd n2 e2 H4 s4 c4=>⟨HB.trans s4,d,n2,ed.trans e2,c4,rfl⟩,λn e d H4 s4 hx=>k2 _ (CG e1 (ed.trans e)) d H4 ((HB.trans s4).same hp) hx⟩
  rintro Z H4 ⟨HA,d,n2,e2,c4,rfl⟩;have HL:schP t+n1+n2<=`t:=by have:=(CL e2).1;rw[length_drop] at this;lia
  fail "r";obtain⟨dl,ad⟩:∃b:Bool,b=decide (schM t≠[]\/h≠none):=`o;have Fn:∀(b:Bool) (Q':VK),b=dl->(∀w n3,wayM dl (t.drop (schP t+n1+n2))=.ok (w,n3)->∀u H5,SameBut p H H5->Cur H5 g.aM p t (schP t+n1+n2+n3)->IsT H5 (wayOf w) u->Q' u H5)->uN K g.aM g.aP [V.ref p,V.bl b] H4 Q' E:=λb Q' hb hk=>
   ⟨p,t,schP t+n1+n2,dl,by rw[hb],c4,HL,Cl,mt,λw n3 e3 H5 s5 c5 u hu=>hk w n3 e3 u H5 (HA.trans s5) c5 hu,λn e d H5 s5 hx=>k2 _ (CH e1 e2 (by rw[<- ad];exact e)) d H5 ((HA.trans s5).same hp) hx⟩
  refine⟨λZ H5=>∃w n3 u,wayM dl (t.drop (schP t+n1+n2))=.ok (w,n3)/\SameBut p H H5/\Cur H5 g.aM p t (schP t+n1+n2+n3)/\IsT H5 (wayOf w) u/\Z=[some (.str ⟨t.toArray⟩),some (.ref p),some (.str ⟨(schM t).toArray⟩),some (otV h),some (itV d),some u,none,none],?_,?_⟩
  .refine ite2 (λz=>?_) (λz=>?_)
   .have hm:dl=true:=by rw[ad];exact decide_eq_true (.inl λe=>z (by rw[e]))
    exact Fn true _ hm.symm (λw n3 e3 u H5 sb c hu=>⟨w,n3,u,e3,sb,c,hu,rfl⟩)
   .have hs:schM t=[]:=bS.mp (Classical.not_not.mp z);have hm:dl=!decide (otV h=V.non):=by
     rw[ad];cases h with
     |none=>simp[hs,otV]
     |some l=>simp[otV]
    exact Fn _ _ hm.symm (λw n3 e3 u H5 sb c hu=>⟨w,n3,u,e3,sb,c,hu,rfl⟩)
  rintro Z H5 ⟨w,n3,u,e3,Fr,c5,hu,rfl⟩;have GT:=e3;rw[ad] at GT;have HK:schP t+n1+n2+n3<=`t:=by have:=(CM e3).1;rw[length_drop] at this;lia
  fail "r";refine⟨p,t,schP t+n1+n2+n3,rfl,c5,HK,Cl,mt,λq n4 e4 H6 s6 c6 uq HG=>?_,λn e d H6 s6 hx=>k2 _ (CI e1 e2 GT e) d H6 ((Fr.trans s6).same hp) hx⟩;have HJ:schP t+n1+n2+n3+n4<=`t:=by have:=(CO e4).1;rw[length_drop] at this;lia
  refine⟨p,t,schP t+n1+n2+n3+n4,rfl,c6,HJ,Cl,mt,λm n5 e5 H7 s7 c7=>?_,λn e d H7 s7 hx=>k2 _ (CJ e1 e2 GT e4 e) d H7 (((Fr.trans s6).trans s7).same hp) hx⟩;have er:=pQ e1 e2 GT e4 e5;have HD:=(Fr.trans s6).trans s7;refine ao c7 ⟨p,t,_,rfl,c7,Cl,_,rfl,?_⟩;by_cases BT:schP t+n1+n2+n3+n4+n5=`t
  .rw[decide_eq_true BT,if_neg `d];rw[if_pos BT] at er;refine⟨`d,λpr H8 _ s8 h8=>k1 _ er _ H8 ((HD.same hp).trans s8) ?_⟩;exact adT h8 ((((hu.mono (c5.toT s6)).mono (c6.toT s7))).mono s8.toT) ((HG.mono (c6.toT s7)).mono s8.toT)
  .rw[decide_eq_false BT,if_pos rfl];rw[if_neg BT] at er;exact b9 c7 g.aI g.ar (cC λd H' sm hx=>k2 _ er d H' ((HD.trans sm.but).same hp) hx)
theorem Hr:FnOk P w K mg base (CXN P w base) 7 g.ik g.il ["self","one","other"] (uO K g.aO g.af):=by
 refine g.sP.okn vp (λvs H Q E h=>?_) (λCl A ad s H vs Q E hr h=>?_)
 .obtain⟨p,x,T,l,a,b,rfl,_⟩:=h;rfl
 .obtain⟨p,x,T,l,a,b,rfl,hd,h⟩:=h;refine⟨_,(aA (sx 3 vp.nd (aQ g.rR (Hl g) hr rfl (a8 (aj (wA g) (hr.mono `d) rfl g.bw.m g.bw.F.kp g.bw.b .nil ah (a8 (au (pv 0) rfl) (a8 (pv 1) a9))) (a8 (aj (wA g) (hr.mono `d) rfl g.bw.m g.bw.F.kp g.bw.b .nil ah (a8 (au (pv 0) rfl) (a8 (pv 2) a9))) a9))))
   (aC (aH (bQ (ptm f8 (pv 3) bH) aG (aQ g.rD (wG g) hr rfl (a8 (pv 3) a9)))))),?_⟩
  obtain⟨dx,v0,ws,hp,BT,hl,hT⟩:=id hd;fail "r";refine dq hp g.aU g.cA ⟨l,T,ws,a,rfl,hl,hT,λt ht p1 H1 s1 h1=>dq (s1 _ _ hp) g.aU g.cA ⟨l,T,ws,b,rfl,s1 _ _ hl,hT.mono s1.toT,λu hu p2 H2 s2 h2=>?_,λhu H2 s2=>?_⟩,λht H1 s1=>?_⟩;rotate_left
  .rcases h with⟨_,he⟩|⟨_,h4,_⟩
   .exact he H2 (s1.trans s2)
   .exact nomatch hu.symm.trans h4
  .rcases h with⟨_,he⟩|⟨h4,_⟩
   .exact he H1 s1
   .exact nomatch ht.symm.trans h4
  rcases h with⟨h3|h3,_⟩|⟨h3,h4,k⟩
  .exact nomatch ht.symm.trans h3
  .exact nomatch hu.symm.trans h3
  cases ht.symm.trans h3;cases hu.symm.trans h4;obtain⟨q1,a1,a2⟩:=du (h1.mono s2.toT);obtain⟨q2,b1,b2⟩:=du h2;refine⟨p1,q1,p2,q2,rfl,a1,a2,b1,b2,λr z H3 s3 mt dl=>ite2 `E (λ_=>⟨true,false,[[97],[98]],r,z,rfl,.of mt,.of dl,`d,`d,`d,λH4 s4=>?_⟩)⟩;exact k H4 (((s1.trans s2).trans s3).trans s4)
theorem Hs:FnOk P w K mg base (CXN P w base) 8 g.io g.ip ["self","text"] (FM K g.aO g.aP):=by
 refine g.sR.okn vq (λvs H Q E h=>?_) (λHB A mt s H vs Q E hr h=>?_)
 .obtain⟨p,dx,t,x,rfl,_⟩:=h;rfl
 .obtain⟨p,dx,t,x,rfl,hp,hl,ad,hx,wx,hs,Cl,k⟩:=h;refine⟨_,(aA (sx 2 vq.nd (aj (wM g) (hr.mono `d) rfl g.bz.m g.bz.F.kp g.bz.b .nil ah (a8 (pv 1) a9)))
   (aA (aK (aq (aS (aQ g.qr (lf g) hr rfl (a8 (pv 2) a9))))
    (aC lz) aL)
   (aA (eu (pv 0) (aQ g.kt (wL g) hr rfl (a8 (pv 2) a9)) rfl)
   (aC (eu (pv 0) (cJ a9) rfl))))),?_⟩
  fail "r";refine⟨_,rfl,.inr ⟨t,rfl,hl,ad,λy e u H1 s1 hu=>?_,λk' e=>by rw[hx] at e;cases e⟩⟩;rw[hx] at e;cases e;obtain⟨pu,uw,uq,rfl,Fn,GT,HA⟩:=B7 hu;refine⟨pu,x.scheme,_,rfl,.inl (.inl Fn),true,by rw[decide_eq_false hs];rfl,?_⟩;rw[if_neg `d];refine⟨x,_,rfl,hu.k,wx,wx.roo (.inl hs),Cl,λv H2 s2 hv=>?_⟩;have GE:=s2 _ _ (s1 _ _ hp);refine⟨p,_,dx,_,rfl,GE,g.aU,g.cO,by show 0 < 1000;decide,`d,λl H3 n3 s3 e3=>?_⟩;have BT:=s3 _ _ (aE (H:=H2) (a:=p) (o:=.ins g.aO dx (putF (ofString "address") v [])));refine⟨p,_,dx,_,rfl,BT,g.aU,g.cA,by show 1 < 1000;decide,?_⟩;have dl:SameBut p H2 H3:=b8.trans s3.but;refine k _ l ?_ ((((s1.trans s2).but).trans dl).trans b8) ⟨dx,v,[],?_,IsK.but b8 BT (IsK.but dl GE hv),?_,.nil⟩
  .have Fr:l≠p:=λz=>by rw[z,aE] at n3;cases n3
   rw[aD Fr] at n3;exact Wm.Same.free (s1.trans s2) n3
  .have h:ofString "address" ≠ ofString "table" := by fail "k"
   rw[aE];simp only[putF,if_neg h]
  .rw[aD (bU e3 BT (by intro z;cases z))];exact e3
theorem wN:FnOk P w K mg base (CXN P w base) 8 g.iq g.ir ["self","text"] (FN K g.aO g.aP):=by
 refine g.sU.okn G2 (λvs H Q E h=>?_) (λBT A dl s H vs Q E hr h=>?_)
 .obtain⟨p,b,t,rfl,_⟩:=h;rfl
 .obtain⟨p,b,t,rfl,hd,gb,hl,ad,h⟩:=h;refine⟨_,(aC (aH (aQ g.kt (wL g) hr rfl (a8 (aQ g.rN (Hh g) hr rfl (a8 (au (pv 0) rfl) (a8 (aj (wM g) (hr.mono `d) rfl g.bz.m g.bz.F.kp g.bz.b .nil ah (a8 (pv 1) a9)) a9))) a9)))),?_⟩;fail "r";refine fb hd g.aU g.cO λv hv=>?_;rcases h with⟨n,hn,he⟩|⟨x,hx,wx,tx,rx,lx,k⟩
  .exact⟨_,rfl,.inr ⟨t,rfl,hl,ad,(λx e=>by rw[hn] at e;cases e),λk' e d H1 s1 hx=>by rw[hn] at e;cases e;exact he d H1 s1 hx⟩⟩
  refine⟨_,rfl,.inr ⟨t,rfl,hl,ad,λy e u H1 s1 hu=>?_,λk' e=>by rw[hx] at e;cases e⟩⟩;rw[hx] at e;cases e;have gw:=kZ gb wx tx lx rx;refine⟨b,x,v,u,rfl,hv.mono s1,hu.k,gb.sc,wx,rx,`l,λw H2 s2 mt=>⟨_,w,rfl,mt,qc gw.wf gw.rt,gw.rt,by have:=qd (whX b x);have:=gw.ln;lia,λu2 H3 s3 h3=>k u2 H3 (s1.trans (s2.trans s3)) ?_⟩⟩;rw[E9] at h3;exact h3
theorem Ht:FnOk P w K mg base (CXN P w base) 8 g.iu g.iw ["self","name","text"] (uP K g.aO g.aZ g.af):=by
 refine g.sW.okn G3 (λvs H Q E h=>?_) (λHE A Cl s H vs Q E hr h=>?_)
 .obtain⟨p,x,T,l,n,t,rfl,_⟩:=h;rfl
 .obtain⟨p,x,T,l,n,t,rfl,hd,Fr,HD,h⟩:=h;refine⟨_,(aA (aK (PW.pt (bD (aq (aS (aQ g.r8 (wE g) hr rfl (a8 (pv 1) a9)))) (bJ (aq (aS (aQ g.r9 (Gw g) hr rfl (a8 (au (pv 0) rfl) (a8 (pv 1) a9))))))))
    (aC (ck raisesN rfl g.j6 g.lO rfl)) aL)
   (aA (eu (pv 0) (aQ g.rA (Gx g) hr rfl (a8 (au (pv 0) rfl) (a8 (pv 1) (a8 (aj (Hq g) (hr.mono `d) rfl g.eJ.m g.eJ.F.kp g.eJ.b .nil ah (a8 (pv 2) a9)) a9)))) rfl)
   (aC (aH aG)))),?_⟩
  obtain⟨dx,v0,ws,hp,GT,hl,hT⟩:=id hd;have hwl:=hT.length;fail "r";refine⟨st n,_,rfl,.str _,fZ `l,λH1 s1=>⟨_,rfl,?_⟩⟩;rcases h with⟨hb,he⟩|⟨hn,hm,o,ho,he,k⟩
  .exact ite2 (λ_=>he H1 s1) (λhn=>dq (s1 _ _ hp) g.aU g.cA ⟨l,T,ws,n,rfl,s1 _ _ hl,hT.mono s1.toT,Fr,λH2 s2=>⟨_,rfl,ite2 (λ_=>he H2 (s1.trans s2)) (λz=>absurd (hb.resolve_left hn) z)⟩⟩)
  refine ite2 (λz=>by rw[hn] at z;cases z) (λ_=>dq (s1 _ _ hp) g.aU g.cA ⟨l,T,ws,n,rfl,s1 _ _ hl,hT.mono s1.toT,Fr,λH2 s2=>⟨_,rfl,ite2 (λz=>by rw[hm] at z;cases z) (λ_=>?_)⟩⟩);have BT:=s1.trans s2;refine dq (BT _ _ hp) g.aU g.cA ⟨t,o,rfl,ho,λz H' s=>he z H' (BT.trans s),λcs e HB pt H3 s3 HA=>?_⟩;have ad:=BT.trans s3;refine⟨l,pt,T,ws,(n,cs,e),rfl,ad _ _ hl,hT.mono ad.toT,`l,HA,λl' GE H4 nl s4 Fn HC=>?_⟩;have mt:=ad.trans s4;have dl:=mt _ _ hp;refine⟨p,_,dx,_,rfl,dl,g.aU,g.cA,by show 2 < 1000;decide,?_⟩;rw[show ofString "ok"=mkS wOk by fail "k"];refine k (cs,e) HB _ l' (Wm.Same.free ad nl) (mt.but.trans b8) ⟨dx,v0,GE,by rw[aE];exact congrArg (λz=>some (HO.ins g.aO dx z)) DW,Wm.IsK.but b8 dl (GT.mono mt),?_,HC.mono (sb_T b8 dl)⟩;rw[aD (bU Fn dl (by intro z;cases z))];exact Fn
theorem Hu:FnOk P w K mg base (CXN P w base) 9 g.iy g.iz ["self","text"] (uQ K g.aO g.aP):=by
 refine g.sY.okn G4 (λvs H Q E h=>?_) (λCl A dl s H vs Q E hr h=>?_)
 .obtain⟨p,b,t,T,l,rfl,_⟩:=h;rfl
 .obtain⟨p,b,t,T,l,rfl,hd,gb,hl,ad,h⟩:=h;refine⟨_,(aA (eu (pv 0) (aW (pv 0) g.aU g.lH (wN g) (hr.mono `d) g.lF .nil ah (a8 (pv 1) a9)) rfl)
   (aC (aH (aQ g.iE (jH g) hr rfl (a8 (au (pv 0) rfl) a9))))),?_⟩
  fail "r";rcases h with⟨n,hn,he⟩|⟨x,hx,wx,tx,rx,lx,k⟩
  .exact az hd.dsk ⟨p,b,t,rfl,hd.dsk,gb.le `d,hl,ad,.inl ⟨n,hn,he⟩⟩
  refine az hd.dsk ⟨p,b,t,rfl,hd.dsk,gb.le `d,hl,ad,.inr ⟨x,hx,wx,tx,rx,`l,λu H1 s1 hu=>?_⟩⟩;have gx:GoodAd 150 (goX b x):=kY (kZ gb wx tx lx rx);obtain⟨dx,v0,ws,hp,BT,mt,hT⟩:=hd.same s1;have d2:=DS hp hu;have t2:DsT K (upd H1 p (.ins g.aO dx (putF (ofString "address") u [("address",v0),("table",.ref l)]))) g.aO p (goX b x) T l:=
   ⟨dx,u,ws,by rw[aE];exact congrArg (λz=>some (HO.ins g.aO dx z)) qV,Wm.IsK.but b8 hp hu,by rw[aD (bU mt hp (by intro z;cases z))];exact mt,hT.mono (sb_T b8 hp)⟩
  refine⟨p,_,dx,_,rfl,hp,g.aU,g.cO,by show 2 < 1000;decide,fb d2 g.aU g.cO λv hv=>?_⟩;exact⟨_,v,rfl,hv,gx.wf,gx.ti.sz gx.wf (by have:=gx.ln;lia),λH3 s3=>k H3 ((s1.but.trans b8).trans s3.but) (t2.same s3)⟩
theorem bT:FnOk P w K mg base (CXN P w base) 10 g.j0 g.j1 ["self","row"] (eV K g.aO g.aP g.aZ g.af g.ak):=by
 refine g.si.okn vt (λvs H Q E h=>?_) (λHJ A mt s H vs Q E hr h=>?_)
 .obtain⟨p,b,T,l,v,rfl,_⟩:=h;rfl
 .obtain⟨p,b,T,l,v,rfl,hd,gb,h⟩:=h;refine⟨_,(aA (sx 2 vt.nd (aj (Gm g) (hr.mono `d) rfl g.dv.m g.dv.F.kp g.dv.b .nil ah (a8 (pv 1) a9)))
   (aA (aK (ptm bK (px K (pv 2) aY) aG)
    (aC (aH (aQ g.iE (jH g) hr rfl (a8 (au (pv 0) rfl) a9)))) aL)
   (aA (aK (ptm bK (px K (pv 2) aY) aG)
    (aC (aH (aW (pv 0) g.aU g.sv (Hu g) (hr.mono `d) g.sZ .nil ah (a8 (px K (pv 2) aY) a9)))) aL)
   (aA (aK (ptm bK (px K (pv 2) aY) aG)
    (aC (aH (aQ g.iE (jH g) hr rfl (a8 (aQ g.r0 (Gi g) hr rfl (a8 (au (pv 0) rfl) (a8 (aW (pv 0) g.aU g.lH (wN g) (hr.mono `d) g.lF .nil ah (a8 (px K (pv 2) aY) a9)) a9))) a9)))) aL)
   (aA (aK (ptm bK (px K (pv 2) aY) aG)
    (aC (aH (aW (pv 0) g.aU g.su (Ht g) (hr.mono `d) g.sX .nil ah (a8 (px K (pv 2) aY) (a8 (px K (pv 2) aY) a9))))) aL)
   (aA (aK (ptm bK (px K (pv 2) aY) aG)
    (aC (aH (aQ g.rL (GY g) hr rfl (a8 (aQ g.rO (Hi g) hr rfl (a8 (au (pv 0) rfl) (a8 (px K (au (pv 0) rfl) (glC g.eM)) a9))) a9)))) aL)
   (aC (aH (aW (pv 0) g.aU g.sr (Hr g) (hr.mono `d) g.sQ .nil ah (a8 (px K (pv 2) aY) (a8 (px K (pv 2) aY) a9))))))))))),?_⟩
  have e1:ofString "at"=mkS wAt:=by fail "k"
  have e2:ofString "go"=mkS wGo:=by fail "k"
  have e3:ofString "link"=mkS wLink:=by fail "k"
  have e4:ofString "add"=mkS wAdd:=by fail "k"
  have e5:ofString "lead"=mkS wLead:=by fail "k"
  rw[e1,e2,e3,e4,e5];fail "r";rcases h with⟨hb,he⟩|⟨row,ws,rfl,GT,hm,h⟩
  .rcases hb with⟨ty,h1,h2⟩|⟨row,rfl,h1,h2⟩
   .exact⟨v,rfl,.inl ⟨ty,h1,h2,he⟩⟩
   .exact⟨_,rfl,.inr ⟨row,rfl,h1,λ_=>he,λws z=>by rw[h2] at z;cases z⟩⟩
  refine⟨_,rfl,.inr ⟨row,rfl,GT,(λz=>by rw[hm] at z;cases z),λHF z lw H1 s1 ad=>?_⟩⟩;cases hm.symm.trans z;have ix:∀{H1:Hp}{l:Addr}{xs:`V}{i:Int}{v:V}{R:VK},H1 l=some (.lst xs)->atI xs i=some v->R v H1->rIy K (.ref l) (.int i) H1 R:=λh a r=>⟨_,_,.inl (.of h),a,r⟩;have no:∀{H1:Hp}{l:Addr}{a:Tq}{xs:`V}{b:Str}{R:VK},H1 l=some (.lst (tV a::xs))->R (.bl (decide (mkS a=b))) H1->rIy K (.ref l) (.int 0) H1 λx H1=>rEq x (.str b) H1 R:=λh r=>ix h dY (ag.mpr r);have d1:=hd.same s1;have lb:=gb.ln;rcases h with⟨rfl,k⟩|⟨t,rfl,k⟩|⟨t,n,rfl,Fr,dl,hn,he⟩|⟨n,t,rfl,k⟩|⟨n,m,rfl,k⟩|⟨rfl,HA,GE,HD,n,L,hf,hL,hG,HE,HC,k⟩
  .exact no ad ⟨true,`k,fb d1.dsk g.aU g.cO λv hv=>⟨b,v,rfl,hv,gb.wf,gb.ti.sz gb.wf `l,λH2 s2=>k H2 (s1.trans s2)⟩⟩
  .exact no ad ⟨false,`k,no ad ⟨true,`k,az d1.dsk (ix ad (aB (j:=1) rfl) (k H1 s1))⟩⟩
  .exact no ad ⟨false,`k,no ad ⟨false,`k,no ad ⟨true,`k,fb d1.dsk g.aU g.cO λv hv=>az d1.dsk (ix ad (aB (j:=1) rfl) ⟨p,b,t,rfl,d1.dsk,gb.le `d,Fr,dl,.inl ⟨n,hn,λd H' s hx=>he d H' (s1.trans s) hx⟩⟩)⟩⟩⟩
  .exact no ad ⟨false,`k,no ad ⟨false,`k,no ad ⟨false,`k,no ad ⟨true,`k,az d1.dsk (ix ad (aB (j:=1) rfl) (ix ad (aB (j:=2) rfl) (k H1 s1)))⟩⟩⟩⟩
  .exact no ad ⟨false,`k,no ad ⟨false,`k,no ad ⟨false,`k,no ad ⟨false,`k,no ad ⟨false,`k,az d1.dsk (ix ad (aB (j:=1) rfl) (ix ad (aB (j:=2) rfl) (k H1 s1)))⟩⟩⟩⟩⟩
  .refine no ad ⟨false,`k,no ad ⟨false,`k,no ad ⟨false,`k,no ad ⟨false,`k,no ad ⟨true,`k,?_⟩⟩⟩⟩⟩;obtain⟨dx,v0,ws,hp,HG,hl,hT⟩:=id d1;refine dq hp g.aU g.cA (fb d1.dsk g.aU g.cO λv hv=>?_);obtain⟨pu,uw,uq,rfl,HB,Fn,HI⟩:=bu hv;fail "r";refine⟨_,_,.inr HB,aB (j:=3) rfl,?_⟩;obtain⟨pw,ps,rfl,BT,Cl⟩:=gi Fn;rw[HA,HD] at BT;rw[GE] at Cl;exact⟨l,pw,ps,T,ws,n,L,rfl,hl,hT,hG,HE,BT,Cl,hf,hL,λp2 l' v r H2 s2 h1 h2 h3 h4=>⟨p2,l',v,r,n,rfl,h1,h2,h3,h4,HC,λH3 s3=>k H3 (s1.trans (s2.trans s3))⟩⟩
theorem Hv:g.Fs.Ok P w base 11 (sp__law_kind K g.aO g.aP g.aZ g.af g.ak):=by
 refine lnF eW ?_;rintro mt A ad s H vs Q E hr ⟨p,b,v,i,rfl,hd,hi,hk,k⟩
 nomatch (aA `D
   (aR (Cv (i:=3) (CS (pv 0) g.aU g.bP (bT g) (hr.mono `d) g.bO (a8 (pv 1) a9) (λ_ _ h=>h)) rfl rfl rfl g.tE g.tF eW.nd rfl rfl (λ_=>(aC (sx 2 eW.nd (pv 3)))))
   (aA `D
   (aR (aK (PW.pt (bD (aq (aS (ax (cq (K:=K) rfl) rfl g.b4.1 bX (a8 (pv 2) (a8 `D a9))))) (bD (aS (ax (cq (K:=K) rfl) rfl g.b4.1 bX (a8 (pv 2) (a8 (bC (v:=.ref g.cR) rfl g.tD rfl) a9)))) (bJ (aS (ax (cq (K:=K) rfl) rfl g.b4.1 bX (a8 (pv 2) (a8 (bC (v:=.ref g.cQ) rfl g.t9 rfl) a9))))))))
    `D aL)
   (aA (sx 4 eW.nd (cJ (a8 (ax (cq (K:=K) rfl) rfl g.b4.1 bX (a8 (pv 2) (a8 (bC (v:=.ref g.ak) rfl g.gF rfl) a9))) (a8 (ax (cq (K:=K) rfl) rfl g.b4.1 bX (a8 (pv 2) (a8 (bC (v:=.ref g.af) rfl g.j6 rfl) a9))) a9))))
   (aR (sx 4 eW.nd (ai (bM (K:=K)) (pv 4) (cJ (a8 (ax (cq (K:=K) rfl) rfl g.b4.1 bX (a8 (pv 2) (a8 (bC (v:=.ref g.aP) rfl g.cP rfl) a9))) (a8 (ax (cq (K:=K) rfl) rfl g.b4.1 bX (a8 (pv 2) (a8 (bC (v:=.ref g.aZ) rfl g.j5 rfl) a9))) a9)))))
   (aA (aK (ptm bE (am (K:=K) rfl PySem.F.plainAttrs_list PySem.F.slot_list_count PySem.F.type_list_count E2 (pv 4) (a8 dF a9)) aY)
    `D aL)
   (aC (aH (px K `D (am (K:=K) rfl PySem.F.plainAttrs_list PySem.F.slot_list_index PySem.F.type_list_index E3 (pv 4) (a8 dF a9)))))))))))),eW.nd,hint 2 0,g.sA
 fail "r";refine⟨λZ H1=>Same H H1/\Ex3 λ(a C:Addr) (d:Option Addr)=>Z=[some (.ref p),some v,some (.ref a),none,none]/\H1 a=some (exC a C d)/\KnC K g.cR g.cQ g.ak g.af g.aP g.aZ C i,?_,?_⟩
 .refine az hd (hk _ _ ?_);match i,hi with
  |0,_=>exact λH1 s1=>⟨_,rfl,g.tM,λa ha=>⟨s1.trans (aT ha),a,_,_,rfl,aE,⟨g.tH,g.tQ,g.tU,g.tf,g.tw,g.u6,g.uA,g.uE⟩⟩⟩
  |1,_=>exact λH1 s1=>⟨_,rfl,g.tN,λa ha=>⟨s1.trans (aT ha),a,_,_,rfl,aE,⟨g.tI,g.tR,g.tW,g.tj,g.u0,g.u7,g.uB,g.uF⟩⟩⟩
  |2,_=>exact λk d H1 s1 hx=>⟨_,rfl,g.tL,λa ha=>⟨s1.trans (aT ha),a,_,_,rfl,aE,⟨g.tG,g.tP,g.tT,g.tZ,g.tq,g.u4,g.u9,g.uD⟩⟩⟩
  |3,_=>exact λH1 s1=>⟨_,rfl,g.tO,λa ha=>⟨s1.trans (aT ha),a,_,_,rfl,aE,⟨g.tJ,g.tS,g.tX,g.tm,g.u3,g.u8,g.uC,g.uG⟩⟩⟩
 rintro Z H1 ⟨s1,a,C,d,rfl,ha,kc⟩;fail "r";refine⟨λZ H2=>H2=H1/\Z=[some (.ref p),some v,some (.ref a),none,none],⟨_,_,true,ha,kc.l,.ty kc.v,ite2 `E (λ_=>⟨_,_,false,ha,kc.l,.cls kc.b,ite2 `E (λ_=>⟨_,_,false,ha,kc.l,.cls kc.w,ite2 `E (λ_=>`R)⟩)⟩)⟩,?_⟩;rintro Z H2 ⟨rfl,rfl⟩;fail "r";refine⟨_,_,_,ha,kc.l,.cls kc.r,_,_,_,ha,kc.l,.cls kc.n,`d,λq H3 n3 s3 e3=>?_⟩;have dl:=s3 _ _ ha;refine⟨λZ H4=>Same H3 H4/\∃r:Addr,Z=[some (.ref p),some v,some (.ref a),none,some (.ref r)]/\H4 r=some (.lst ((kdB i).map V.bl)),⟨_,_,_,dl,kc.l,.cls kc.a,_,_,_,dl,kc.l,.cls kc.p,`d,λq4 H4 n4 s4 e4=>?_⟩,?_⟩
 .exact .inl ⟨_,_,s4 _ _ e3,e4,aF (show 4<=100000 by decide),λr H5 n5 s5 e5=>⟨s4.trans s5,r,rfl,e5⟩⟩
 rintro Z H4 ⟨s4,r,rfl,e4⟩;fail "r";obtain⟨b1,b2,b3⟩:=Ei i hi;refine⟨⟨_,.of e4⟩,kdB i,e4,ite2 (λz=>absurd (by rw[b1];rfl) z) (λ_=>⟨`d,λq5 H5 n5 s5 e5=>⟨⟨_,.of (s5 _ _ e4)⟩,kdB i,i,s5 _ _ e4,show 4 < 1000 by decide,b2,b3,?_⟩⟩)⟩;refine⟨_,tV (kdW i),.inl (.of e5),aB ?_,k H5 (s1.trans (s3.trans (s4.trans s5)))⟩;have e:∀i,i < 4->[ofString "row",ofString "name",ofString "address",ofString "pattern"][i]?=some (mkS (kdW i)):=by fail "k"
 rw[show [V.str (ofString "row"),V.str (ofString "name"),V.str (ofString "address"),V.str (ofString "pattern")]=[ofString "row",ofString "name",ofString "address",ofString "pattern"].map V.str from rfl,List.getElem?_map,e i hi];rfl
theorem Hw:g.f_law.Ok P w base 12 (sp_law K):=by
 refine lnF eX ?_;rintro Ix A HS s H vs Q E hr ⟨a,ns,rfl,hS,hn,k⟩
 nomatch (aR `D
   (aR `D
   (aR (sx 3 eX.nd (mJ g.sq (Hs g) (hr.mono `d) rfl g.so g.sS .nil passes0N (a8 `D a9)))
   (aR (aK (PW.pt (bD (ptm bE (aW (pv 3) g.aU g.bP (bT g) (hr.mono `d) g.bO .nil passes0N (a8 `D a9)) aG) (bJ (ptm bE (aW (pv 3) g.aU g.bP (bT g) (hr.mono `d) g.bO .nil passes0N (a8 `D a9)) aG))))
    `D aL)
   (aR (sx 4 eX.nd (aW (pv 3) g.aU g.bP (bT g) (hr.mono `d) g.bO .nil passes0N (a8 aG a9)))
   (aR (cG PassesOwn.never rfl (bh (K:=K) rfl `D) (pgn 5 eX.nd)
   (aA `D
   (aA (aK (PW.pt (bD `D (bJ (ptm bE (aW (pv 3) g.aU g.bP (bT g) (hr.mono `d) g.bO .nil passes0N (a8 aG a9)) (pv 4)))))
    `D aL)
   (aC (aK (ptm bE (aW (pv 3) g.aU g.bP (bT g) (hr.mono `d) g.bO .nil passes0N (a8 `D a9)) aG)
    `D aL)))))
   (aR (cG PassesOwn.never rfl (dJ rfl g.cz.1 (a8 aY a9)) (pgn 8 eX.nd)
   (aC (aK (ptm bE (aW (pv 3) g.aU g.bP (bT g) (hr.mono `d) g.bO .nil passes0N (a8 `D a9)) aG)
    `D aL)))
   (aR `D
   (aR (aK (PW.pt (bD (ptm bE (aW (pv 3) g.aU g.bP (bT g) (hr.mono `d) g.bO .nil passes0N (a8 aG a9)) (pv 4)) (bJ (aq (aS (ax ms rfl g.b4.1 bX (a8 (aW (pv 3) g.aU g.bP (bT g) (hr.mono `d) g.bO .nil passes0N (a8 aG a9)) (a8 `D a9))))))))
    `D aL)
   (aR (aK (PW.pt (bD (ptm bE (aW (pv 3) g.aU g.bP (bT g) (hr.mono `d) g.bO .nil passes0N (a8 aG a9)) `D) (bJ (ptm bE (aW (pv 3) g.aU g.bP (bT g) (hr.mono `d) g.bO .nil passes0N (a8 `D a9)) (pv 4)))))
    `D aL)
   (aC (aH (dI (pcm bK (aW (pv 3) g.aU g.bP (bT g) (hr.mono `d) g.bO .nil passes0N (a8 `D a9)) aG) (cV (pcm bK (aW (pv 3) g.aU g.bP (bT g) (hr.mono `d) g.bO .nil passes0N (a8 aG a9)) (pv 4)))))))))))))))),eX.nd,wC,Hv,Gq,Gy,GQ,jH,Go,Gn,hint 2 0,g.c0,hint 4 0
 have HR:∀x:Ad,x.Wf->readM x.shw=.ok x:=λx wf=>D1 (BV wf).v wf;fail "r";refine⟨λZ H1=>Same H H1/\Ex2 λ(pn:Addr) (nm:List Tq)=>Z=[some (.ref a),some (.ref pn),none,none,none,none,none,none,none]/\H1 pn=some (.lst (nm.map tV))/\nm.length=20/\(∀n∈nm,NmOk n)/\nm.Nodup,⟨a,ns,0,rfl,hS,_,20,rfl,`d,λnm p H1 hl ok nd s1 e1=>⟨s1,p,nm,rfl,e1,hl,λn h=>⟨⟨(ok n h).1,(ok n h).2.1⟩,(ok n h).2.2⟩,nd⟩⟩,?_⟩;rintro Z H1 ⟨s1,pn,nm,rfl,Ih,nl,BT,nd⟩;fail "r";refine⟨λZ H2=>Same H H2/\H2 pn=some (.lst (nm.map tV))/\∃gg:Tq,Z=[some (.ref a),some (.ref pn),some (tV gg),none,none,none,none,none,none]/\0 < gg.length/\gg.length<=5/\∀c∈gg,isSg c=true,⟨a,ns,1,rfl,s1.seq hS,_,rfl,λgg H2 h1 h2 h3 s2=>⟨s1.trans s2,s2 _ _ Ih,gg,rfl,h1,h2,h3⟩⟩,?_⟩;rintro Z H2 ⟨s2,HK,gg,rfl,Il,Iw,Ik⟩;fail "r";refine⟨λZ H3=>SqL K H3 a (ns.map V.int)/\H3 pn=some (.lst (nm.map tV))/\Ex3 λ(pd l:Addr) (b:Ad)=>Z=[some (.ref a),some (.ref pn),some (tV gg),some (.ref pd),none,none,none,none,none]/\GoodAd 3 b/\plR b=b/\DsT K H3 g.aO pd b [] l,?_,?_⟩
 .refine⟨a,ns,2,7,rfl,s2.seq hS,`d,λis pc H3 Ii s3 e3=>⟨pc,is,gg,true,rfl,e3,Ii,Il,`l,Ik,λx u H4 ok ti ln sc s4 hu=>?_⟩⟩;have Ib:=ti.sz ok.wf `l;refine⟨x,u,rfl,hu.k,ok.wf,Ib,λH5 s5 p dx np Ig ne=>⟨p,dx,x.shw,x,rfl,aE,Ib.all,p0 ok.wf,HR x ok.wf,ok.wf,sc rfl,`l,λH6 l Iq s6 d6=>?_⟩⟩;have Ic:=s3.trans (s4.trans (s5.trans (((DQ Ig).trans s6).same np)));exact⟨rfl,(s2.trans Ic).seq hS,Ic _ _ HK,p,l,plR x,rfl,kY ⟨ok.wf,ti,sc rfl,`l⟩,Ea x,d6⟩
 rintro Z H3 ⟨Ia,GT,pd,l,b,rfl,gb,pb,d3⟩;obtain⟨n0,n1,n2,n3,nr,rfl⟩:=qf (show 4<=nm.length by lia);have HV:=BT n0 `s;have HU:=BT n1 `s;have l0:=HV.1.2;have l1:=HU.1.2;have HI:∀{H1:Hp}{T:List Rw}{l:Addr}{n t:Tq}{c:List Pc×Bool}{R:VK}{E:XK},DsT K H1 g.aO pd b T l->T.length<=16->NmOk n->(decide (T.length < 16) || T.any λt=>decide (t.1=n))=true->`t<=100->PtIn t (some c)->(∀(H2:Hp) (l2:Addr),H1 l2=none->SameBut pd H1 H2->DsT K H2 g.aO pd b (putR T (n,c)) l2->R (tV wOk) H2)->eV K g.aO g.aP g.aZ g.af g.ak [.ref pd,.str (mkS (wAdd++[32]++n++32::t))] H1 R E:=λ{H1 T l n t c R E} dd hT ok hm ht pt hR=>by
  have ln:=ok.1.2;refine⟨pd,b,T,l,_,rfl,dd,gb.le `d,.inr ⟨_,[wAdd,n,t],rfl,?_,?_,.inr (.inr (.inr (.inl ⟨n,t,rfl,λH2 s2=>⟨pd,b,T,l,n,t,rfl,dd.same s2,hT,`l,.inr ⟨nm_D ok,hm,some c,pt,(λz=>nomatch z),λc' e H3 l3 n3 s3 d3=>?_⟩⟩⟩)))⟩⟩
  .simp only[length_append,length_cons,length_nil,wAdd];lia
  .rw[show wAdd++[32]++n++32::t=wAdd++32::(n++32::t) by simp];exact kf (bN ok) (bV ok)
  .cases e;exact hR H3 l3 (Wm.Same.free s2 n3) (s2.but.trans s3) d3
 have eA:ofString "add "=mkS (wAdd++[32]):=by fail "k"
 have eO:ofString "ok"=mkS wOk:=by fail "k"
 rw[eA,eO,show ofString " /a/{n}"=mkS ([32]++[47,97,47,123,110,125]) by fail "k",show ofString " /{n}/b"=mkS ([32]++[47,123,110,125,47,98]) by fail "k"];fail "r";refine⟨λZ H4=>SqL K H4 a (ns.map V.int)/\H4 pn=some (.lst ((n0::n1::n2::n3::nr).map tV))/\∃l:Addr,Z=[some (.ref a),some (.ref pn),some (tV gg),some (.ref pd),none,none,none,none,none]/\DsT K H4 g.aO pd b [(n0,pA),(n1,pB)] l,?_,?_⟩
 .refine az d3.dsk ⟨_,_,.inl (.of GT),dY,catS `d `l (catS (by simp only[length_append,length_cons,length_nil,wAdd];lia) `d ?_)⟩;refine HI (n:=n0) (t:=[47,97,47,123,110,125]) d3 `d HV rfl `d pt_A λH4 l4 n4 s4 d4=>bR.mpr ⟨_,rfl,ite2 (λz=>absurd z `s) (λ_=>?_)⟩;rw[ka `s] at d4;have Fn:=d3.keepL s4 GT;refine az d4.dsk ⟨_,_,.inl (.of Fn),aB (j:=1) rfl,catS `d `l (catS (by simp only[length_append,length_cons,length_nil,wAdd];lia) `d ?_)⟩;refine HI (n:=n1) (t:=[47,123,110,125,47,98]) d4 (by show 1<=16;decide) HU rfl `d pt_B λH5 l5 n5 s5 d5=>bR.mpr ⟨_,rfl,ite2 (λz=>absurd z `s) (λ_=>?_)⟩;rw[ka (show n1∉[n0] from λz=>by simp only[nodup_cons,mem_cons,not_or] at nd;exact nd.1.1 (mem_singleton.mp z).symm)] at d5;exact⟨d4.keepS s5 (d3.keepS s4 Ia),d4.keepL s5 Fn,l5,rfl,d5⟩
 rintro Z H4 ⟨HZ,Fn,l,rfl,d4⟩;have eT:ofString "at"=mkS wAt:=by fail "k"
 have HG:∀{H1:Hp}{T:List Rw}{l:Addr}{R:VK}{E:XK},DsT K H1 g.aO pd b T l->(∀H2:Hp,Same H1 H2->R (tV b.shw) H2)->eV K g.aO g.aP g.aZ g.af g.ak [.ref pd,.str (mkS wAt)] H1 R E:=λ{H1 T l R E} dd hR=>⟨pd,b,T,l,_,rfl,dd,gb.le `d,.inr ⟨wAt,[wAt],rfl,`d,`k,.inl ⟨rfl,hR⟩⟩⟩;rw[eT];fail "r";refine⟨λZ H5=>SqL K H5 a (ns.map V.int)/\H5 pn=some (.lst ((n0::n1::n2::n3::nr).map tV))/\∃l:Addr,Z=[some (.ref a),some (.ref pn),some (tV gg),some (.ref pd),some (tV b.shw),none,none,none,none]/\DsT K H5 g.aO pd b [(n0,pA),(n1,pB)] l,az d4.dsk (HG d4 λH5 s5=>⟨s5.seq HZ,s5 _ _ Fn,l,rfl,d4.same s5⟩),?_⟩;clear HZ Fn d4 Ia GT d3;rintro Z H5 ⟨HL,GE,l,rfl,d5⟩;fail "r";refine⟨λZ H6=>SqL K H6 a (ns.map V.int)/\H6 pn=some (.lst ((n0::n1::n2::n3::nr).map tV))/\Ex4 λ(l:Addr) (v5 v6 v7:Option V)=>Z=[some (.ref a),some (.ref pn),some (tV gg),some (.ref pd),some (tV b.shw),v5,v6,v7,none]/\DsT K H6 g.aO pd b [(n0,pA),(n1,pB)] l,?_,?_⟩
 .obtain⟨cs,ec,lc⟩:=Ew ns (some 10) (some 26);refine⟨_,HL,λq1 Ha na sa ea=>⟨`d,λq2 Hb nb sb eb=>.inl ⟨_,_,sb _ _ ea,eb,aF (by rw[ec,length_map];show cs.length+4<=_;lia),λq Hc nc sc HN=>⟨q,rfl,⟨_,.of HN⟩,?_⟩⟩⟩⟩;rw[ec,show [V.int 0,V.int 1,V.int 2,V.int 3]=[0,1,2,3].map V.int from rfl,<- map_append] at HN;have Im:=sa.trans (sb.trans sc);refine f9 (xs:=(cs++[0,1,2,3]).map V.int) (λi Z H'=>Same H5 H'/\H' q=some (.lst ((cs++[0,1,2,3]).map V.int))/\Ex3 λ(v5 v6 v7:Option V)=>Z=[some (.ref a),some (.ref pn),some (tV gg),some (.ref pd),some (tV b.shw),v5,v6,v7,none]) ⟨Im,HN,none,none,none,rfl⟩ (λi Z H' _ h=>.of h.2.1) ?_ ?_
  .rintro i x Z H6 hx ⟨s6,e6,v5,v6,v7,rfl⟩;rw[List.getElem?_map] at hx;obtain⟨z,hz,rfl⟩:=Option.map_eq_some_iff.mp hx;have Cl:=s6 _ _ GE;have d6:=d5.same s6;rw[show ofString "both "=mkS (wBoth++[32]) by fail "k",show ofString " "=mkS [32] by fail "k",show ofString "/a/b"=mkS wAB by fail "k"];fail "r";refine⟨pn,n0::n1::n2::n3::nr,z,rfl,Cl,`l,BT,nd,λr v i H7 s7 e7 hi rd=>⟨r,_,rfl,.of e7,rfl,_,_,rfl,_,_,rfl,rfl,?_⟩⟩;have d7:=d6.same s7;refine⟨pd,b,v,i,rfl,d7.dsk,hi,λR E hE=>?_,λH8 s8=>bR.mpr ⟨_,rfl,ite2 (λz=>absurd z `s) (λ_=>?_)⟩⟩
   .refine⟨pd,b,_,l,v,rfl,d7,gb.le `d,?_⟩;cases rd with
    |ty h=>exact .inl ⟨.inl ⟨_,(h.ty K).1,(h.ty K).2⟩,hE⟩
    |row ll h=>exact .inl ⟨.inr ⟨_,rfl,ll,h⟩,hE⟩
    |nam ll h nb nz=>exact .inr ⟨_,_,rfl,ll,h,.inr (.inr (.inr (.inl ⟨_,_,rfl,λH8 s8=>⟨pd,b,_,l,_,_,rfl,d7.same s8,by show 2<=16;decide,nz,.inl ⟨.inl nb,λH9 s9=>hE H9 (s8.trans s9)⟩⟩⟩)))⟩
    |two ll h c=>exact .inr ⟨_,_,rfl,ll,h,.inr (.inr (.inr (.inr (.inl ⟨_,_,rfl,λH8 s8=>⟨pd,b,_,l,_,_,rfl,d7.same s8,.inl ⟨c.imp qi qi,λH9 s9=>hE H9 (s8.trans s9)⟩⟩⟩))))⟩
    |adr ll h e tz tc tr=>
     rcases e with rfl|rfl
     .exact .inr ⟨_,_,rfl,ll,h,.inr (.inl ⟨_,rfl,λH8 s8=>⟨pd,b,_,_,l,rfl,d7.same s8,gb.le `d,tz,tc,.inl ⟨_,tr,λd H9 s9 hx=>hE _ d H9 (s8.trans s9) hx⟩⟩⟩)⟩
     .exact .inr ⟨_,_,rfl,ll,h,.inr (.inr (.inl ⟨_,_,rfl,tz,tc,tr,hE _⟩))⟩
    |pat ll h m p=>exact .inr ⟨_,_,rfl,ll,h,.inr (.inr (.inr (.inl ⟨_,_,rfl,λH8 s8=>⟨pd,b,_,l,_,_,rfl,d7.same s8,by show 2<=16;decide,by have:=(BT _ m).1.2;lia,.inr ⟨nm_D (BT _ m),rfl,none,p,λ_ H9 s9=>hE H9 (s8.trans s9),λc z=>nomatch z⟩⟩⟩)))⟩
   have d8:=d7.same s8;refine az d8.dsk (HG d8 λH9 s9=>bR.mpr ⟨_,rfl,ite2 (λz=>absurd z `s) (λ_=>?_)⟩);have d9:=d8.same s9;have HQ:=s7.trans (s8.trans s9);have mt:=HQ _ _ Cl;refine az d9.dsk ⟨_,_,.inl (.of mt),dY,catS (by simp only[length_append,length_cons,length_nil,wBoth];lia) `l (catS (by simp only[length_append,length_cons,length_nil,wBoth];lia) `d ⟨_,_,.inl (.of mt),aB (j:=1) rfl,catS (by simp only[length_append,length_cons,length_nil,wBoth];lia) `l ?_⟩)⟩;refine⟨pd,b,_,l,_,rfl,d9,gb.le `d,.inr ⟨_,_,rfl,by simp only[length_append,length_cons,length_nil,wBoth];lia,Ex HV HU,.inr (.inr (.inr (.inr (.inl ⟨_,_,rfl,λH10 dl=>⟨pd,b,_,l,_,_,rfl,d9.same dl,.inr ⟨?_,?_,λH11 HB=>bR.mpr ⟨_,rfl,ite2 (λz=>absurd z `s) (λ_=>?_)⟩⟩⟩⟩))))⟩⟩
   .simp[fdR]
   .simp only[nodup_cons,mem_cons,not_or] at nd;simp[fdR,nd.1.1]
   .have s:=s6.trans (HQ.trans (dl.trans HB));exact⟨s,(HQ.trans (dl.trans HB)) _ _ e6,_,_,_,rfl,rfl,rfl⟩
  .rintro Z H6 ⟨s6,e6,v5,v6,v7,rfl⟩;exact⟨s6.seq HL,s6 _ _ GE,l,v5,v6,v7,rfl,d5.same s6⟩
 clear HL GE d5;rintro Z H6 ⟨HY,Cl,l,v5,v6,v7,rfl,d6⟩;rw[show ofString " /x/{rest:rest}/"=mkS ([32]++[47,120,47,123,114,101,115,116,58,114,101,115,116,125,47]) by fail "k"];fail "r";refine⟨λZ H7=>SqL K H7 a (ns.map V.int)/\H7 pn=some (.lst ((n0::n1::n2::n3::nr).map tV))/\Ex2 λ(l:Addr) (v8:Option V)=>Z=[some (.ref a),some (.ref pn),some (tV gg),some (.ref pd),some (tV b.shw),v5,v6,v7,v8]/\DsT K H7 g.aO pd b (tbX (n0::n1::n2::n3::nr) 14) l,⟨`d,`d,?_⟩,?_⟩
 .refine cZ (λi Z H'=>SqL K H' a (ns.map V.int)/\H' pn=some (.lst ((n0::n1::n2::n3::nr).map tV))/\Ex2 λ(l:Addr) (v8:Option V)=>Z=[some (.ref a),some (.ref pn),some (tV gg),some (.ref pd),some (tV b.shw),v5,v6,v7,v8]/\DsT K H' g.aO pd b (tbX (n0::n1::n2::n3::nr) i) l) ⟨HY,Cl,l,none,rfl,d6⟩ ?_ ?_;rotate_left
  .rintro Z H7 ⟨HC,ad,l7,v8,rfl,d7⟩;exact⟨HC,ad,l7,v8,rfl,d7⟩
  rintro i Z H7 hi ⟨HC,ad,l7,v8,rfl,d7⟩;have Ij:i < 14:=hi;obtain⟨x,hx⟩:∃x,(n0::n1::n2::n3::nr)[2+i]?=some x:=⟨_,List.getElem?_eq_getElem `l⟩;have HJ:=BT x (mem_of_getElem? hx);have lx:=HJ.1.2;have Iu:=kj (nm:=(n0::n1::n2::n3::nr)) (i:=i) `l;fail "r";rw[show (2+(0+(i:Int)))=((2+i:Nat):Int) by lia];refine az d7.dsk ⟨_,_,.inl (.of ad),aB (show ((n0::n1::n2::n3::nr).map tV)[2+i]?=some (tV x) by rw[List.getElem?_map,hx];rfl),catS `d `l (catS (by simp only[length_append,length_cons,length_nil,wAdd];lia) `d ?_)⟩;exact HI (n:=x) (t:=[47,120,47,123,114,101,115,116,58,114,101,115,116,125,47]) d7 `l HJ (by rw[Iu,decide_eq_true (show 2+i < 16 by lia)];rfl) `d pt_X λH8 l8 n8 s8 d8=>bR.mpr ⟨_,rfl,ite2 (λz=>absurd z `s) (λ_=>⟨d7.keepS s8 HC,d7.keepL s8 ad,l8,_,rfl,by rw[<- Ey nd hx];exact d8⟩)⟩
 clear HY Cl d6;rintro Z H7 ⟨HC,ad,l,v8,rfl,d7⟩;rw[show ofString " /a"=mkS [32,47,97] by fail "k",show ofString " a"=mkS [32,97] by fail "k",show ofString "name"=mkS (kdW 1) by fail "k"];fail "r";obtain⟨x6,h6⟩:∃x,(n0::n1::n2::n3::nr)[16]?=some x:=⟨_,List.getElem?_eq_getElem `l⟩;obtain⟨x7,h7⟩:∃x,(n0::n1::n2::n3::nr)[17]?=some x:=⟨_,List.getElem?_eq_getElem `l⟩;have Ie:=BT x6 (mem_of_getElem? h6);have Id:=BT x7 (mem_of_getElem? h7);have l6:=Ie.1.2;have l7:=Id.1.2;have lt16:=kj (nm:=(n0::n1::n2::n3::nr)) (i:=14) `l;have HA:∀{H1:Hp}{j:Nat}{x t:Tq}{R:VK}{E:XK},DsT K H1 g.aO pd b (tbX (n0::n1::n2::n3::nr) 14) l->(n0::n1::n2::n3::nr)[j]?=some x->16<=j->NmOk x->`t<=100->(∀H',Same H1 H'->E (.ref g.af) none H')->eV K g.aO g.aP g.aZ g.af g.ak [.ref pd,tV (wAdd++[32]++x++32::t)] H1 R E:=λ{H1 j x t R E} dd hx hj ok ht hE=>by
  have lx:=ok.1.2;refine⟨pd,b,_,l,_,rfl,dd,gb.le `d,.inr ⟨_,[wAdd,x,t],rfl,?_,?_,.inr (.inr (.inr (.inl ⟨x,t,rfl,λH2 s2=>⟨pd,b,_,l,x,t,rfl,dd.same s2,`l,`l,.inl ⟨.inr (EA nd hx hj),λH' s'=>hE H' (s2.trans s')⟩⟩⟩)))⟩⟩
  .simp only[length_append,length_cons,length_nil,wAdd];lia
  .rw[show wAdd++[32]++x++32::t=wAdd++32::(x++32::t) by simp];exact kf (bN ok) (bV ok)
 refine⟨λZ H8=>SqL K H8 a (ns.map V.int)/\H8 pn=some (.lst ((n0::n1::n2::n3::nr).map tV))/\∃(v6:Option V),Z=[some (.ref a),some (.ref pn),some (tV gg),some (.ref pd),some (tV b.shw),v5,v6,v7,v8]/\DsT K H8 g.aO pd b (tbX (n0::n1::n2::n3::nr) 14) l,⟨_,_,.inl (.of ad),aB (show ((n0::n1::n2::n3::nr).map tV)[16]?=some (tV x6) by rw[List.getElem?_map,h6];rfl),catS `d `l (catS (by simp only[length_append,length_cons,length_nil,wAdd];lia) `d ⟨_,_,.inl (.of ad),aB (show ((n0::n1::n2::n3::nr).map tV)[17]?=some (tV x7) by rw[List.getElem?_map,h7];rfl),catS `d `l (catS (by simp only[length_append,length_cons,length_nil,wAdd];lia) `d ⟨`d,λq8 H8 n8 s8 e8=>⟨⟨_,.of e8⟩,?_⟩⟩)⟩)⟩,?_⟩
 .refine f9 (xs:=[tV (wAdd++[32]++x6++[32,47,97]),tV (wAdd++[32]++x7++[32,97])]) (λi Z H'=>Same H8 H'/\∃(v6:Option V),Z=[some (.ref a),some (.ref pn),some (tV gg),some (.ref pd),some (tV b.shw),v5,v6,v7,v8]) ⟨Same.refl _,v6,rfl⟩ (λi Z H' _ h=>.of (h.1 _ _ e8)) ?_ ?_
  .rintro i x Z H9 hx ⟨s9,HP,rfl⟩;have d9:=d7.same (s8.trans s9);fail "r";refine⟨pd,b,x,1,rfl,d9.dsk,`d,λR E hE=>?_,λH10 dl=>bR.mpr ⟨_,rfl,ite2 (λz=>absurd z `s) (λ_=>⟨s9.trans dl,_,rfl⟩)⟩⟩;match i,hx with
   |0,hx=>cases hx;exact HA (t:=[47,97]) d9 h6 `d Ie `d hE
   |1,hx=>cases hx;exact HA (t:=[97]) d9 h7 `d Id `d hE
  .rintro Z H9 ⟨s9,HP,rfl⟩;exact⟨(s8.trans s9).seq HC,(s8.trans s9) _ _ ad,HP,rfl,d7.same (s8.trans s9)⟩
 clear HC ad d7 HA;rintro Z H8 ⟨HX,HD,v6,rfl,d8⟩;have go:∀{H1:Hp}{x y:Ad}{R:VK}{E:XK},DsT K H1 g.aO pd x (tbX (n0::n1::n2::n3::nr) 14) l->GoodAd 5 x->y.Wf->y.Tiny->RsX y->y.steps.length<=5->(∀H2:Hp,SameBut pd H1 H2->DsT K H2 g.aO pd (goX x y) (tbX (n0::n1::n2::n3::nr) 14) l->R (tV (goX x y).shw) H2)->eV K g.aO g.aP g.aZ g.af g.ak [.ref pd,.str (mkS (wGo++32::y.shw))] H1 R E:=λ{H1 x y R E} dd gx wy ty ry ly hR=>by have sz:=(ty.sz wy `l).all;exact⟨pd,x,_,l,_,rfl,dd,gx.le `d,.inr ⟨_,_,rfl,by simp only[length_append,length_cons,length_nil,wGo];lia,El (.inl rfl),.inr (.inl ⟨_,rfl,λH2 s2=>⟨pd,x,_,_,l,rfl,dd.same s2,gx.le `d,sz,p0 wy,.inr ⟨y,HR y wy,wy,ty,ry,`l,λH3 s3 d3=>hR H3 (s2.but.trans s3) d3⟩⟩⟩)⟩⟩
 have wx:=DX EB;have tx:(wOnly wyX true).Tiny:=⟨`d,(λ_ z=>nomatch z),(λ_ z=>nomatch z),(λ_ z=>nomatch z)⟩;obtain⟨r1,r2,r3⟩:=go_X b;have rx:RsX (wOnly wyX true):=.inr `R;have gx:GoodAd 5 (goX b (wOnly wyX true)):=kY (kZ gb wx tx `d rx);rw[show ofString "go /x/a/"=mkS (wGo++32::(wOnly wyX true).shw) by rw[EC];fail "k"];fail "r";refine⟨λZ H9=>SqL K H9 a (ns.map V.int)/\H9 pn=some (.lst ((n0::n1::n2::n3::nr).map tV))/\Z=[some (.ref a),some (.ref pn),some (tV gg),some (.ref pd),some (tV b.shw),v5,v6,v7,v8]/\DsT K H9 g.aO pd (goX b (wOnly wyX true)) (tbX (n0::n1::n2::n3::nr) 14) l,?_,?_⟩
 .refine az d8.dsk (HG d8 λH9 s9=>bR.mpr ⟨_,rfl,ite2 (λz=>absurd z `s) (λ_=>?_)⟩);have d9:=d8.same s9;exact az d9.dsk (go d9 (gb.le `d) wx tx rx `d λH10 dl Fr=>⟨_,rfl,d9.keepS dl (s9.seq HX),d9.keepL dl (s9 _ _ HD),rfl,Fr⟩)
 clear HX HD d8;rintro Z H9 ⟨HW,mt,rfl,d9⟩;have Ip:=BT n2 `s;have l2:=Ip.1.2;have szb:=(gb.ti.sz gb.wf (by have:=gb.ln;lia)).all;have gB:=ED (y:=goX b (wOnly wyX true)) pb gb.sc;rw[show ofString "lead"=mkS wLead by fail "k",show ofString " rest=a"=mkS wRA by fail "k"];fail "r";refine⟨λZ H10=>SqL K H10 a (ns.map V.int)/\H10 pn=some (.lst ((n0::n1::n2::n3::nr).map tV))/\Z=[some (.ref a),some (.ref pn),some (tV gg),some (.ref pd),some (tV b.shw),v5,v6,v7,v8]/\DsT K H10 g.aO pd b (tbX (n0::n1::n2::n3::nr) 14) l,?_,?_⟩
 .refine az d9.dsk ⟨pd,_,_,l,_,rfl,d9,gx.le `d,.inr ⟨wLead,[wLead],rfl,`d,`k,.inr (.inr (.inr (.inr (.inr ⟨rfl,r1,r2,r3,n2,_,EF,?_,EG,`l,l2,λH10 dl=>?_⟩))))⟩⟩
  .intro r hr;obtain⟨n,_,rfl⟩:=mem_map.mp hr;rfl
  have Fr:=d9.same dl;refine⟨_,_,.inl (.of (dl _ _ mt)),aB (j:=2) rfl,catS `l `d (bR.mpr ⟨_,rfl,ite2 (λz=>absurd z `s) (λ_=>az Fr.dsk ⟨aF (by rw[show (ofString "go ").length=3 by fail "k"];lia),?_⟩)⟩)⟩;rw[show (ofString "go " ++ ⟨b.shw.toArray⟩:Str)=mkS (wGo++32::b.shw) by rw[show ofString "go "=mkS (wGo++[32]) by fail "k",ay,append_assoc];rfl];refine go Fr gx gb.wf gb.ti (.inl gb.sc) (by have:=gb.ln;lia) λH11 HB HF=>?_;rw[gB] at HF ⊢;exact bR.mpr ⟨_,rfl,ite2 (λz=>absurd z `s) (λ_=>⟨Fr.keepS HB (dl.seq HW),Fr.keepL HB (dl _ _ mt),rfl,HF⟩)⟩
 clear HW mt d9;rintro Z H10 ⟨HM,HE,rfl,Fr⟩;rw[show ofString " /b"=mkS ([32]++[47,98]) by fail "k"];fail "r";refine az Fr.dsk ⟨a,ns,26,rfl,HM,(by decide:(0:Int) < 16),?_⟩;have q1:=Int.emod_nonneg (ns.getD 26 0) (show (16:Int)≠0 by decide);have q2:=Int.emod_lt_of_pos (ns.getD 26 0) (show (0:Int) < 16 by decide);obtain⟨j,ej⟩:∃j:Nat,ns.getD 26 0 % 16=(j:Int):=⟨_,(Int.toNat_of_nonneg q1).symm⟩;show rIy K _ (.int (ns.getD 26 0 % 16)) _ _;rw[ej] at q2 ⊢;obtain⟨x,hx⟩:∃x,(n0::n1::n2::n3::nr)[j]?=some x:=⟨_,List.getElem?_eq_getElem `l⟩;have HJ:=BT x (mem_of_getElem? hx);have lx:=HJ.1.2;refine⟨_,_,.inl (.of HE),aB (show ((n0::n1::n2::n3::nr).map tV)[j]?=some (tV x) by rw[List.getElem?_map,hx];rfl),catS `d `l (catS (by simp only[length_append,length_cons,length_nil,wAdd];lia) `d ?_)⟩;refine HI (n:=x) (t:=[47,98]) Fr `l HJ (EE `l hx `l) `d pt_C λH11 Iv Ir HB HF=>ag.mpr ⟨_,rfl,ite2 (λ_=>az HF.dsk (HG HF λH12 Io=>ag.mpr ?_)) (λz=>absurd z `s)⟩;rw[decide_eq_true rfl];exact k H12
end
theorem usl1 {us:List Value}(h:us.length=1):∃x0,us=[x0]:=List.length_eq_one_iff.mp h
local macro_rules|`(tactic| fail "b1")=>`(tactic| exact λ_ _ _ _ _ _ us hl=>by obtain⟨x0,e⟩:=usl1 hl;subst e;rfl)
theorem usl2 {us:List Value}(h:us.length=2):∃x0 x1,us=[x0,x1]:=by
 cases us with
 |nil=>cases h
 |cons x0 l=>obtain⟨x1,rfl⟩:=usl1 (Nat.succ.inj h);exact⟨_,_,rfl⟩
local macro_rules|`(tactic| fail "b2")=>`(tactic| exact λ_ _ _ _ _ _ us hl=>by obtain⟨x0,x1,e⟩:=usl2 hl;subst e;rfl)
theorem usl3 {us:List Value}(h:us.length=3):∃x0 x1 x2,us=[x0,x1,x2]:=by
 cases us with
 |nil=>cases h
 |cons x0 l=>obtain⟨x1,x2,rfl⟩:=usl2 (Nat.succ.inj h);exact⟨_,_,_,rfl⟩
local macro_rules|`(tactic| fail "b3")=>`(tactic| exact λ_ _ _ _ _ _ us hl=>by obtain⟨x0,x1,x2,e⟩:=usl3 hl;subst e;rfl)
noncomputable abbrev fo (n:Str)(s:Stmt)(d k a b:Value)(e:Option Addr)(c t:Value):FuncData:=W.fnOf n n (defArgs s) (defBody s) (defScope s) d k a b e c t
theorem Hx {l:PySem.W.OpenLaw}{w:World}{K:`F}{h:Heap}{mg:Str->Option Value}{fa:Addr}(X:K.In h)(Gl:h.Ns mainGlobals mg)(hfa:mg "law"=some (.ref fa))(d:D K mg)
  {kC_Cursor:Addr} (aC_Cursor:W.nsIn K mainGlobals "Cursor"=some (some (.ref kC_Cursor)))
  {kC_Desk:Addr} (aC_Desk:W.nsIn K mainGlobals "Desk"=some (some (.ref kC_Desk)))
  {eC_NoAddress:Addr} (en_NoAddress:W.nsIn K mainGlobals "NoAddress"=some (some (.ref eC_NoAddress)))
  {eC_NoPattern:Addr} (en_NoPattern:W.nsIn K mainGlobals "NoPattern"=some (some (.ref eC_NoPattern)))
  {eC_NoName:Addr} (en_NoName:W.nsIn K mainGlobals "NoName"=some (some (.ref eC_NoName)))
  {eC_NoRow:Addr} (en_NoRow:W.nsIn K mainGlobals "NoRow"=some (some (.ref eC_NoRow)))
  {eC_NoValue:Addr} (en_NoValue:W.nsIn K mainGlobals "NoValue"=some (some (.ref eC_NoValue)))
  {eC_NoBase:Addr} (en_NoBase:W.nsIn K mainGlobals "NoBase"=some (some (.ref eC_NoBase)))
  {eC_WayError:Addr} (en_WayError:W.nsIn K mainGlobals "WayError"=some (some (.ref eC_WayError)))
  (a7:W.findIn K (.ref eC_NoAddress) "__init__"=some (some (.ref f7))) (i7:W.isFn K (.ref f7)=true) (l7:K.lookup f7=some ⟨oc7,od7,.func (W.fnOf "__init__" "NoAddress.__init__" (defArgs (inClass (top 44) 0)) (defBody (inClass (top 44) 0)) (defScope (inClass (top 44) 0)) .none kV7 dc7 pm7 an7 cd7 ct7),sl7⟩)
  (a20:W.findIn K (.ref kC_Cursor) "__init__"=some (some (.ref f20))) (i20:W.isFn K (.ref f20)=true) (l20:K.lookup f20=some ⟨oc20,od20,.func (W.fnOf "__init__" "Cursor.__init__" (defArgs (inClass (top 112) 0)) (defBody (inClass (top 112) 0)) (defScope (inClass (top 112) 0)) .none kV20 dc20 pm20 an20 cd20 ct20),sl20⟩)
  (a21:W.findIn K (.ref kC_Cursor) "at_end"=some (some (.ref f21))) (i21:W.isFn K (.ref f21)=true) (l21:K.lookup f21=some ⟨oc21,od21,.func (W.fnOf "at_end" "Cursor.at_end" (defArgs (inClass (top 112) 1)) (defBody (inClass (top 112) 1)) (defScope (inClass (top 112) 1)) .none kV21 dc21 pm21 an21 cd21 ct21),sl21⟩)
  (a22:W.findIn K (.ref kC_Cursor) "take"=some (some (.ref f22))) (i22:W.isFn K (.ref f22)=true) (l22:K.lookup f22=some ⟨oc22,od22,.func (W.fnOf "take" "Cursor.take" (defArgs (inClass (top 112) 3)) (defBody (inClass (top 112) 3)) (defScope (inClass (top 112) 3)) .none kV22 dc22 pm22 an22 cd22 ct22),sl22⟩)
  (a23:W.findIn K (.ref kC_Cursor) "passes"=some (some (.ref f23))) (i23:W.isFn K (.ref f23)=true) (l23:K.lookup f23=some ⟨oc23,od23,.func (W.fnOf "passes" "Cursor.passes" (defArgs (inClass (top 112) 4)) (defBody (inClass (top 112) 4)) (defScope (inClass (top 112) 4)) .none kV23 dc23 pm23 an23 cd23 ct23),sl23⟩)
  (a45:W.findIn K (.ref kC_Cursor) "sees"=some (some (.ref f45))) (i45:W.isFn K (.ref f45)=true) (l45:K.lookup f45=some ⟨oc45,od45,.func (W.fnOf "sees" "Cursor.sees" (defArgs (inClass (top 112) 2)) (defBody (inClass (top 112) 2)) (defScope (inClass (top 112) 2)) .none kV45 dc45 pm45 an45 cd45 ct45),sl45⟩)
  (a70:W.nsIn K mainGlobals "undone"=some (some (.ref f70))) (l70:K.lookup f70=some ⟨oc70,od70,.func (fo "undone" (top 22) (.ref T70) kV70 dc70 pm70 an70 cd70 ct70),sl70⟩)
  (d70:K.lookup T70=some ⟨ocT70,odT70,.seq #[.str (ofString "") dt70_0] nT70,slT70⟩)
  {dt77_0:Tok}
  (a77:W.nsIn K mainGlobals "taken_text"=some (some (.ref f77))) (l77:K.lookup f77=some ⟨oc77,od77,.func (fo "taken_text" (top 123) (.ref T77) kV77 dc77 pm77 an77 cd77 ct77),sl77⟩)
  (d77:K.lookup T77=some ⟨ocT77,odT77,.seq #[.none] nT77,slT77⟩)
  {dt87_0:Tok}
  (a87:W.nsIn K mainGlobals "taken_filled_text"=some (some (.ref f87))) (l87:K.lookup f87=some ⟨oc87,od87,.func (fo "taken_filled_text" (top 122) (.ref T87) kV87 dc87 pm87 an87 cd87 ct87),sl87⟩)
  (d87:K.lookup T87=some ⟨ocT87,odT87,.seq #[.none] nT87,slT87⟩)
  (a98:W.findIn K (.ref kC_Desk) "both"=some (some (.ref f98))) (i98:W.isFn K (.ref f98)=true) (l98:K.lookup f98=some ⟨oc98,od98,.func (W.fnOf "both" "Desk.both" (defArgs (inClass (top 150) 5)) (defBody (inClass (top 150) 5)) (defScope (inClass (top 150) 5)) .none kV98 dc98 pm98 an98 cd98 ct98),sl98⟩)
  (a99:W.findIn K (.ref kC_Desk) "__init__"=some (some (.ref f99))) (i99:W.isFn K (.ref f99)=true) (l99:K.lookup f99=some ⟨oc99,od99,.func (W.fnOf "__init__" "Desk.__init__" (defArgs (inClass (top 150) 0)) (defBody (inClass (top 150) 0)) (defScope (inClass (top 150) 0)) .none kV99 dc99 pm99 an99 cd99 ct99),sl99⟩)
  (a100:W.findIn K (.ref kC_Desk) "goal_of"=some (some (.ref f100))) (i100:W.isFn K (.ref f100)=true) (l100:K.lookup f100=some ⟨oc100,od100,.func (W.fnOf "goal_of" "Desk.goal_of" (defArgs (inClass (top 150) 2)) (defBody (inClass (top 150) 2)) (defScope (inClass (top 150) 2)) .none kV100 dc100 pm100 an100 cd100 ct100),sl100⟩)
  (a101:W.findIn K (.ref kC_Desk) "put"=some (some (.ref f101))) (i101:W.isFn K (.ref f101)=true) (l101:K.lookup f101=some ⟨oc101,od101,.func (W.fnOf "put" "Desk.put" (defArgs (inClass (top 150) 4)) (defBody (inClass (top 150) 4)) (defScope (inClass (top 150) 4)) .none kV101 dc101 pm101 an101 cd101 ct101),sl101⟩)
  (a102:W.findIn K (.ref kC_Desk) "go"=some (some (.ref f102))) (i102:W.isFn K (.ref f102)=true) (l102:K.lookup f102=some ⟨oc102,od102,.func (W.fnOf "go" "Desk.go" (defArgs (inClass (top 150) 3)) (defBody (inClass (top 150) 3)) (defScope (inClass (top 150) 3)) .none kV102 dc102 pm102 an102 cd102 ct102),sl102⟩)
  (a103:W.findIn K (.ref kC_Desk) "say"=some (some (.ref f103))) (i103:W.isFn K (.ref f103)=true) (l103:K.lookup f103=some ⟨oc103,od103,.func (W.fnOf "say" "Desk.say" (defArgs (inClass (top 150) 1)) (defBody (inClass (top 150) 1)) (defScope (inClass (top 150) 1)) .none kV103 dc103 pm103 an103 cd103 ct103),sl103⟩)
  {qa1_NO_WAY:Addr}{qd1_NO_WAY:Option Addr}{qn1_NO_WAY:Nat}{qs1_NO_WAY:Array (Option Value)}{qa0_NO_WAY:Addr}{qd0_NO_WAY:Option Addr}{qn0_NO_WAY:Nat}{qs0_NO_WAY:Array (Option Value)}
  (e_NO_WAY:W.nsIn K mainGlobals "NO_WAY"=some (some (.ref qa0_NO_WAY)))
  (y0_NO_WAY:K.lookup qa0_NO_WAY=some ⟨.type "tuple",qd0_NO_WAY,.seq #[.bool false,.ref qa1_NO_WAY,.bool false] qn0_NO_WAY,qs0_NO_WAY⟩)
  (y1_NO_WAY:K.lookup qa1_NO_WAY=some ⟨.type "tuple",qd1_NO_WAY,.seq #[] qn1_NO_WAY,qs1_NO_WAY⟩)
  {qa0_NAMED_WORDS:Addr}{qd0_NAMED_WORDS:Option Addr}{qn0_NAMED_WORDS:Nat}{qs0_NAMED_WORDS:Array (Option Value)}{qt0_0_NAMED_WORDS:Tok}{qt1_0_NAMED_WORDS:Tok}{qt2_0_NAMED_WORDS:Tok}{qt3_0_NAMED_WORDS:Tok}
  (e_NAMED_WORDS:W.nsIn K mainGlobals "NAMED_WORDS"=some (some (.ref qa0_NAMED_WORDS)))
  (y0_NAMED_WORDS:K.lookup qa0_NAMED_WORDS=some ⟨.type "tuple",qd0_NAMED_WORDS,.seq #[.str (ofString "number") qt0_0_NAMED_WORDS,.str (ofString "word") qt1_0_NAMED_WORDS,.str (ofString "gap") qt2_0_NAMED_WORDS,.str (ofString "rest") qt3_0_NAMED_WORDS] qn0_NAMED_WORDS,qs0_NAMED_WORDS⟩)
  {qa0_WRITTEN_WORDS:Addr}{qd0_WRITTEN_WORDS:Option Addr}{qn0_WRITTEN_WORDS:Nat}{qs0_WRITTEN_WORDS:Array (Option Value)}{qt0_0_WRITTEN_WORDS:Tok}{qt1_0_WRITTEN_WORDS:Tok}{qt2_0_WRITTEN_WORDS:Tok}
  (e_WRITTEN_WORDS:W.nsIn K mainGlobals "WRITTEN_WORDS"=some (some (.ref qa0_WRITTEN_WORDS)))
  (y0_WRITTEN_WORDS:K.lookup qa0_WRITTEN_WORDS=some ⟨.type "tuple",qd0_WRITTEN_WORDS,.seq #[.str (ofString "number") qt0_0_WRITTEN_WORDS,.str (ofString "word") qt1_0_WRITTEN_WORDS,.str (ofString "rest") qt2_0_WRITTEN_WORDS] qn0_WRITTEN_WORDS,qs0_WRITTEN_WORDS⟩)
  {qa0_WITH_TEXT:Addr}{qd0_WITH_TEXT:Option Addr}{qn0_WITH_TEXT:Nat}{qs0_WITH_TEXT:Array (Option Value)}{qt0_0_WITH_TEXT:Tok}{qt1_0_WITH_TEXT:Tok}{qt2_0_WITH_TEXT:Tok}
  (e_WITH_TEXT:W.nsIn K mainGlobals "WITH_TEXT"=some (some (.ref qa0_WITH_TEXT)))
  (y0_WITH_TEXT:K.lookup qa0_WITH_TEXT=some ⟨.type "tuple",qd0_WITH_TEXT,.seq #[.str (ofString "go") qt0_0_WITH_TEXT,.str (ofString "link") qt1_0_WITH_TEXT,.str (ofString "add") qt2_0_WITH_TEXT] qn0_WITH_TEXT,qs0_WITH_TEXT⟩)
  {qa_WORTH_OF_WORDS:Addr} (e_WORTH_OF_WORDS:W.nsIn K mainGlobals "WORTH_OF_WORDS"=some (some (.ref qa_WORTH_OF_WORDS)))
  (yl_WORTH_OF_WORDS:PyProof.Rows.KTD.tabLook PyProof.Rows.KTD.flatLooks (λa=>K.lookup a) qa_WORTH_OF_WORDS kl=true) (yh_WORTH_OF_WORDS:PyProof.Rows.KTD.hashesOf (λa=>K.lookup a) qa_WORTH_OF_WORDS=kl.map λp=>hashStr w p.1)
  {qa_NAMES_BEHIND:Addr} (e_NAMES_BEHIND:W.nsIn K mainGlobals "NAMES_BEHIND"=some (some (.ref qa_NAMES_BEHIND)))
  (yl_NAMES_BEHIND:PyProof.Rows.KTD.tabLook PyProof.Rows.KTD.flatLooks (λa=>K.lookup a) qa_NAMES_BEHIND iA=true) (yh_NAMES_BEHIND:PyProof.Rows.KTD.hashesOf (λa=>K.lookup a) qa_NAMES_BEHIND=iA.map λp=>hashStr w p.1)
  (ex_NoRow:excInJ K eC_NoRow vErr vNew none=true)
  (ex_NoName:excInJ K eC_NoName vErr vNew none=true)
  (ex_NoPattern:excInJ K eC_NoPattern vErr vNew none=true)
  (ew1_WayError:W.typeIn K (.ref eC_WayError)=some (.type "type"))
  (ew2_WayError:W.subIn K (.ref eC_WayError) (.type "BaseException")=some true)
  (ew3_WayError:(W.clsIn K eC_WayError).isSome=true)
  (el0_NoAddress:W.findIn K (.ref eC_NoAddress) "__getattribute__"=some (some (.builtin "BaseException.__getattribute__")))
  (el1_NoAddress:W.findIn K (.ref eC_NoAddress) "__class__"=some (some (.builtin "object.__class__")))
  (el2_NoAddress:W.findIn K (.ref eC_NoAddress) "__getattr__"=some none)
  (el3_NoAddress:W.mroIn K eC_NoAddress (.type "object")=some true)
  (el4_NoAddress:W.mroIn K eC_NoAddress (.type "BaseException")=some true)
  (el5_NoAddress:(W.clsIn K eC_NoAddress).isSome=true)
  (el0_NoRow:W.findIn K (.ref eC_NoRow) "__getattribute__"=some (some (.builtin "BaseException.__getattribute__")))
  (el1_NoRow:W.findIn K (.ref eC_NoRow) "__class__"=some (some (.builtin "object.__class__")))
  (el2_NoRow:W.findIn K (.ref eC_NoRow) "__getattr__"=some none)
  (el3_NoRow:W.mroIn K eC_NoRow (.type "object")=some true)
  (el4_NoRow:W.mroIn K eC_NoRow (.type "BaseException")=some true)
  (el5_NoRow:(W.clsIn K eC_NoRow).isSome=true)
  (el0_NoName:W.findIn K (.ref eC_NoName) "__getattribute__"=some (some (.builtin "BaseException.__getattribute__")))
  (el1_NoName:W.findIn K (.ref eC_NoName) "__class__"=some (some (.builtin "object.__class__")))
  (el2_NoName:W.findIn K (.ref eC_NoName) "__getattr__"=some none)
  (el3_NoName:W.mroIn K eC_NoName (.type "object")=some true)
  (el4_NoName:W.mroIn K eC_NoName (.type "BaseException")=some true)
  (el5_NoName:(W.clsIn K eC_NoName).isSome=true)
  (el0_NoPattern:W.findIn K (.ref eC_NoPattern) "__getattribute__"=some (some (.builtin "BaseException.__getattribute__")))
  (el1_NoPattern:W.findIn K (.ref eC_NoPattern) "__class__"=some (some (.builtin "object.__class__")))
  (el2_NoPattern:W.findIn K (.ref eC_NoPattern) "__getattr__"=some none)
  (el3_NoPattern:W.mroIn K eC_NoPattern (.type "object")=some true)
  (el4_NoPattern:W.mroIn K eC_NoPattern (.type "BaseException")=some true)
  (el5_NoPattern:(W.clsIn K eC_NoPattern).isSome=true)
  (ey_NoAddress:excInJ K eC_NoAddress vErr vNew (some (.ref f7))=true)
  (ek_NoAddress:W.keepIn K (.ref eC_NoAddress)=true)
  (es_NoAddress:W.findIn K (.ref eC_NoAddress) "__setattr__"=some (some (.builtin "object.__setattr__")))
  (eo_NoAddress:overErr K eC_NoAddress=true)
  (eh_NoAddress:W.hasDictIn K eC_NoAddress=true)
  (ef_NoAddress_at:W.findIn K (.ref eC_NoAddress) "at"=some none)
  (eu_NoAddress_WayError:W.subIn K (.ref eC_NoAddress) (.ref eC_WayError)=some true)
  (eu_NoRow_WayError:W.subIn K (.ref eC_NoRow) (.ref eC_WayError)=some true)
  (eu_NoName_WayError:W.subIn K (.ref eC_NoName) (.ref eC_WayError)=some true)
  (eu_NoPattern_WayError:W.subIn K (.ref eC_NoPattern) (.ref eC_WayError)=some true)
  (ei_NoAddress_ValueError:W.kitOne K (.ref eC_NoAddress) (.type "ValueError")=some true)
  (ei_NoRow_ValueError:W.kitOne K (.ref eC_NoRow) (.type "ValueError")=some true)
  (ei_NoName_ValueError:W.kitOne K (.ref eC_NoName) (.type "ValueError")=some true)
  (ei_NoPattern_ValueError:W.kitOne K (.ref eC_NoPattern) (.type "ValueError")=some true)
  (ei_NoAddress_NoBase:W.kitOne K (.ref eC_NoAddress) (.ref eC_NoBase)=some false)
  (ei_NoRow_NoBase:W.kitOne K (.ref eC_NoRow) (.ref eC_NoBase)=some false)
  (ei_NoName_NoBase:W.kitOne K (.ref eC_NoName) (.ref eC_NoBase)=some false)
  (ei_NoPattern_NoBase:W.kitOne K (.ref eC_NoPattern) (.ref eC_NoBase)=some false)
  (ei_NoAddress_NoValue:W.kitOne K (.ref eC_NoAddress) (.ref eC_NoValue)=some false)
  (ei_NoRow_NoValue:W.kitOne K (.ref eC_NoRow) (.ref eC_NoValue)=some false)
  (ei_NoName_NoValue:W.kitOne K (.ref eC_NoName) (.ref eC_NoValue)=some false)
  (ei_NoPattern_NoValue:W.kitOne K (.ref eC_NoPattern) (.ref eC_NoValue)=some false)
  (ei_NoAddress_NoRow:W.kitOne K (.ref eC_NoAddress) (.ref eC_NoRow)=some false)
  (ei_NoRow_NoRow:W.kitOne K (.ref eC_NoRow) (.ref eC_NoRow)=some true)
  (ei_NoName_NoRow:W.kitOne K (.ref eC_NoName) (.ref eC_NoRow)=some false)
  (ei_NoPattern_NoRow:W.kitOne K (.ref eC_NoPattern) (.ref eC_NoRow)=some false)
  (ei_NoAddress_NoName:W.kitOne K (.ref eC_NoAddress) (.ref eC_NoName)=some false)
  (ei_NoRow_NoName:W.kitOne K (.ref eC_NoRow) (.ref eC_NoName)=some false)
  (ei_NoName_NoName:W.kitOne K (.ref eC_NoName) (.ref eC_NoName)=some true)
  (ei_NoPattern_NoName:W.kitOne K (.ref eC_NoPattern) (.ref eC_NoName)=some false)
  (ei_NoAddress_NoAddress:W.kitOne K (.ref eC_NoAddress) (.ref eC_NoAddress)=some true)
  (ei_NoRow_NoAddress:W.kitOne K (.ref eC_NoRow) (.ref eC_NoAddress)=some false)
  (ei_NoName_NoAddress:W.kitOne K (.ref eC_NoName) (.ref eC_NoAddress)=some false)
  (ei_NoPattern_NoAddress:W.kitOne K (.ref eC_NoPattern) (.ref eC_NoAddress)=some false)
  (ei_NoAddress_NoPattern:W.kitOne K (.ref eC_NoAddress) (.ref eC_NoPattern)=some false)
  (ei_NoRow_NoPattern:W.kitOne K (.ref eC_NoRow) (.ref eC_NoPattern)=some false)
  (ei_NoName_NoPattern:W.kitOne K (.ref eC_NoName) (.ref eC_NoPattern)=some false)
  (ei_NoPattern_NoPattern:W.kitOne K (.ref eC_NoPattern) (.ref eC_NoPattern)=some true)
  (pg_Cursor:W.plainGet K kC_Cursor Str.empty=true)
  (hd_Cursor:W.hasDictIn K kC_Cursor=true)
  (po_Cursor:W.plainOver K kC_Cursor=true)
  (sa_Cursor:W.findIn K (.ref kC_Cursor) "__setattr__"=some (some (.builtin "object.__setattr__")))
  (mk_Cursor:W.makesIn K kC_Cursor=true)
  (kc_Cursor:W.keepIn K (.ref kC_Cursor)=true)
  (nf_Cursor_text:W.findIn K (.ref kC_Cursor) "text"=some none)
  (nf_Cursor_place:W.findIn K (.ref kC_Cursor) "place"=some none)
  (pg_Desk:W.plainGet K kC_Desk Str.empty=true)
  (hd_Desk:W.hasDictIn K kC_Desk=true)
  (po_Desk:W.plainOver K kC_Desk=true)
  (sa_Desk:W.findIn K (.ref kC_Desk) "__setattr__"=some (some (.builtin "object.__setattr__")))
  (mk_Desk:W.makesIn K kC_Desk=true)
  (kc_Desk:W.keepIn K (.ref kC_Desk)=true)
  (nf_Desk_address:W.findIn K (.ref kC_Desk) "address"=some none)
  (nf_Desk_table:W.findIn K (.ref kC_Desk) "table"=some none)
  (kk:((((W.keepIn K (.ref f7) && W.keepIn K (.ref f20)) && (W.keepIn K (.ref f21) && W.keepIn K (.ref f22))) && ((W.keepIn K (.ref f23) && W.keepIn K (.ref f45)) && (W.keepIn K (.ref f70) && W.keepIn K (.ref f77)))) && (((W.keepIn K (.ref f87) && W.keepIn K (.ref f98)) && (W.keepIn K (.ref f99) && W.keepIn K (.ref f100))) && ((W.keepIn K (.ref f101) && W.keepIn K (.ref f102)) && W.keepIn K (.ref f103))))=true)
  (cc:((((W.codeIn K cd7 "NoAddress.__init__" && W.codeIn K cd20 "Cursor.__init__") && (W.codeIn K cd21 "Cursor.at_end" && W.codeIn K cd22 "Cursor.take")) && ((W.codeIn K cd23 "Cursor.passes" && W.codeIn K cd45 "Cursor.sees") && (W.codeIn K cd70 "undone" && W.codeIn K cd77 "taken_text"))) && (((W.codeIn K cd87 "taken_filled_text" && W.codeIn K cd98 "Desk.both") && (W.codeIn K cd99 "Desk.__init__" && W.codeIn K cd100 "Desk.goal_of")) && ((W.codeIn K cd101 "Desk.put" && W.codeIn K cd102 "Desk.go") && W.codeIn K cd103 "Desk.say")))=true) :
  ∃fd:FuncData,(∀(s:Shared) (v:Value),BindsTo s fd ⟨[v],[]⟩ [("_law_script",v)])/\∀base:Heap,K.In base->base.Ns mainGlobals mg->FnOk l.prog w K mg base CX0 12 fa fd ["_law_script"] (sp_law K):=by
 have e2:d.f_law.a=fa:=by have e:=hfa.symm.trans d.f_law.m;cases e;rfl
 subst e2;have M:∀{x:Str}{v:Value},W.nsIn K mainGlobals x=some (some v)->mg x=some v:=λa=>W.mg_of X Gl a;simp only[Bool.and_eq_true] at kk cc;obtain⟨⟨⟨⟨HW,HJ⟩,⟨HI,HG⟩⟩,⟨⟨HF,HE⟩,⟨HD,HC⟩⟩⟩,⟨⟨⟨HB,HA⟩,⟨GT,BT⟩⟩,⟨⟨mt,dl⟩,ad⟩⟩⟩:=kk;obtain⟨⟨⟨⟨HX,HV⟩,⟨HU,HS⟩⟩,⟨⟨HR,HQ⟩,⟨HP,HN⟩⟩⟩,⟨⟨⟨HM,HL⟩,⟨HK,GE⟩⟩,⟨⟨Fr,Fn⟩,Cl⟩⟩⟩:=cc;have F7:=bL (st:=(inClass (top 44) 0)) l7 HX HW;have F20:=bL (st:=(inClass (top 112) 0)) l20 HV HJ;have F21:=bL (st:=(inClass (top 112) 1)) l21 HU HI;have F22:=bL (st:=(inClass (top 112) 3)) l22 HS HG;have F23:=bL (st:=(inClass (top 112) 4)) l23 HR HF;have F45:=bL (st:=(inClass (top 112) 2)) l45 HQ HE;have F70:=jZ (st:=(top 22)) l70 HP HD;have F77:=jZ (st:=(top 123)) l77 HN HC;have F87:=jZ (st:=(top 122)) l87 HM HB;have F98:=bL (st:=(inClass (top 150) 5)) l98 HL HA;have F99:=bL (st:=(inClass (top 150) 0)) l99 HK GT;have F100:=bL (st:=(inClass (top 150) 2)) l100 GE BT;have F101:=bL (st:=(inClass (top 150) 4)) l101 Fr mt;have F102:=bL (st:=(inClass (top 150) 3)) l102 Fn dl;have F103:=bL (st:=(inClass (top 150) 1)) l103 Cl ad
 let g:G w K mg:={
  toD:=d,
  iO:=f7,iP:=_,sB:=F7,
  dA:=F7.binds (by fail "b2"),
  iQ:=f20,iR:=_,sC:=F20,
  sD:=F20.binds (by fail "b2"),
  iS:=f21,iT:=_,sE:=F21,lG:=⟨a21,i21,F21.kp⟩,
  lD:=F21.binds (by fail "b1"),
  iU:=f22,iV:=_,sF:=F22,eU:=⟨a22,i22,F22.kp⟩,
  eQ:=F22.binds (by fail "b1"),
  iW:=f23,iX:=_,sG:=F23,be:=⟨a23,i23,F23.kp⟩,
  bd:=F23.binds (by fail "b2"),
  iY:=f45,iZ:=_,sH:=F45,gA:=⟨a45,i45,F45.kp⟩,
  ft:=F45.binds (by fail "b2"),
  ia:=f70,fu:=_,sI:=T70,sJ:=dt70_0,fw:=F70,ic:=M a70,
  ie:=F70.binds (ps:=["text","free"]) (ds:=[]) d70 λ_ _ _ _ _ _ us hl=>by rw[append_nil] at hl;obtain⟨x0,x1,e⟩:=usl2 hl;subst e;exact⟨_,rfl,rfl⟩,
  Ft:=F70.binds (ps:=["text","free"]) (ds:=[.str (ofString "") dt70_0]) d70 λ_ _ _ _ _ _ us hl=>by obtain⟨x,rfl⟩:=zR hl;exact⟨_,rfl,rfl⟩,
  ig:=f77,fz:=_,sK:=T77,Fu:=dt77_0,cN:=F77,dB:=M a77,
  sL:=F77.binds (ps:=["cursor","free","most"]) (ds:=[]) d77 λ_ _ _ _ _ _ us hl=>by rw[append_nil] at hl;obtain⟨x0,x1,x2,e⟩:=usl3 hl;subst e;exact⟨_,rfl,rfl⟩,
  eR:=F77.binds (ps:=["cursor","free","most"]) (ds:=[.none]) d77 λ_ _ _ _ _ _ us hl=>by obtain⟨x,y,rfl⟩:=oP hl;exact⟨_,rfl,rfl⟩,
  ii:=f87,g9:=_,sM:=T87,Fv:=dt87_0,ij:=F87,lE:=M a87,
  sO:=F87.binds (ps:=["cursor","free","most"]) (ds:=[]) d87 λ_ _ _ _ _ _ us hl=>by rw[append_nil] at hl;obtain⟨x0,x1,x2,e⟩:=usl3 hl;subst e;exact⟨_,rfl,rfl⟩,
  sN:=F87.binds (ps:=["cursor","free","most"]) (ds:=[.none]) d87 λ_ _ _ _ _ _ us hl=>by obtain⟨x,y,rfl⟩:=oP hl;exact⟨_,rfl,rfl⟩,
  ik:=f98,il:=_,sP:=F98,sr:=⟨a98,i98,F98.kp⟩,
  sQ:=F98.binds (by fail "b3"),
  io:=f99,ip:=_,sR:=F99,
  sS:=F99.binds (by fail "b2"),
  iq:=f100,ir:=_,sU:=F100,lH:=⟨a100,i100,F100.kp⟩,
  lF:=F100.binds (by fail "b2"),
  iu:=f101,iw:=_,sW:=F101,su:=⟨a101,i101,F101.kp⟩,
  sX:=F101.binds (by fail "b3"),
  iy:=f102,iz:=_,sY:=F102,sv:=⟨a102,i102,F102.kp⟩,
  sZ:=F102.binds (by fail "b2"),
  j0:=f103,j1:=_,si:=F103,bP:=⟨a103,i103,F103.kp⟩,
  bO:=F103.binds (by fail "b2"),
  gC:=qa0_NO_WAY,lI:=W.mg_of X Gl e_NO_WAY,lJ:=λH=>(.tup (xs:=[.bl false,.ref qa1_NO_WAY,.bl false]) (.inr ⟨_,_,_,y0_NO_WAY,rfl,rfl,(by show 3<=sizeLine;decide),(.cons rfl (.cons rfl (.cons rfl .nil)))⟩) (.cons (.bl _) (.cons (.tup (xs:=[]) (.inr ⟨_,_,_,y1_NO_WAY,rfl,rfl,(by show 0<=sizeLine;decide),.nil⟩) .nil) (.cons (.bl _) .nil)))),
  j2:=qa0_NAMED_WORDS,sw:=W.mg_of X Gl e_NAMED_WORDS,t0:=λH=>(.tup (xs:=[.str (ofString "number"),.str (ofString "word"),.str (ofString "gap"),.str (ofString "rest")]) (.inr ⟨_,_,_,y0_NAMED_WORDS,rfl,rfl,(by show 4<=sizeLine;decide),(.cons `o (.cons `o (.cons `o (.cons `o .nil))))⟩) (.cons (.str _) (.cons (.str _) (.cons (.str _) (.cons (.str _) .nil))))),
  j3:=qa0_WRITTEN_WORDS,t5:=W.mg_of X Gl e_WRITTEN_WORDS,t6:=λH=>(.tup (xs:=[.str (ofString "number"),.str (ofString "word"),.str (ofString "rest")]) (.inr ⟨_,_,_,y0_WRITTEN_WORDS,rfl,rfl,(by show 3<=sizeLine;decide),(.cons `o (.cons `o (.cons `o .nil)))⟩) (.cons (.str _) (.cons (.str _) (.cons (.str _) .nil)))),
  gE:=qa0_WITH_TEXT,lM:=W.mg_of X Gl e_WITH_TEXT,lN:=λH=>(.tup (xs:=[.str (ofString "go"),.str (ofString "link"),.str (ofString "add")]) (.inr ⟨_,_,_,y0_WITH_TEXT,rfl,rfl,(by show 3<=sizeLine;decide),(.cons `o (.cons `o (.cons `o .nil)))⟩) (.cons (.str _) (.cons (.str _) (.cons (.str _) .nil)))),
  j4:=qa_WORTH_OF_WORDS,t7:=W.mg_of X Gl e_WORTH_OF_WORDS,t8:=λP h hI=>PyProof.Rows.KTD.strTab_of_look P w hI yl_WORTH_OF_WORDS `d yh_WORTH_OF_WORDS,
  gD:=qa_NAMES_BEHIND,lK:=W.mg_of X Gl e_NAMES_BEHIND,lL:=λP h hI=>PyProof.Rows.KTD.strTab_of_look P w hI yl_NAMES_BEHIND `d yh_NAMES_BEHIND,
  aP:=eC_NoAddress,cP:=W.mg_of X Gl en_NoAddress,
  aZ:=eC_NoPattern,j5:=W.mg_of X Gl en_NoPattern,
  af:=eC_NoName,j6:=W.mg_of X Gl en_NoName,
  ak:=eC_NoRow,gF:=W.mg_of X Gl en_NoRow,
  cQ:=eC_NoValue,t9:=W.mg_of X Gl en_NoValue,
  cR:=eC_NoBase,tD:=W.mg_of X Gl en_NoBase,
  dC:=eC_WayError,tE:=W.mg_of X Gl en_WayError,
  j7:=ex_NoRow,
  lO:=ex_NoName,
  lP:=ex_NoPattern,
  tF:=⟨ew1_WayError,ew2_WayError,ew3_WayError⟩,
  tG:=⟨el0_NoAddress,el1_NoAddress,el2_NoAddress,el3_NoAddress,el4_NoAddress,el5_NoAddress⟩,
  tH:=⟨el0_NoRow,el1_NoRow,el2_NoRow,el3_NoRow,el4_NoRow,el5_NoRow⟩,
  tI:=⟨el0_NoName,el1_NoName,el2_NoName,el3_NoName,el4_NoName,el5_NoName⟩,
  tJ:=⟨el0_NoPattern,el1_NoPattern,el2_NoPattern,el3_NoPattern,el4_NoPattern,el5_NoPattern⟩,
  dD:=⟨ey_NoAddress,i7,ek_NoAddress⟩,
  tK:=⟨es_NoAddress,eo_NoAddress,ef_NoAddress_at,eh_NoAddress⟩,
  Fw:=⟨⟨el0_NoAddress,el1_NoAddress,el2_NoAddress,el3_NoAddress,el4_NoAddress,el5_NoAddress⟩,ef_NoAddress_at,eh_NoAddress⟩,
  tL:=eu_NoAddress_WayError,
  tM:=eu_NoRow_WayError,
  tN:=eu_NoName_WayError,
  tO:=eu_NoPattern_WayError,
  tP:=ei_NoAddress_ValueError,
  tQ:=ei_NoRow_ValueError,
  tR:=ei_NoName_ValueError,
  tS:=ei_NoPattern_ValueError,
  tT:=ei_NoAddress_NoBase,
  tU:=ei_NoRow_NoBase,
  tW:=ei_NoName_NoBase,
  tX:=ei_NoPattern_NoBase,
  tZ:=ei_NoAddress_NoValue,
  tf:=ei_NoRow_NoValue,
  tj:=ei_NoName_NoValue,
  tm:=ei_NoPattern_NoValue,
  tq:=ei_NoAddress_NoRow,
  tw:=ei_NoRow_NoRow,
  u0:=ei_NoName_NoRow,
  u3:=ei_NoPattern_NoRow,
  u4:=ei_NoAddress_NoName,
  u6:=ei_NoRow_NoName,
  u7:=ei_NoName_NoName,
  u8:=ei_NoPattern_NoName,
  u9:=ei_NoAddress_NoAddress,
  uA:=ei_NoRow_NoAddress,
  uB:=ei_NoName_NoAddress,
  uC:=ei_NoPattern_NoAddress,
  uD:=ei_NoAddress_NoPattern,
  uE:=ei_NoRow_NoPattern,
  uF:=ei_NoName_NoPattern,
  uG:=ei_NoPattern_NoPattern,
  aM:=kC_Cursor,aI:=⟨pg_Cursor,hd_Cursor,po_Cursor,sa_Cursor⟩,sj:=W.mg_of X Gl aC_Cursor,
  c9:=nf_Cursor_text,
  ar:=nf_Cursor_place,
  sk:=⟨mk_Cursor,a20,i20,kc_Cursor⟩,
  aO:=kC_Desk,aU:=⟨pg_Desk,hd_Desk,po_Desk,sa_Desk⟩,so:=W.mg_of X Gl aC_Desk,
  cO:=nf_Desk_address,
  cA:=nf_Desk_table,
  sq:=⟨mk_Desk,a99,i99,kc_Desk⟩}
 refine⟨d.f_law.fd,λs v=>?_,λbase _ _=>Hw g⟩;obtain⟨_,_,_,_,_,_,_,_,_,e,_⟩:=d.f_law.F.ex;rw[e];exact .of_eq rfl
theorem walk {l:PySem.W.OpenLaw}{q:Program}{loose:List Str}{XP:(Str->Option Value)->Heap->Prop}{YP:World->Heap->Prop}{d:DefRec}{K:Params->`F}(hn:l.most=some 63)(hdf:d.params.defaults=[])
  (hY:∀(w:World) (h:Heap),YP w h->(K w.params).In h)
  (F:∀(w:World) (mg:Str->Option Value) (fa:Addr) (h:Heap),(K w.params).In h->h.Ns mainGlobals mg->mg d.name=some (.ref fa) ->
   ∃fd:FuncData,(∀(s:Shared) (u:Value),BindsTo s fd ⟨[u],[]⟩ [("_law_script",u)])/\∀base:Heap,(K w.params).In base->base.Ns mainGlobals mg->FnOk l.prog w (K w.params) mg base CX0 12 fa fd ["_law_script"] (sp_law (K w.params))) :
  PySem.W.WalkO q loose XP YP l.row.toRowW d [] (λf vs=>PySem.call f vs):=
 L2.xx (n:=63) (k:=12) (x := "_law_script") (CX:=λ_=>CX0) (sp:=λw=>sp_law (K w.params)) hn `d hdf ⟨rfl,`d,`d⟩ hY F (λ_ _ a ns hl _ hS=>⟨a,ns,rfl,hS,hl,λ_=>rfl⟩) λ_ _ _ _ _ z=>z
end Wm
open PySem PySem.W PyProof.Rows
set_option maxRecDepth 100000 in
set_option maxHeartbeats 0 in
theorem PySem.Challenge.cw_waymark_k87_rows_refused_holds : PySem.Challenge.rw_waymark_k87_rows_refused.Holds := by
 w_on; refine hd ?_
 k_fill
 refine Wm.walk (l := PySem.Challenge.rw_waymark_k87_rows_refused) rfl rfl (fun w h Y => PySem.W.kIn_of Y) ?F
 case F =>
  intro w mg fa h KX G hmg
  refine' Wm.Hx (dt77_0 := 0) (dt87_0 := 0) KX G hmg ?d ?aC_Cursor ?aC_Desk ?en_NoAddress ?en_NoPattern ?en_NoName ?en_NoRow ?en_NoValue ?en_NoBase ?en_WayError ?a7 ?i7 ?l7 ?a20 ?i20 ?l20 ?a21 ?i21 ?l21 ?a22 ?i22 ?l22 ?a23 ?i23 ?l23 ?a45 ?i45 ?l45 ?a70 ?l70 ?d70 ?a77 ?l77 ?d77 ?a87 ?l87 ?d87 ?a98 ?i98 ?l98 ?a99 ?i99 ?l99 ?a100 ?i100 ?l100 ?a101 ?i101 ?l101 ?a102 ?i102 ?l102 ?a103 ?i103 ?l103 ?e_NO_WAY ?y0_NO_WAY ?y1_NO_WAY ?e_NAMED_WORDS ?y0_NAMED_WORDS ?e_WRITTEN_WORDS ?y0_WRITTEN_WORDS ?e_WITH_TEXT ?y0_WITH_TEXT ?e_WORTH_OF_WORDS ?yl_WORTH_OF_WORDS ?yh_WORTH_OF_WORDS ?e_NAMES_BEHIND ?yl_NAMES_BEHIND ?yh_NAMES_BEHIND ?ex_NoRow ?ex_NoName ?ex_NoPattern ?ew1_WayError ?ew2_WayError ?ew3_WayError ?el0_NoAddress ?el1_NoAddress ?el2_NoAddress ?el3_NoAddress ?el4_NoAddress ?el5_NoAddress ?el0_NoRow ?el1_NoRow ?el2_NoRow ?el3_NoRow ?el4_NoRow ?el5_NoRow ?el0_NoName ?el1_NoName ?el2_NoName ?el3_NoName ?el4_NoName ?el5_NoName ?el0_NoPattern ?el1_NoPattern ?el2_NoPattern ?el3_NoPattern ?el4_NoPattern ?el5_NoPattern ?ey_NoAddress ?ek_NoAddress ?es_NoAddress ?eo_NoAddress ?eh_NoAddress ?ef_NoAddress_at ?eu_NoAddress_WayError ?eu_NoRow_WayError ?eu_NoName_WayError ?eu_NoPattern_WayError ?ei_NoAddress_ValueError ?ei_NoRow_ValueError ?ei_NoName_ValueError ?ei_NoPattern_ValueError ?ei_NoAddress_NoBase ?ei_NoRow_NoBase ?ei_NoName_NoBase ?ei_NoPattern_NoBase ?ei_NoAddress_NoValue ?ei_NoRow_NoValue ?ei_NoName_NoValue ?ei_NoPattern_NoValue ?ei_NoAddress_NoRow ?ei_NoRow_NoRow ?ei_NoName_NoRow ?ei_NoPattern_NoRow ?ei_NoAddress_NoName ?ei_NoRow_NoName ?ei_NoName_NoName ?ei_NoPattern_NoName ?ei_NoAddress_NoAddress ?ei_NoRow_NoAddress ?ei_NoName_NoAddress ?ei_NoPattern_NoAddress ?ei_NoAddress_NoPattern ?ei_NoRow_NoPattern ?ei_NoName_NoPattern ?ei_NoPattern_NoPattern ?pg_Cursor ?hd_Cursor ?po_Cursor ?sa_Cursor ?mk_Cursor ?kc_Cursor ?nf_Cursor_text ?nf_Cursor_place ?pg_Desk ?hd_Desk ?po_Desk ?sa_Desk ?mk_Desk ?kc_Desk ?nf_Desk_address ?nf_Desk_table ?kk ?cc
  case d =>
   constructor
   (case ku | rS | rT | rV | ky | iF | fh | iG | rW | rX | rY | rZ | kz | rc | iH | iI | l9 | eM | iJ | lA | fi | fj | iK | re | rf | rg | iL | c_UP | cy | iM | rh | ri | rj | rk | rm => first | (refine' L2.DZ (PySem.W.mg_of KX G ?a); case a => k_is) | (refine' L2.E1 (PySem.W.mg_of KX G ?a); case a => k_is))
   (case fk | ro | aX | b4 | bc | lB | fm | c0 | cz | rp | iN | lC | rq | rz | sA => refine' ⟨PySem.W.mg_none_of KX G ?a, ?b⟩; (case a => k_is); (case b => with_unfolding_all rfl))
   all_goals
    refine' L2.DH KX G ?a ?l ?c ?k ?b
    (case a | l => k_is)
    (case c | k => first | k_is | with_unfolding_all kernel_rfl | with_unfolding_all rfl)
    case b =>
     intro _ _ _ _ _ _ us hl
     first
     | (obtain ⟨_, e⟩ := Wm.usl1 hl; subst e; rfl)
     | (obtain ⟨_, _, e⟩ := Wm.usl2 hl; subst e; rfl)
     | (obtain ⟨_, _, _, e⟩ := Wm.usl3 hl; subst e; rfl)
  (case aC_Cursor | aC_Desk => k_is)
  (case en_NoAddress | en_NoPattern | en_NoName | en_NoRow | en_NoValue | en_NoBase | en_WayError => first | k_is | kit_is | with_unfolding_all kernel_rfl | with_unfolding_all rfl)
  (case a7 | i7 | l7 | a20 | i20 | l20 | a21 | i21 | l21 | a22 | i22 | l22 | a23 | i23 | l23 | a45 | i45 | l45 | a70 | l70 | d70 | a77 | l77 | d77 | a87 | l87 | d87 | a98 | i98 | l98 | a99 | i99 | l99 | a100 | i100 | l100 | a101 | i101 | l101 | a102 | i102 | l102 | a103 | i103 | l103 | e_NO_WAY | y0_NO_WAY | y1_NO_WAY | e_NAMED_WORDS | y0_NAMED_WORDS | e_WRITTEN_WORDS | y0_WRITTEN_WORDS | e_WITH_TEXT | y0_WITH_TEXT | e_WORTH_OF_WORDS => k_is)
  (case yl_WORTH_OF_WORDS | yh_WORTH_OF_WORDS => first | k_is | with_unfolding_all kernel_rfl | with_unfolding_all rfl)
  (case e_NAMES_BEHIND => k_is)
  (case yl_NAMES_BEHIND | yh_NAMES_BEHIND => first | k_is | with_unfolding_all kernel_rfl | with_unfolding_all rfl)
  (case ex_NoRow | ex_NoName | ex_NoPattern | ew1_WayError | ew2_WayError | ew3_WayError | el0_NoAddress | el1_NoAddress | el2_NoAddress | el3_NoAddress | el4_NoAddress | el5_NoAddress | el0_NoRow | el1_NoRow | el2_NoRow | el3_NoRow | el4_NoRow | el5_NoRow | el0_NoName | el1_NoName | el2_NoName | el3_NoName | el4_NoName | el5_NoName | el0_NoPattern | el1_NoPattern | el2_NoPattern | el3_NoPattern | el4_NoPattern | el5_NoPattern | ey_NoAddress | ek_NoAddress | es_NoAddress | eo_NoAddress | eh_NoAddress | ef_NoAddress_at | eu_NoAddress_WayError | eu_NoRow_WayError | eu_NoName_WayError | eu_NoPattern_WayError | ei_NoAddress_ValueError | ei_NoRow_ValueError | ei_NoName_ValueError | ei_NoPattern_ValueError | ei_NoAddress_NoBase | ei_NoRow_NoBase | ei_NoName_NoBase | ei_NoPattern_NoBase | ei_NoAddress_NoValue | ei_NoRow_NoValue | ei_NoName_NoValue | ei_NoPattern_NoValue | ei_NoAddress_NoRow | ei_NoRow_NoRow | ei_NoName_NoRow | ei_NoPattern_NoRow | ei_NoAddress_NoName | ei_NoRow_NoName | ei_NoName_NoName | ei_NoPattern_NoName | ei_NoAddress_NoAddress | ei_NoRow_NoAddress | ei_NoName_NoAddress | ei_NoPattern_NoAddress | ei_NoAddress_NoPattern | ei_NoRow_NoPattern | ei_NoName_NoPattern | ei_NoPattern_NoPattern => first | k_is | kit_is | with_unfolding_all kernel_rfl | with_unfolding_all rfl)
  (case pg_Cursor | hd_Cursor | po_Cursor | sa_Cursor | mk_Cursor | kc_Cursor | nf_Cursor_text | nf_Cursor_place | pg_Desk | hd_Desk | po_Desk | sa_Desk | mk_Desk | kc_Desk | nf_Desk_address | nf_Desk_table => k_is)
  (case kk | cc => first | k_is | with_unfolding_all kernel_rfl | with_unfolding_all rfl)
