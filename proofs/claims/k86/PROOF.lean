import PyProof.Rows.All
import Wide.All
import OpenK.KLine
import OpenK.KMore
import OpenK.KRaise
import OpenK.KMake
import OpenK.KOwn
import OpenK.KDescr
import OpenK.KFacts
import KE.KIntText
import KE.KIsAll
import KE.RegKIsAll
import KE.KTabLook
import KE.LcSums
import KE.KxSplit
import KE.KStrWords
import KE.KSetInts
import KE.KRevIter
import KE.KDictOf
import KE.KMinKey
import Lean
import PyProof.EqAt
import PyProof.EqKinds
import PyProof.TupleCall
import PySem.Challenge.RW_waymark_k86_a_desk_leads
open List(take_nil drop_nil mem_filter mem_range mem_cons_self mem_cons_of_mem mem_cons mem_append mem_append_left mem_append_right length_cons map_cons length_map append_nil nodup_cons of_mem_zip length_take take_sublist mem_of_getElem? length_append length_replicate size_toArray length_drop map_nil all_cons any_cons replicate_succ flatten_cons append_assoc foldl_cons length_singleton length_dropLast not_mem_nil take_add_one map_append take_length length_filter_le filter_append filter_cons take_zero range_succ map_congr_left length_range take_of_length_le drop_eq_nil_of_le drop_zero flatMap_cons getElem_mem drop_eq_getElem_cons sum_cons drop_drop all_eq_true mem_map cons_append mem_singleton map_map nil_append foldl_append mem_of_getLast? replicate_succ' length_pos_iff map_take map_drop forIn_cons length_nil take_append_drop lookup_cons mem_range'_1 mem_of_mem_drop filter_map length_eq_zero_iff dropLast_concat_getLast nodup_nil mem_iff_getElem? mem_of_mem_take mapM_cons length_zipWith map_id nodup_append any_eq_true mem_map_of_mem map_id' all_map drop_left drop_length)
set_option Elab.async false
set_option compiler.extract_closed false
set_option linter.all false
set_option maxRecDepth 100000
structure PySem.W.Fast:Prop where(tw4290864757253303354 tw16864618592142003386 tw14904681115217272601 tw11898673842065290130 tw4684226298888400098 tw15235614512728720 tw17680797132471856694 tw10236332898609347644 tw4077048163395320219 tw3520257249291928256 tw13913613514976480042 tw4026147355466621588 tw14944914439602882260 tw599730875272715187 tw14785633479632635281 tw6128106870883400570 tw16053306600634468012 tw4903002758410956813 tw8060666987683057360 tw16217903435359918192 tw561727478393794602 tw10988764466652934233 tw14284835775768690865 tw4683681711962371626 tw16822532161544500889 tw11824586356888161845 tw13298828918039433023 tw2187251505897268136 tw12188032599808994241 tw2629151800749243262 tw6329614223026926184 tw11063759124802658401 tw13462424878891718212 tw13861969467909019144 tw855453113358079251 tw6953138203311097117 tw8739830900816887780 tw3308634892276815127 tw4323258101793500111 tw14334995849660946996 tw5462360663327728810 tw14689541978594310382 tw17188069144378779261 tw17137270108147033825 tw10741264400317747893 tw2399617604181995578 tw8392358500681263680 tw2474200967059427378 tw9381626543082597023 tw11401859456886640639 tw12884060626414724322 tw6526287140368922620 tw10294118229990073760 tw18384110700954362821 tw11566098044289413073 tw18101783494082082527 tw866717566613908145 tw15240619367488684849 tw15166322114958858414 tw17410218998227585676 tw9113380124883318265 tw16746677531222629524 tw2708214617527550399 tw8232614014015475128 tw15621415185263527259 tw786537726763496527 tw14219159868682941630 tw3919386906821981792 tw13861322856664149509 tw12887044766017154078 tw4971374062829452455 tw12681666616541194006 tw7217548393331319763 tw16636501806038632012 tw15254633091992210921 tw12125097214300078407 tw15214748959534726111 tw699815216081779126 tw8047209995159408440 tw7050804516273991350 tw13813618637161013713 tw6557801498797044033 tw5239429619861171699 tw11564986514327137767 tw11962351593759143498 tw13601115934706021691 tw13769103115541136327 tw9592521066531166775 tw5662061979359257339 tw2773992215795510196 tw3233987462203235646 tw7151132215420815488 tw4545961482378311905 tw6056707288978253535 tw11308061921803828041 tw1378205811072252300 tw16756451883985382160 tw16766484511958638138 tw6522051377940421278 tw2827255003249426055 tw11692469974320434101 tw2576523973992343609 tw8374155422468719031 tw4562827626845409882 tw14408862209902292549 tw1932759071263863916 tw5342471268416680606 tw4413860948169739490 tw4984954101795155761 tw7933485763601977624 tw4408816720484365081 tw2046362190076281809 tw18367749455379333440 tw7350462372000428638 tw16132249320637822498 tw16902440903046159558 tw8752102160057688731 tw4075453323654395381 tw5037459499596335280 tw14341141199694864594 tw17823556299335049440 tw2295934692909999376 tw9689729476882780088 tw17712571637424770508 tw987426779421491659 tw9830187390996839088 tw8319933024895762948 tw3985964047577975286 tw3592811809046731828 tw8297923619242306668 tw8002303944043701648 tw14261769069557060686 tw7053471978191194526 tw11384182702204212275 tw12265119437946496931 tw7873748247521183178 tw5675295018681328474 tw13946496683202179788 tw12020253756985099128 tw7509565986652818475 tw5306753302271460952 tw6128145076113358165 tw12459912946257978736 tw10258873121960336067 tw8565224436197482051 tw10510056951384868246 tw3726453103677007866 tw10149570385669482864 tw1950803216711332702 tw7592715696027808041 tw15577281813014381367 tw8909772338491405060 tw206757683497733573 tw10550934584343373414 tw1532491051758110099 tw3300257896294614128 tw5610444585433571239 tw11180800956215176064 tw2172276787581067923 tw2392593158011319353 tw1825952489489211193 tw1207101557538958131 tw17338325484393633139 tw2353971826329051332 tw4607425872040536859 tw15831126876759372255 tw9201617497623189827 tw12298192366917762067 tw13444670453868202053 tw5832305185047221409 tw18441984877410159329 tw5890639436620234070 tw12330612334027959195 tw651700358538967526 tw3436067635600285980 tw5171440476677080432 tw11907897558876765624 tw5665240888008139550 tw17155049476370652306 tw14592624751514493413 tw11402884983299125971 tw12250869413391326473 tw10341888390210383824 tw13812277999558781770 tw9592300441314626372 tw9433028549170029634 tw5285915839522022235 tw10611411778653204182 tw5395340147747708899 tw17163426234232328066 tw8219003486749837733 tw12917704675397863716 tw8171798328758944481 tw8006371003960147343 tw2107523057676978006 tw6162269159774324313 tw4341293187932698999 tw3235425350174046738 tw17170472223608059050 tw14424681132571578402 tw1809081822641864270 tw1835201335921387983 tw2741014181512449073 tw4524658085876675188 tw18310463660012746435 tw896878414759379649 tw16531682779099013679 tw7220529860990300233 tw13073492499399858440 tw15504105790966721872 tw7257460582837084246 tw12549542988036985293 tw2925816871977632210 tw14170518179582410385 tw16203965252921439515 tw7607420049574824106 tw6964298268145473253 tw5467331546851215429 tw14243238205550065757 tw6194202620331982285 tw2483420100392427323 tw384561282630992784 tw5961750674202012425 tw14935467056822913822 tw6822071536725586909 tw16409965706819354750 tw8733291241859026926 tw10016166984437732892 tw4260957879368936235 tw13394580363473044415 tw9300808954929066293 tw17435391645217708394 tw5221592684559293012 tw4635989785427082552 tw16955839230299176341 tw1922157984580058403 tw11823594873375168262 tw16279288168775177219 tw1915925776726481438 tw16005714805435085966 tw15813021780557525363 tw1979317910248211280 tw2956708394376553000 tw9784134513789038367 tw11033627544408312984 tw15702583709834301711 tw17577329170770402720 tw17187875760726034783 tw12297992134047619483 tw14746253646979254834 tw446995266069924076 tw14022695629967993375 tw18400553757987027518 tw14961746396406840608 tw16873086082458093902 tw10888863842102328177 tw2400638427578300857 tw14617222483516278133 tw12091130801917272685 tw13135312941875745310 tw1630143524128594353 tw13669536469129627823 tw2144661209622563809 tw6880980288501444468 tw1142673529048489019 tw12715800853834201459 tw7900394595670775223 tw5649666937502919571 tw9223045988441327695 tw7764699552788554220 tw447263597446747957 tw13385558918117058561 tw4382473104129494423 tw13831308528885131752 tw1956260828630720203 tw11161164713144168021 tw17464319187374939960 tw609457278022895560 tw10953238642706405951 tw2080317491765294665 tw429539710256275620 tw3365755272349913518 tw2132029292895624192 tw18095796173783872564 tw3433779192033484610 tw1000662321505670351 tw7086961617601330827 tw3303267245142563540 tw14391293386007564604 tw861502493610598483 tw16422413458241162112 tw4847832954114039074 tw6046103115902281144 tw11076892268299887525 tw14202271707224943307 tw211337195705725219 tw12468840222048715292 tw5000232492035539693 tw17062427158221528723 tw8222940686941784037 tw140236481695663071 tw9402243437249704421 tw9358312197846296583 tw7231845647793152400 tw13757698761724263525 tw4565167180653195659 tw4483904966330829159 tw7867829370405329436 tw5832146486336120021 tw628631919661052299 tw1986786360949550309 tw16721508838639397229 tw256976265262469064 tw13710940844802916613 tw11095110211248682772 tw11263768400469242888 tw2597523674469684444 tw9536688357841153863 tw3075201292733833056 tw14935156969734317764 tw2314633323536394700 tw5459702643516471331 tw17318462890700432884 tw13303234937177203706 tw6701911527682315725 tw14945517664934840698 tw14454166528178196959 tw2424988045566436242 tw14387916025512776202 tw7164969610272591079 tw1717767836212652739 tw15764947353670896545 tw8159993647027272844 tw16140922888777852060 tw896239598344801917 tw10698057553749749337 tw13567515925198824819 tw8356303796347215682 tw18073898193381586223 tw1719895430356276633 tw16607193741793207195 tw7001957589650049515 tw12314708539913122752 tw2261719852989239553 tw258204147387103276 tw8122695690928665766 tw5344687154915797982 tw140001813534094272 tw14226173905949225808 tw726351398001015727 tw5444512763150141072 tw15895094517606616290 tw12652081859355081885 tw9387514328989991554 tw14845619989558847073 tw16753820520455620202 tw11525993766095887173 tw12930229547647579594 tw13622603851894308203 tw15763482434359817770 tw908480701973217441 tw16919654943277366748 tw7181997581385953548 tw11219443903484984970 tw5498123283257192965 tw4470585836733325578 tw16108870410212019532 tw15861351967447197489 tw247591363613054380 tw8498532028676091811 tw10374632558016547081 tw17590705303994421779 tw7873786274422454737 tw542563422162235373 tw8157277791214410489 tw1599053048872161195 tw6714880395473160397 tw4480162626587320490 tw12670982853097334264 tw10052031235695348791 tw11066385474520676512 tw12132732476715806282 tw6259241058660970061 tw16378183091871739711 tw5323657890516693427 tw6508132753307246276 tw17397653436517662659 tw4490611911172417597 tw6782663255696616371 tw6702445572142316249 tw14196522196718054806 tw13931877327420345601 tw17292613610259460706 tw1383625962624193546 tw16925712312323332580 tw12669407529647801677 tw4993863958327201973 tw1607123104830579860 tw4046790133079468173 tw6105849179199505303 tw89384304926431821 tw14664691819916384248 tw9510108024173832781 tw1708089923452030704 tw14560624547652848805 tw12408111787983249662 tw14520296925931582552 tw8080008513338510535 tw2868442198168577507 tw15925456577456769635 tw4548300405975405348 tw11843415546741370313 tw1402340071739887797 tw12747814925858328940 tw5008593111378822452 tw12542895121996172375 tw11267315532378154396 tw15621116118777243554 tw15805137534098808535 tw17986951261819808105 tw3300454383303005205 tw6651725471809605288 tw11421057715548341654 tw3328118118096588273 tw6420159726195949164 tw7485256538410118956 tw6469784823511061222 tw18183970276198133131 tw7249310025045793396 tw15910123707662034135 tw14564479935002850509 tw9215358943560890414 tw4859391219904099992 tw17862349074038704544 tw11151835277377553703 tw14736888041290939073 tw6188973233030003785 tw3543459598558145280 tw13855379610559885079 tw18004296560267143027 tw10958628066121416707 tw14703100239697439463 tw6858818405166986180 tw17518593693041627797 tw5960047855520388891 tw11524815483048965402 tw15326580083554890809 tw15142666989864626641 tw17613222154834848340 tw16654469307462801742 tw3641951560692057861 tw16003985067176294414 tw5622701340561072331 tw14154597600763967237 tw306047672372848657 tw5872530126848033075 tw6631347999910079877 tw12528533614272120300 tw2941924889016668590 tw17691633702590694504 tw10019012548757998224 tw12826555694032677247 tw4704452742865826424 tw28018229315631829 tw9796564346219866840 tw18157406047293677543 tw13956191218907399338 tw6542358382571353910 tw11489344026974618541 tw12740759652641322565 tw8643551285600056189 tw11518781391428005469 tw11957856504981274048 tw8908233856664302321 tw10910644110388302437 tw16260866306193365299 tw13813548295540068894 tw17360015989920007124 tw15685335758407661847 tw17852080271459398996 tw14833712730911297017 tw14995258362815363992 tw15541240446876304647 tw13142635158332540280 tw15771247859494662083 tw14849461344987154502 tw5101696844757716304 tw15475723433398761304 tw13810262117814702294 tw9947508896943372755 tw2078950565319712143 tw6607644564249050058 tw11317637306720784765 tw16899829786455025840 tw15554417296805563061 tw13557862171009465336 tw10842938092177581297 tw2990168724187919761 tw2789304352393801511 tw6124413428159637790 tw10095894221667365369 tw10861573186032746274 tw14594842627406614536 tw8432719020341155521 tw9553971096990549364 tw2403389108928632939 tw1725486776273817318 tw172746767574481773 tw11153475782318119604 tw14036186469904095446 tw8480184845173159842 tw14993981098963755598 tw3721919958574915784 tw12843764043397292189 tw463774138113389760 tw15593559885672580101 tw9969077435446430640 tw8924819469995637033 tw4860023922305330110 tw14553807712399142462 tw9848817304349107530 tw18328257000508772394 tw12798174099139212305 tw13465540834166320765 tw4512776594637900181 tw9404705873571188630 tw14074196154385387334 tw8995945545434573385 tw12717557048674177747 tw5522115075389312692 tw5994696166404524948 tw7374399212775623666 tw9116068151291705539 tw87601786513091389 tw1401067106901849026 tw14842496431369740429 tw6472337539984862722 tw6548459193220583526 tw615563214671542189 tw577049184839899653 tw11513857634932158529 tw17883462748017686043 tw2228412568605170491 tw17260811203177919210 tw622995879521568732 tw16101134707931498060 tw10297410513487048360 tw6248682570935725439 tw14782954611325821827 tw15401437161963490237 tw9304451534382375720 tw14135006944967825841 tw12921946191010883867 tw3198059409981156222 tw12901003280762261817 tw3475869608268796686 tw10903146660539688938 tw4804111812005502284 tw17483705464198625004 tw3713540243193553862 tw16682895059504647277 tw1205274952441263945 tw9806118890596472461 tw12727641955093265886 tw13953587524928339648 tw14061609134260724683 tw5874822333441161849 tw8865387616306378214 tw12165746136677619103 tw14801369171006070438 tw16060203290454839817 tw1495895850433845275 tw16859961878692490766 tw14938211915633500526 tw360634875079729221 tw10310341975313369176 tw12058884036946728934 tw11205608169257636508 tw5783627655825047438 tw8899516883271353254 tw16035376269474964883 tw2570914705882880060 tw8757255369765604158 tw17963105932079019327 tw2353497105660221152 tw991626836265849350 tw8185220541750880888 tw9646623106273453227 tw17658959251048325594 tw9950792792127014553 tw10159399881129095643 tw15053162017440198058 tw14479964200598819128 tw2997480634906808460 tw17760279517084355780 tw18031968618487185184 tw14329579894275425762 tw15590096980072825465 tw354308444213283272 tw15433366417846715934 tw6145912378217320015 tw1972164579936704799 tw17980500129456985241 tw14611616552423853409 tw9530734954097333506 tw18293242582946804979 tw3953844824629472508 tw9919008367099125623 tw9744259246892133002 tw7091221385724896812 tw3831019782443316194 tw2646887283097553488 tw16248296213531012650 tw11853640710764476214 tw9678289623588505577 tw14172470266813156586 tw12396662096508845406 tw13437419889732721216 tw5341297951324810720 tw3335794202401238526 tw3671519592330383864 tw5992840812097835891 tw9879335643197240621 tw15173544498738437827 tw16120054744476736488 tw5010956058597451964 tw4186743451310774866 tw1293241653719404408 tw17339309145561079191 tw4906484309439969231 tw547895379624588593 tw13366278800048369731 tw977512076041815475 tw2869065659524454656 tw17590876675597686902 tw3419001889969749887 tw9045458381397004210 tw4699756791338806529 tw6030501089693204938 tw14577027041581768965 tw2084650752826471497 tw643336161829623379 tw4436474186459923750 tw16902085369446701243 tw3099597729799864441 tw7351761721107533599 tw7007286002206832825 tw7501186508268903616 tw4171853373547519906 tw14136365326194722155 tw18003772858949239459 tw4953865588907285216 tw9003107776662980439 tw10192973710116140151 tw3374319085511977134 tw5702276774652866934 tw13979020848751968819 tw10519837036962490867 tw5404398260228975080 tw8912161614967838395 tw17643660023018599961 tw13343918040275786880 tw2810200551564342888 tw17267597263503486738 tw10282777137419654623 tw7943549864190904611 tw4449297822257671152 tw7046044490832178742 tw13307065042914920193 tw4561898282857576226 tw4493901809537577575 tw938635154573522699 tw16145670418848962200 tw5805800948307579973 tw6945566481307383155 tw15539815450414544023 tw10624116801336726872 tw13313058339493701161 tw7774113678449685934 tw2527701527901579348 tw13851971633180934007 tw12773500944031208451 tw5362036446546632119 tw15576859146164187699 tw9197174079833555027 tw11368310244458860372 tw8285278889055680438 tw10879749546641988924 tw5537553045615171315 tw8833860146974802555 tw18418582437962087742 tw8422229294311615681 tw4313010194945074917 tw16615150188913437886 tw16309811473084048462 tw9768418358887946270 tw10551173667578312727 tw2386784164831690217 tw9399754086935153974 tw15052318979288761249 tw5137589814051832496 tw3350206127114907401 tw12960429369202013873 tw11844019762684407370 tw12903330217458380548 tw6216382948874008006 tw15733337929971156237 tw523537741815420091 tw17016834523296244275 tw3676754643040562684 tw16629204123399850450 tw1891733041441978011 tw15752536640612570366 tw3391406489183083209 tw2595585439558603231 tw2595618661548880785 tw17382457898008728272 tw17348111734160510231 tw2455152089536381482 tw17817366049700826239 tw6884460384040791391 tw12431713363859531893 tw1467881925912835984 tw12132596417379514657 tw1692201390411429781 tw18248855084332350957 tw5072417060200589145 tw13547939009206843870 tw14760874974797668852 tw5002640475654186023 tw7480016910919988345 tw1070438729232803039 tw15127105006835628225 tw3778530596728393105 tw2466311954974566718 tw18094105663378112561 tw12768989823518198380 tw1937721966566455358 tw16728255500844073214 tw4946147512530127568 tw8737599933303070863 tw14332157829676619468 tw9630203353718772412 tw13215348057498601715 tw9977182230042388008 tw6331431999304432861 tw6851275008772768644 tw514280064592716601 tw13484562703626004877 tw2015444344454546412 tw2694234056635809718 tw5438652380644606353 tw4015202173357781934 tw16699271105357772698 tw16412085850373738351 tw17916429707943930468 tw4309217394794523951 tw17508347553164502932 tw4039707410889071942 tw11373181179767321252 tw3801850119919557013 tw5449601097390414333 tw6278996535519779258 tw8431482922422412695 tw12147665669636231765 tw15779231459743154856 tw819570635367399668 tw14859695947638507448 tw12369848792361866835 tw17510684818845775701 tw14847308668706973960 tw15402603294489630176 tw14607143338591219252 tw17659185236578331656 tw10161179621583223854 tw772564365185477556 tw14537775516033599862 tw6208910965292489261 tw14647417624928369756 tw13439652990877377571 tw10295913840692754127 tw14827714588952709054 tw17592209452093105858 tw15743010393045028110 tw1840220198017710270 tw11212356425047092601 tw14398111036562950334 tw14903569129155370506 tw8331849164307833061 tw13055953723892786844 tw15870398105094248349 tw18146532975450069615 tw16493865465440409018 tw8274446707539698164 tw9456574344343218679 tw16839002366802243188 tw8212203176049278890 tw2997492091776894028 tw15227483606004533461 tw18375999264515656923 tw2692750590507578028 tw14441679199631801671 tw8949853181751564097 tw209982475168477708 tw10792498714594961201 tw5634867526602368427 tw8972062959192195235 tw14963028359598502718 tw1998347030407657756 tw3897268976836264337 tw15495752065017430504 tw14538725608371270373 tw9615563845995560447 tw7837367980739423823 tw740290905518256060 tw13069393092227542028 tw11502921971960690029 tw13053770412826190925 tw16670775579421159206 tw6408400580700104982 tw6060609690816243450 tw4938610541543285704 tw10470340158578859262 tw8919978131948313185 tw12269216009862288129 tw13674586047789940208 tw14958820412457663293 tw6327569006664949090 tw7849710539792303170 tw12003660372656728261 tw6549852094080907030 tw866652123128751154 tw3681537716864247207 tw17334828202450815106 tw11429584451438056573 tw3239113980409921550 tw5274481202262711730 tw5920806927976990809 tw9860861378791804195 tw4063829332388037331 tw5667099127317398114 tw10988312798546598065 tw9757595895972200118 tw17499200519749734940 tw8997383693586321770 tw12772213712371865176 tw18124618509676941091 tw13032259773685033708 tw3270257207059953099 tw16626521671886133394 tw13348088958985639553 tw8186657734068701312 tw16860917588515726111 tw4334401890000744311 tw17678831435119133177 tw16226643914720891334:True)
set_option maxHeartbeats 0 in
open_top hd for PySem.Challenge.rw_waymark_k86_a_desk_leads
open PySem.Str(ofString)
abbrev Tq:=List Nat
local macro_rules|`(tactic| fail "k")=>`(tactic| decide +kernel)
set_option hygiene false
local macro_rules|`($x:name)=>match x.getName with|`d=>`(by decide)|`l=>`(by lia)|`D=>`(by fail "D")|`k=>`(by fail "k")|`c=>`(by fail "c")|`s=>`(by simp)|`E=>`(fun z=>by cases z)|`a=>`(fun z=>absurd rfl z)|`m=>`(model X.prog X.w)|`M=>`(model prog w)|`n=>`(Nat.le_refl _)|`r=>`(Same.refl _)|`f=>`(mem_cons_self ..)|`z=>`(s.heap.objs.size)|`y=>`(s1.heap.objs.size)|`x=>`(xs.length)|`L=>`(l.length)|`t=>`(t.length)|`T=>`(Value->Shared->Prop)|`O=>`(List (Addr×Obj))|`V=>`(List V)|`F=>`(W.Frag)|`o=>`(⟨_,rfl⟩)|`R=>`(⟨rfl,rfl⟩)|`A=>`(⟨l.toArray⟩)|_=>Lean.Macro.throwUnsupported
set_option hygiene true
namespace L2
open PySem PySem.Spec PyProof.Rows
noncomputable abbrev Key:=Sum Int Str
noncomputable def keyIs:Key->Value->Bool
 |.inl k,v=>Value.isInt k v
 |.inr x,v=>Value.isStrOf x v
noncomputable def keyH (w:World):Key->Int
 |.inl k=>hashInt k
 |.inr x=>hashStr w x
theorem bV:∀{k:Key}{v:Value},keyIs k v=true->(∃i t,k=Sum.inl i/\v=Value.int i t)\/(∃x t,k=Sum.inr x/\v=Value.str x t)
 |.inl i,v,h=>by obtain⟨t,e⟩:=Value.isInt_shape (k:=i) (v:=v) h;exact .inl ⟨i,t,rfl,e⟩
 |.inr x,v,h=>by obtain⟨t,e⟩:=Value.isStrOf_shape (x:=x) (v:=v) h;exact .inr ⟨x,t,rfl,e⟩
theorem uR (a b:Int):decide ((Sum.inl a:Key)=Sum.inl b)=(a == b):=by
 by_cases e:a=b
 .subst e;simp
 .have h:¬ (Sum.inl a:Key)=Sum.inl b:=λq=>e (Sum.inl.inj q);rw[decide_eq_false h];exact (beq_eq_false_iff_ne.mpr e).symm
theorem uS (a b:Str):decide ((Sum.inr a:Key)=Sum.inr b)=decide (a=b):=by
 by_cases e:a=b
 .subst e;simp
 .have h:¬ (Sum.inr a:Key)=Sum.inr b:=λq=>e (Sum.inr.inj q);rw[decide_eq_false h,decide_eq_false e]
theorem uT (a:Int)(b:Str):decide ((Sum.inl a:Key)=Sum.inr b)=false:=decide_eq_false (λq=>nomatch q)
theorem uU (a:Str)(b:Int):decide ((Sum.inr a:Key)=Sum.inl b)=false:=decide_eq_false (λq=>nomatch q)
noncomputable def mixKind (prog:Program)(w:World):PySem.KeyKind prog w Key where
 is:=keyIs
 hash:=keyH w
 inj:=λv a b ha hb=>by
  rcases bV ha with⟨i,t,rfl,rfl⟩|⟨x,t,rfl,rfl⟩
  .rcases bV hb with⟨j,u,rfl,e⟩|⟨y,u,rfl,e⟩
   .injection e with e1 _;rw[e1]
   .exact nomatch e
  .rcases bV hb with⟨j,u,rfl,e⟩|⟨y,u,rfl,e⟩
   .exact nomatch e
   .injection e with e1 _;rw[e1]
 byValue:=λk v h=>by rcases bV h with⟨i,t,rfl,rfl⟩|⟨x,t,rfl,rfl⟩ <;> rfl
 pyHash:=λhv h=>by
  rcases bV hv with⟨i,t,rfl,rfl⟩|⟨x,t,rfl,rfl⟩
  .exact wpAny_pyHash_int h
  .exact wpAny_pyHash_str h
 eqBool:=λhu hv h=>by
  rcases bV hu with⟨i,t,rfl,rfl⟩|⟨x,t,rfl,rfl⟩
  .rcases bV hv with⟨j,u,rfl,rfl⟩|⟨y,u,rfl,rfl⟩
   .rw[uR] at h;exact wpAny_eqBool_int h
   .rw[uT] at h;exact SeqAt.EqAt.int_str i t y u _ _ _ _ h
  .rcases bV hv with⟨j,u,rfl,rfl⟩|⟨y,u,rfl,rfl⟩
   .rw[uU] at h;exact SeqAt.EqAt.str_int x t j u _ _ _ _ h
   .rw[uS] at h;exact wpAny_eqBool_str h
 «strs»:=λk x t v h=>by
  rcases bV h with⟨i,u,rfl,e⟩|⟨y,u,rfl,e⟩
  .exact nomatch e
  .injection e with e1 _;subst e1;cases v <;> rfl
inductive V where
 |non|bl (b:Bool)|int (i:Int)|str (x:Str)|byt (b:Array UInt8)|flt (b:UInt64)|ref (a:Addr)|ty (n:String)
 deriving DecidableEq
def RelV:V->Value->Prop
 |.non,u=>u=Value.none
 |.bl b,u=>u=Value.bool b
 |.int i,u=>∃t,u=Value.int i t
 |.str x,u=>∃t,u=Value.str x t
 |.byt b,u=>∃t,u=Value.bytes b t
 |.flt b,u=>∃t,u=Value.float b t
 |.ref a,u=>u=Value.ref a
 |.ty n,u=>u=Value.type n
abbrev Vals:`V->List Value->Prop:=Paired RelV
theorem Vals.length {xs:`V}{us:List Value}(r:Vals xs us):`x=us.length:=Paired.length r
theorem Vals.get {xs:`V}{us:List Value}{i:Nat}{x:V}(h:Vals xs us)(e:xs[i]?=some x):∃u,us[i]?=some u/\RelV x u:=by
 induction h generalizing i with
 |nil=>cases e
 |cons r _ ih=>cases i with
  |zero=>cases e;exact⟨_,rfl,r⟩
  |succ i=>exact ih e
theorem Vals.set {x:V}{u:Value}(r:RelV x u){xs:`V}{us:List Value}(i:Nat)(h:Vals xs us):Vals (xs.set i x) (us.set i u):=by
 induction h generalizing i with
 |nil=>exact .nil
 |cons q t ih=>cases i with
  |zero=>exact .cons r t
  |succ i=>exact .cons q (ih i)
theorem Vals.append {xs ys:`V}{us ws:List Value}(h:Vals xs us)(s:Vals ys ws):Vals (xs++ys) (us++ws):=by
 induction h with
 |nil=>exact s
 |cons r _ ih=>exact .cons r ih
theorem Vals.take {xs:`V}{us:List Value}(n:Nat)(h:Vals xs us):Vals (xs.take n) (us.take n):=by
 induction h generalizing n with
 |nil=>rw[take_nil,take_nil];exact .nil
 |cons r _ ih=>cases n with
  |zero=>exact .nil
  |succ n=>exact .cons r (ih n)
theorem Vals.drop {xs:`V}{us:List Value}(n:Nat)(h:Vals xs us):Vals (xs.drop n) (us.drop n):=by
 induction h generalizing n with
 |nil=>rw[drop_nil,drop_nil];exact .nil
 |cons r t ih=>cases n with
  |zero=>exact .cons r t
  |succ n=>exact ih n
def RelO:Option V->Option Value->Prop
 |some v,some u=>RelV v u
 |none,none=>True
 |_,_=>False
def KV {κ:Type}:List (κ×V)->List (κ×Value)->Prop:=Paired λ(p:κ×V) (q:κ×Value)=>p.1=q.1/\RelV p.2 q.2
noncomputable def kV:Key->V
 |.inl i=>.int i
 |.inr x=>.str x
inductive HO where
 |lst (xs:`V)
 |tup (xs:`V)
 |dK (kvs:List (Key×V))|dT (kvs:List (List Key×V))
 |set (S:Int->Bool) (n:Nat)
 |ins (C dx:Addr) (fs:List (Str×V))
 |own (x:Addr)
 |xd (fs:List (Str×V))
 |met (f x:Addr)
 |rng (lo hi:Int)
 |frz (o:Obj) (u:HO)
 |tbl (ps:Array Value)
 |ext (φ:Heap->Prop)
noncomputable abbrev Hp:=Addr->Option HO
noncomputable def upd (H:Hp)(a:Addr)(o:HO):Hp:=λb=>if b=a then some o else H b
theorem aB {H:Hp}{a:Addr}{o:HO}:upd H a o a=some o:=by unfold upd;rw[if_pos rfl]
theorem aD {H:Hp}{a b:Addr}{o:HO}(h:b≠a):upd H a o b=H b:=by unfold upd;rw[if_neg h]
theorem uV {H:Hp}{a:Addr}{o u:HO}:upd (upd H a o) a u=upd H a u:=by funext b;unfold upd;split <;> rfl
theorem aY {H:Hp}{a b:Addr}{o u:HO}(h:H a=some o)(h':H b=some u)(d:o≠u):a≠b:=by intro e;subst e;rw[h] at h';exact d (Option.some.inj h')
theorem aG {H:Hp}{a b:Addr}{o:HO}(h:H a=some o)(h':H b=none):a≠b:=by intro e;subst e;rw[h] at h';cases h'
section
variable (P:Program)(w:World)
def ObjOk (H:Hp)(h:Heap)(a:Addr):HO->Prop
 |.lst xs=>`x<=sizeLine/\∃(its:List Value) (n:Nat),Vals xs its/\h.get? a=some {cls:=.type "list",data:=.seq its.toArray n}
 |.tup xs=>`x<=sizeLine/\∃its:List Value,Vals xs its/\IsTup h a its.toArray
 |.dK kvs=>kvs.length<=sizeLine/\(a == sysModules)=false/\∃vs,KV kvs vs/\h.DictOf (mixKind P w) a vs
 |.dT kvs=>kvs.length<=sizeLine/\(a == sysModules)=false/\∃xs:List (List Key×Addr×Value),
   Paired (λ(p:List Key×V) (q:List Key×Addr×Value)=>p.1=q.1/\H q.2.1=some (.tup (p.1.map kV))/\RelV p.2 q.2.2) kvs xs/\
   ∃o es ep,h.get? a=some o/\o.ExactDict/\o.data=.dict es ep/\es.toList=xs.map (entryOfKey (tupleKind (mixKind P w)))/\(xs.map (·.1)).Nodup
 |.set S n=>h.SetOf (intKind P w) a S n
 |.ins C dx fs=>H dx=some (.own a)/\fs.length<=1000/\dx≠a/\h.get? a=some (PySem.W.instObj C dx)/\
   ∃mA,h.Ns1 dx mA/\(∀f,RelO (fs.lookup f) (mA f))/\PySem.Within mA (fs.map (·.1))
 |.own _=>∃o,h.get? a=some o
 |.xd fs=>∃mA,h.Ns1 a mA/\∀f,RelO (fs.lookup f) (mA f)
 |.rng lo hi=>∃t u v,h.get? a=some {cls:=.type "range",data:=.fields #[.int lo t,.int hi u,.int 1 v]}
 |.frz o u=>h.get? a=some o/\ObjOk H h a u
 |.tbl ps=>h.get? a=some {cls:=.none,data:=.fields ps}
 |.met f x=>h.get? a=some (PySem.W.methodObj (.ref f) (.ref x))
 |.ext φ=>φ h/\(∃o,h.get? a=some o)/\∀h1 h2:Heap,φ h1->(∀o,h1.get? a=some o->h2.get? a=some o)->φ h2
def HOk (H:Hp)(h:Heap):Prop:=∀a o,H a=some o->ObjOk P w H h a o
end
section
variable {P:Program}{w:World}{H H':Hp}{h h':Heap}{a:Addr}{o:HO}
theorem ObjOk.lt (x:ObjOk P w H h a o):a < h.objs.size:=by
 cases o with
 |lst xs=>obtain⟨_,_,_,_,e⟩:=x;exact Heap.lt_size e
 |tup xs=>obtain⟨_,_,_,p⟩:=x;exact p.lt
 |dK kvs=>obtain⟨_,_,_,_,o,_,_,e,_⟩:=x;exact Heap.lt_size e
 |dT kvs=>obtain⟨_,_,_,_,o,_,_,e,_⟩:=x;exact Heap.lt_size e
 |set S n=>obtain⟨o,_,_,_,e,_⟩:=x;exact Heap.lt_size e
 |ins C dx fs=>obtain⟨_,_,_,e,_⟩:=x;exact Heap.lt_size e
 |own y=>obtain⟨_,e⟩:=x;exact Heap.lt_size e
 |xd fs=>obtain⟨_,⟨_,_,_,e,_⟩,_⟩:=x;exact Heap.lt_size e
 |rng lo hi=>obtain⟨_,_,_,e⟩:=x;exact Heap.lt_size e
 |frz ob u=>obtain⟨e,_⟩:=x;exact Heap.lt_size e
 |tbl ps=>exact Heap.lt_size (show h.get? a=some _ from x)
 |met f y=>exact Heap.lt_size (show h.get? a=some _ from x)
 |ext φ=>obtain⟨_,⟨_,e⟩,_⟩:=x;exact Heap.lt_size e
theorem Paired.mapP {α β:Type}{F G:α->β->Prop}{l₁:List α}{l₂:List β}(h:Paired F l₁ l₂)(f:∀a b,F a b->G a b):Paired G l₁ l₂:=by
 induction h with
 |nil=>exact .nil
 |cons r _ ih=>exact .cons (f _ _ r) ih
theorem ObjOk.stay (x:ObjOk P w H h a o)(k:∀b u,(b=a\/H b=some (.own a))->h.get? b=some u->h'.get? b=some u)
  (ho:∀b,H b=some (.own a)->H' b=some (.own a)) (ht:∀b xs,H b=some (.tup xs)->H' b=some (.tup xs)):ObjOk P w H' h' a o:=by
 induction o with
 |lst xs=>obtain⟨z,dl,n,r,e⟩:=x;exact⟨z,dl,n,r,k _ _ (.inl rfl) e⟩
 |tup xs=>obtain⟨z,dl,r,ob,e,c⟩:=x;exact⟨z,dl,r,ob,k _ _ (.inl rfl) e,c⟩
 |dK kvs=>obtain⟨z,y,vs,r,ob,es,ep,e,c⟩:=x;exact⟨z,y,vs,r,ob,es,ep,k _ _ (.inl rfl) e,c⟩
 |dT kvs=>obtain⟨z,y,xs,r,ob,es,ep,e,c⟩:=x;exact⟨z,y,xs,Paired.mapP r λp q z=>⟨z.1,ht _ _ z.2.1,z.2.2⟩,ob,es,ep,k _ _ (.inl rfl) e,c⟩
 |set S n=>obtain⟨ob,es,ep,t,e,c⟩:=x;exact⟨ob,es,ep,t,k _ _ (.inl rfl) e,c⟩
 |ins C dx fs=>obtain⟨d,z,ne,e,mA,⟨od,es,ep,e2,c⟩,r⟩:=x;exact⟨ho _ d,z,ne,k _ _ (.inl rfl) e,mA,⟨od,es,ep,k _ _ (.inr d) e2,c⟩,r⟩
 |own y=>obtain⟨ob,e⟩:=x;exact⟨ob,k _ _ (.inl rfl) e⟩
 |xd fs=>obtain⟨mA,⟨od,es,ep,e,c⟩,r⟩:=x;exact⟨mA,⟨od,es,ep,k _ _ (.inl rfl) e,c⟩,r⟩
 |rng lo hi=>obtain⟨t,u,v,e⟩:=x;exact⟨t,u,v,k _ _ (.inl rfl) e⟩
 |frz ob u ih=>obtain⟨e,q⟩:=x;exact⟨k _ _ (.inl rfl) e,ih q⟩
 |tbl ps=>have e:h.get? a=some {cls:=.none,data:=.fields ps}:=x;show h'.get? a=some {cls:=.none,data:=.fields ps};exact k a _ (.inl rfl) e
 |met f y=>have e:h.get? a=some (PySem.W.methodObj (.ref f) (.ref y)):=x;show h'.get? a=some (PySem.W.methodObj (.ref f) (.ref y));exact k a _ (.inl rfl) e
 |ext φ=>obtain⟨p,⟨o,e⟩,st⟩:=x;exact⟨st _ _ p λo q=>k _ _ (.inl rfl) q,⟨o,k _ _ (.inl rfl) e⟩,st⟩
theorem HOk.lt (x:HOk P w H h)(e:H a=some o):a < h.objs.size:=(x a o e).lt
theorem HOk.fresh (x:HOk P w H h)(e:h.objs.size<=a):H a=none:=by
 cases q:H a with
 |none=>rfl
 |some u=>exact absurd (Nat.lt_of_lt_of_le (x.lt q) e) (Nat.lt_irrefl _)
theorem HOk.kept (x:HOk P w H h)(k:∀b u,h.get? b=some u->h'.get? b=some u):HOk P w H h':=λa o e=>
 (x a o e).stay (λb u _ q=>k b u q) (λ_ q=>q) λ_ _ q=>q
theorem HOk.laid (x:HOk P w H h)(k:∀b u,h.get? b=some u->h'.get? b=some u)(hp:h.objs.size<=a)(new:ObjOk P w (upd H a o) h' a o):HOk P w (upd H a o) h':=λb u e=>by
 have hn:=x.fresh hp;by_cases hb:b=a
 .subst hb;rw[aB] at e;cases e;exact new
 .rw[aD hb] at e;exact (x b u e).stay (λc v _ q=>k c v q) (λc q=>by rw[aD (aG q hn)];exact q) λc xs q=>by rw[aD (aG q hn)];exact q
end
def Rd (H:Hp)(a:Addr)(u:HO):Prop:=H a=some u\/∃o,H a=some (.frz o u)
theorem Rd.ok {P:Program}{w:World}{H:Hp}{h:Heap}{a:Addr}{u:HO}(r:Rd H a u)(x:HOk P w H h):ObjOk P w H h a u:=by
 rcases r with r|⟨o,r⟩
 .exact x a u r
 .obtain⟨_,q⟩:=x a _ r;exact q
def Mut:Option HO->Prop
 |some (.lst _)=>True
 |some (.dK _)=>True
 |some (.dT _)=>True
 |some (.set _ _)=>True
 |some (.ins _ _ _)=>True
 |some (.ext _)=>True
 |_=>False
section
variable {P:Program}{w:World}{H:Hp}{h h':Heap}{x e:Addr}{o':HO}
theorem HOk.write (ok:HOk P w H h)(mu:Mut (H x))(he:e=x\/H e=some (.own x))(k:∀b u,b≠e->h.get? b=some u->h'.get? b=some u)(heo:∃u,h'.get? e=some u)
  (new:ObjOk P w (upd H x o') h' x o'):HOk P w (upd H x o') h':=λb u q=>by
 have nown:∀c y,H c=some (.own y)->c≠x:=λc y r z=>by subst z;rw[r] at mu;exact mu
 have ntup:∀c xs,H c=some (.tup xs)->c≠x:=λc xs r z=>by subst z;rw[r] at mu;exact mu
 by_cases hb:b=x
 .subst hb;rw[aB] at q;cases q;exact new
 .rw[aD hb] at q;by_cases hbe:b=e
  .have q':H b=some (.own x):=by
    rcases he with z|z
    .exact absurd (hbe.trans z) hb
    .rw[hbe];exact z
   rw[q] at q';cases q';obtain⟨v,hv⟩:=heo;exact⟨v,by rw[hbe];exact hv⟩
  .refine (ok b u q).stay (λc v hc r=>k c v ?_ r) (λc r=>by rw[aD (nown c b r)];exact r) λc xs r=>by rw[aD (ntup c xs r)];exact r
   rcases hc with rfl|hc
   .exact hbe
   .rintro rfl;rcases he with z|z
    .exact nown c b hc z
    .rw[hc] at z;cases z;exact hb rfl
end
structure Un (fs ex:List Addr)(H H':Hp)(h h':Heap):Prop where
 keep:∀b o,h.get? b=some o->H b=none->b∉fs->b∉ex->h'.get? b=some o
 slot:∀b o,h.get? b=some o->H b=none->b∈fs->b∉ex->∃sl,h'.get? b=some {o with slots:=sl}
 free:∀b o,h.get? b=some o->H b=none->b∉ex->H' b=none
 there:∀b o,h.get? b=some o->b∉ex->∃o',h'.get? b=some o'
 tups:∀b xs,H b=some (.tup xs)->H' b=some (.tup xs)
 frzs:∀b o u,H b=some (.frz o u)->H' b=some (.frz o u)
 tbls:∀b ps,H b=some (.tbl ps)->∃more,H' b=some (.tbl (ps++more))
section
variable {fs fs' ex ex':List Addr}{H H1 H2:Hp}{h h1 h2 h':Heap}{a x e:Addr}{o:HO}
theorem Un.any (u:Un fs ex H H1 h h1){b:Addr}{ob:Obj}(q:h.get? b=some ob)(n:H b=none)(hx:b∉ex):∃sl,h1.get? b=some {ob with slots:=sl}:=by
 by_cases hb:b∈fs
 .exact u.slot b ob q n hb hx
 .exact⟨ob.slots,u.keep b ob q n hb hx⟩
theorem Un.kept (k:∀b u,h.get? b=some u->h'.get? b=some u):Un fs ex H H h h':=
 ⟨λb ob q _ _ _=>k b ob q,λb ob q _ _ _=>⟨ob.slots,k b ob q⟩,λ_ _ _ n _=>n,λb ob q _=>⟨ob,k b ob q⟩,λ_ _ q=>q,λ_ _ _ q=>q,λ_ ps q=>⟨#[],by rw[q];simp⟩⟩
theorem Un.refl:Un fs ex H H h h:=Un.kept λ_ _ q=>q
theorem Un.laid (k:∀b u,h.get? b=some u->h'.get? b=some u)(hp:h.objs.size<=a)(hn:H a=none):Un fs ex H (upd H a o) h h' where
 keep:=λb u q _ _ _=>k b u q
 slot:=λb u q _ _ _=>⟨u.slots,k b u q⟩
 free:=λb u q n _=>by rw[aD (Nat.ne_of_lt (Nat.lt_of_lt_of_le (Heap.lt_size q) hp))];exact n
 there:=λb u q _=>⟨u,k b u q⟩
 tups:=λb xs q=>by rw[aD (aG q hn)];exact q
 frzs:=λb u xs q=>by rw[aD (aG q hn)];exact q
 tbls:=λb ps q=>⟨#[],by rw[aD (aG q hn),q];simp⟩
theorem Un.write (mu:Mut (H x))(he:e=x\/H e=some (.own x))(k:∀b u,b≠e->h.get? b=some u->h'.get? b=some u)(heo:∃u,h'.get? e=some u):Un fs ex H (upd H x o) h h':=by
 have hx:∀b,H b=none->b≠x:=λb n z=>by subst z;rw[n] at mu;exact mu
 have hb:∀b,H b=none->b≠e:=λb n z=>by
  subst z;rcases he with r|r
  .exact hx b n r
  .rw[n] at r;cases r
 have hm:∀b u,H b=some u->¬ Mut (some u)->b≠x:=λb u q nm z=>by subst z;rw[q] at mu;exact nm mu
 refine⟨λb u q n _ _=>k b u (hb b n) q,λb u q n _ _=>⟨u.slots,k b u (hb b n) q⟩,λb u q n _=>by rw[aD (hx b n)];exact n,λb u q _=>?_,
  λb xs q=>by rw[aD (hm b _ q λz=>z)];exact q,λb u xs q=>by rw[aD (hm b _ q λz=>z)];exact q,λb ps q=>⟨#[],by rw[aD (hm b _ q λz=>z),q];simp⟩⟩
 by_cases dl:b=e
 .subst dl;exact heo
 .exact⟨u,k b u dl q⟩
end
noncomputable def trk (h:Heap)(H:Hp):List Addr:=(List.range h.objs.size).filter λa=>(H a).isSome
noncomputable def hidT (h:Heap)(H:Hp):Heap:=PySem.W.hideAll h (trk h H)
theorem uW (h:Heap)(H:Hp):(hidT h H).objs.size=h.objs.size:=PySem.W.hideAll_size _ _
theorem uX {h:Heap}{H:Hp}{b:Addr}{o:Obj}(e:h.get? b=some o)(n:H b=none):(hidT h H).get? b=some o:=
 PySem.W.hideAll_get _ e λhm=>by have q:(H b).isSome=true:=(mem_filter.mp hm).2;rw[n] at q;simp at q
theorem uY {h:Heap}{H:Hp}{b:Addr}{o:Obj}(e:(hidT h H).get? b=some o):h.get? b=some o/\H b=none:=by
 have e':h.get? b=some o:=PySem.W.of_hideAll (trk h H) e;refine⟨e',?_⟩;cases q:H b with
 |none=>rfl
 |some x=>have hm:b∈trk h H:=mem_filter.mpr ⟨mem_range.mpr (Heap.lt_size e'),by simp[q]⟩;have z:(hidT h H).get? b=none:=PySem.W.hideAll_none (trk h H) hm;rw[z] at e;cases e
noncomputable def allNews (g h:Heap)(L:Addr):`O:=(List.range h.objs.size).filterMap λa=>if a=L\/(g.get? a).isSome=true then none else (h.get? a).map λo=>(a,o)
noncomputable def rest (g h:Heap)(L d:Addr):`O:=(allNews g h L).filter λp=>decide (p.1≠d)
structure Mod (K:`F)(mg:Str->Option Value)(base:Heap):Prop where
 kin:K.In base
 glob:base.Ns mainGlobals mg
 blt:∃mb,base.Ns builtinsNs mb/\∀x:Str,x ≠ "__name__" -> mb x=bootBuiltins x
 nolimit:base.NoLimit
structure Cx where
 prog:Program
 w:World
 K:`F
 mg:Str->Option Value
 base:Heap
 A:Around
 N:List Str
 s₀:Shared
 H₀:Hp
 env:Env
 outer:List Env
 stack:List Env
 ex:List Addr
 fn:Str->Bool
 calm:Bool
 pn:`O
 xe:Value->Shared->Prop
noncomputable def frs (l:List Env):List Addr:=l.filterMap (·.frame)
noncomputable abbrev Cx.fs (X:Cx):List Addr:=frs X.outer
def Vis (sc:Scope)(x:Str):Prop:=sc.names.lookup x=some .local\/sc.names.lookup x=some .cell\/sc.names.lookup x=some .free
def Loc (sc:Scope)(x:Str):Prop:=sc.names.lookup x=some .local\/sc.names.lookup x=some .cell
def Look (env:Env)(h:Heap)(m:Str->Option Value)(x:Str)(u:Value):Prop:=
 (env.kindOf x=some .local/\m x=some u)\/((env.kindOf x=some .cell\/env.kindOf x=some .free)/\∃c,env.cells.lookup x=some c/\h.IsCell c (some u))
structure Cx.Ok (X:Cx):Prop where
 mod:Mod X.K X.mg X.base
 kind:X.env.scope.kind=.function
 glob:X.env.globals=mainGlobals
 blt:X.env.builtins=builtinsNs
 above:X.s₀.heap.objs.size<=X.env.locals
 inj:∀x y c,X.env.cells.lookup x=some c->X.env.cells.lookup y=some c->x=y
 has:∀x,(X.env.kindOf x=some .cell\/X.env.kindOf x=some .free)->∃c,X.env.cells.lookup x=some c
 cab:∀x c,X.fn x=true->X.env.cells.lookup x=some c->X.s₀.heap.objs.size<=c
 hd:X.calm=true->X.A.handled=none
 frames:X.A.frames=some X.stack
 stk:X.stack=X.outer\/(X.stack=X.env::X.outer/\X.env.frame=some X.env.locals)
 exf:∀b∈X.ex,b≠X.env.locals/\∀x c,X.env.cells.lookup x=some c->c≠b
 bs:∀b o,X.base.get? b=some o->X.s₀.heap.get? b=some o/\X.H₀ b=none
 bsz:X.base.objs.size<=X.s₀.heap.objs.size
 noex:∀b o,X.base.get? b=some o->b∉X.ex
 exfs:∀b∈X.ex,b∉X.fs
 funs:X.s₀.heap.FunFrames X.base X.outer
 frf:∀b∈X.fs,X.H₀ b=none
structure Inv (X:Cx)(pins:`O)(Z:List (Option V))(H:Hp)(s:Shared):Prop where
 ok:X.Ok
 os:s.os=X.s₀.os
 bare:AllBare s.gens
 base:Un X.fs X.ex X.H₀ H X.s₀.heap s.heap
 loc:∃m,s.heap.Ns X.env.locals m/\∀(i:Nat) (x:Str) (v:V),X.N[i]?=some x->Z[i]?=some (some v)->Vis X.env.scope x->∃u,RelV v u/\Look X.env s.heap m x u
 cell:∀x c,X.env.cells.lookup x=some c->∃v,s.heap.IsCell c v
 free:H X.env.locals=none
 freeC:∀x c,X.env.cells.lookup x=some c->H c=none
 pin:∀p∈X.pn++pins,s.heap.get? p.1=some p.2/\H p.1=none/\p.1≠X.env.locals/\p.1∉X.fs/\∀v,p.2.data≠.cell v
 hok:HOk X.prog X.w H s.heap
 len:Z.length=X.N.length
section
variable {X:Cx}{pins:`O}{Z:List (Option V)}{H H':Hp}{s:Shared}{h':Heap}
theorem Cx.Ok.nofr (ok:X.Ok){b:Addr}{o:Obj}(e:X.base.get? b=some o):b∉X.fs:=λhb=>by have:=(ok.funs.mem hb).1;rw[e] at this;cases this
theorem Inv.bs (I:Inv X pins Z H s):∀b o,X.base.get? b=some o->s.heap.get? b=some o/\H b=none:=λb o e=>
 ⟨I.base.keep b o (I.ok.bs b o e).1 (I.ok.bs b o e).2 (I.ok.nofr e) (I.ok.noex b o e),I.base.free b o (I.ok.bs b o e).1 (I.ok.bs b o e).2 (I.ok.noex b o e)⟩
theorem Inv.bk (I:Inv X pins Z H s):∀b o,X.base.get? b=some o->s.heap.get? b=some o:=λb o e=>(I.bs b o e).1
theorem Inv.mod (I:Inv X pins Z H s):Mod X.K X.mg X.base:=I.ok.mod
theorem Inv.kIn (I:Inv X pins Z H s):X.K.In s.heap:=I.ok.mod.kin.keeps I.bk
theorem Inv.lt (I:Inv X pins Z H s):X.env.locals < `z:=let ⟨_,hn,_⟩:=I.loc;hn.lt
theorem Inv.sz (I:Inv X pins Z H s):X.s₀.heap.objs.size<=`z:=Nat.le_trans I.ok.above (Nat.le_of_lt I.lt)
theorem Inv.nofs (I:Inv X pins Z H s){a:Addr}(h:`z<=a):a∉X.fs:=λhb=>by obtain⟨_,o,ho,_⟩:=I.ok.funs.mem hb;exact absurd (Nat.lt_of_lt_of_le (Heap.lt_size ho) (Nat.le_trans I.sz h)) (Nat.lt_irrefl _)
theorem Inv.cne (I:Inv X pins Z H s):∀x c,X.env.cells.lookup x=some c->c≠X.env.locals:=λx c e z=>by obtain⟨v,o,ho,hd⟩:=I.cell x c e;obtain⟨m,⟨o',es,ep,ho',hd',_⟩,_⟩:=I.loc;rw[z,ho'] at ho;cases ho;rw[hd'] at hd;cases hd
theorem Inv.funs (I:Inv X pins Z H s):s.heap.FunFrames X.base X.outer:=by
 have dl:∀(l:List Env),(∀b∈frs l,b∈X.fs)->X.s₀.heap.FunFrames X.base l->s.heap.FunFrames X.base l:=by
  intro l;induction l with
  |nil=>intro _ _;trivial
  |cons env r ih=>intro hs hl;obtain⟨hk,⟨L,o,hf,hn,ho,hd⟩,hr⟩:=hl;have hL:L∈X.fs:=hs L (by unfold frs;rw[List.filterMap_cons,hf];exact mem_cons_self);obtain⟨sl,e⟩:=I.base.slot L o ho (I.ok.frf L hL) hL λz=>I.ok.exfs L z hL;exact⟨hk,⟨L,_,hf,hn,e,hd⟩,ih (λb hb=>hs b (by unfold frs;rw[List.filterMap_cons,hf];exact mem_cons_of_mem _ hb)) hr⟩
 exact dl X.outer (λ_ hb=>hb) I.ok.funs
theorem Inv.stack (I:Inv X pins Z H s):s.heap.FunFrames X.base X.stack:=by
 rcases I.ok.stk with e|⟨e,hf⟩
 .rw[e];exact I.funs
 .rw[e];obtain⟨m,hn,_⟩:=I.loc;refine .cons (by rw[I.ok.kind];decide) hf hn ?_ I.funs;exact Heap.get?_none_of_le (Nat.le_trans I.ok.bsz I.ok.above)
theorem Inv.stkSub (I:Inv X pins Z H s):∀b∈frs X.stack,b∈X.env.locals::X.fs:=λb hb=>by
 rcases I.ok.stk with e|⟨e,hf⟩
 .rw[e] at hb;exact mem_cons_of_mem _ hb
 .rw[e] at hb;unfold frs at hb;rw[List.filterMap_cons,hf] at hb;exact hb
theorem Inv.stkFree (I:Inv X pins Z H s):∀b∈frs X.stack,H b=none:=λb hb=>by
 rcases mem_cons.mp (I.stkSub b hb) with e|hb
 .rw[e];exact I.free
 .obtain⟨_,o,ho,_⟩:=I.ok.funs.mem hb;exact I.base.free b o ho (I.ok.frf b hb) λz=>I.ok.exfs b z hb
theorem Inv.step {g':Array GenState}{t':Nat}{d':Drawn}{ch:List Addr}(I:Inv X pins Z H s)
  (hch:∀b∈ch,(b∈X.ex\/X.s₀.heap.objs.size<=b)/\b≠X.env.locals/\(∀x c,X.env.cells.lookup x=some c->c≠b)/\∀p∈X.pn++pins,p.1≠b)
  (keep:∀b o,b≠X.env.locals->b∉X.fs->b∉ch->s.heap.get? b=some o->H b=none->h'.get? b=some o)
  (slot:∀b o,b≠X.env.locals->b∈X.fs->b∉ch->s.heap.get? b=some o->H b=none->∃sl,h'.get? b=some {o with slots:=sl}) (free:∀b o,b∉ch->s.heap.get? b=some o->H b=none->H' b=none)
  (there:∀b o,b∉ch->s.heap.get? b=some o->∃o',h'.get? b=some o')
  (tups:∀b xs,H b=some (.tup xs)->H' b=some (.tup xs)) (frzs:∀b o u,H b=some (.frz o u)->H' b=some (.frz o u)) (tbls:∀b ps,H b=some (.tbl ps)->∃more,H' b=some (.tbl (ps++more)))
  (ns:∀m,s.heap.Ns X.env.locals m->h'.Ns X.env.locals m) (hok:HOk X.prog X.w H' h') (hg:AllBare g') :
  Inv X pins Z H' { s with heap:=h',gens:=g',drawn:=d',toks:=t' }:=by
 have Cl:∀b o,X.s₀.heap.get? b=some o->b≠X.env.locals:=λb o e=>Nat.ne_of_lt (Nat.lt_of_lt_of_le (Heap.lt_size e) I.ok.above);have BT:∀b o,X.s₀.heap.get? b=some o->b∉X.ex->b∉ch:=λb o e hx hb=>by
  rcases (hch b hb).1 with z|z
  .exact hx z
  .exact absurd (Nat.lt_of_lt_of_le (Heap.lt_size e) z) (Nat.lt_irrefl _)
 have dl:∀x c,X.env.cells.lookup x=some c->∀v,s.heap.IsCell c v->h'.IsCell c v:=λx c e v ⟨o,ho,hd⟩=>by
  have mt:c∉ch:=λz=>(hch c z).2.2.1 x c e rfl;by_cases hc:c∈X.fs
  .obtain⟨sl,q⟩:=slot c o (I.cne x c e) hc mt ho (I.freeC x c e);exact⟨_,q,hd⟩
  .exact⟨o,keep c o (I.cne x c e) hc mt ho (I.freeC x c e),hd⟩
 refine⟨I.ok,I.os,hg,⟨λb o e n hb hx=>?_,λb o e n hb hx=>?_,λb o e n hx=>?_,λb o e hx=>?_,λb xs e=>tups b xs (I.base.tups b xs e),λb o xs e=>frzs b o xs (I.base.frzs b o xs e),λb ps e=>?_⟩,?_,λx c e=>?_,?_,λx c e=>?_,λp hp=>?_,hok,I.len⟩
 .exact keep b o (Cl b o e) hb (BT b o e hx) (I.base.keep b o e n hb hx) (I.base.free b o e n hx)
 .obtain⟨sl,e1⟩:=I.base.slot b o e n hb hx;obtain⟨Fn,e2⟩:=slot b _ (Cl b o e) hb (BT b o e hx) e1 (I.base.free b o e n hx);exact⟨Fn,e2⟩
 .obtain⟨o',e1⟩:=I.base.there b o e hx;exact free b o' (BT b o e hx) e1 (I.base.free b o e n hx)
 .obtain⟨o',e1⟩:=I.base.there b o e hx;exact there b o' (BT b o e hx) e1
 .obtain⟨m1,e1⟩:=I.base.tbls b ps e;obtain⟨m2,e2⟩:=tbls b _ e1;exact⟨m1++m2,by rw[e2,Array.append_assoc]⟩
 .obtain⟨m,hn,hl⟩:=I.loc;refine⟨m,ns m hn,λi x v e1 e2 e3=>?_⟩;obtain⟨u,r,l⟩:=hl i x v e1 e2 e3;refine⟨u,r,?_⟩;rcases l with l|⟨k,c,e,z⟩
  .exact .inl l
  .exact .inr ⟨k,c,e,dl x c e _ z⟩
 .obtain⟨v,z⟩:=I.cell x c e;exact⟨v,dl x c e v z⟩
 .obtain⟨m,⟨o,_,_,ho,_⟩,_⟩:=I.loc;exact free _ o (λz=>(hch _ z).2.1 rfl) ho I.free
 .obtain⟨v,o,ho,hd⟩:=I.cell x c e;exact free c o (λz=>(hch c z).2.2.1 x c e rfl) ho (I.freeC x c e)
 .obtain⟨e,n,ne,nf,d⟩:=I.pin p hp;have mt:p.1∉ch:=λz=>(hch p.1 z).2.2.2 p hp rfl;exact⟨keep p.1 p.2 ne nf mt e n,free p.1 p.2 mt e n,ne,nf,d⟩
theorem Inv.un {t':Nat}(I:Inv X pins Z H s)(u:Un X.fs [] H H' s.heap h')(hok:HOk X.prog X.w H' h'):Inv X pins Z H' { s with heap:=h',toks:=t' }:=by
 obtain⟨m,⟨o,es,ep,ho,r⟩,_⟩:=id I.loc;obtain⟨sl,hL⟩:=u.any ho I.free `s;exact I.step (g':=s.gens) (d':=s.drawn) (ch:=[]) (λ_ z=>nomatch z) (λb o _ hb _ e n=>u.keep b o e n hb `s) (λb o _ hb _ e n=>u.slot b o e n hb `s) (λb o _ e n=>u.free b o e n `s) (λb o _ e=>u.there b o e `s) u.tups u.frzs u.tbls (λm' hm=>by obtain⟨o',mt,BT,dl,r'⟩:=hm;rw[ho] at dl;cases dl;exact⟨_,mt,BT,hL,r'⟩) hok I.bare
theorem Inv.call {g':Array GenState}{t':Nat}{d':Drawn}{ch:List Addr}(I:Inv X pins Z H s)(u:Un (frs X.stack) ch H H' s.heap h')(hok:HOk X.prog X.w H' h')(hg:AllBare g')
  (hch:∀b∈ch,(b∈X.ex\/X.s₀.heap.objs.size<=b)/\b≠X.env.locals/\(∀x c,X.env.cells.lookup x=some c->c≠b)/\∀p∈X.pn++pins,p.1≠b) :
  Inv X pins Z H' { s with heap:=h',gens:=g',drawn:=d',toks:=t' }:=by
 obtain⟨m,⟨o,es,ep,ho,r⟩,_⟩:=id I.loc;obtain⟨sl,hL⟩:=u.any ho I.free λz=>(hch _ z).2.1 rfl;exact I.step (ch:=ch) hch (λb o hL hb hc e n=>u.keep b o e n (λz=>(mem_cons.mp (I.stkSub b z)).elim hL hb) hc) (λb o _ _ hc e n=>u.any e n hc) (λb o hc e n=>u.free b o e n hc) (λb o hc e=>u.there b o e hc) u.tups u.frzs u.tbls (λm' hm=>by obtain⟨o',mt,BT,dl,r'⟩:=hm;rw[ho] at dl;cases dl;exact⟨_,mt,BT,hL,r'⟩) hok hg
theorem Inv.turned {t':Nat}{it:Addr}(I:Inv X pins Z H s)(k:∀b o,b≠it->s.heap.get? b=some o->h'.get? b=some o)(hn:H it=none)(hL:it≠X.env.locals)
  (h1:it∈X.ex\/X.s₀.heap.objs.size<=it) (h2:∀x c,X.env.cells.lookup x=some c->c≠it) (h3:∀p∈X.pn++pins,p.1≠it):Inv X pins Z H {s with heap:=h',toks:=t' }:=by
 have dl:∀b u,H b=some u->b≠it:=λb u e z=>by rw[z,hn] at e;cases e
 refine I.step (g':=s.gens) (d':=s.drawn) (ch:=[it]) (λb hb=>?_) (λb o _ _ hc e _=>k b o (λz=>hc (by simp[z])) e) (λb o _ _ hc e _=>⟨o.slots,k b o (λz=>hc (by simp[z])) e⟩) (λ_ _ _ _ n=>n)
  (λb o hc e=>⟨o,k b o (λz=>hc (by simp[z])) e⟩) (λ_ _ e=>e) (λ_ _ _ e=>e) (λb ps e=>⟨#[],by rw[e];simp⟩) (λm hm=>?_) (λb u e=>?_) I.bare
 .have e:b=it:=by simpa using hb
  subst e;exact⟨h1,hL,h2,h3⟩
 .obtain⟨o,es,ep,ho,r⟩:=hm;exact⟨o,es,ep,k _ o (Ne.symm hL) ho,r⟩
 .refine (I.hok b u e).stay (λc v hc q=>k c v ?_ q) (λ_ q=>q) λ_ _ q=>q;rcases hc with z|z
  .rw[z];exact dl b u e
  .exact dl c _ z
theorem Inv.tok (I:Inv X pins Z H s)(t:Nat):Inv X pins Z H {s with toks:=t}:=I.un (h':=s.heap) (t':=t) Un.refl I.hok
theorem Inv.kept {t':Nat}(I:Inv X pins Z H s)(k:∀b u,s.heap.get? b=some u->h'.get? b=some u):Inv X pins Z H {s with heap:=h',toks:=t' }:=I.un (Un.kept k) (I.hok.kept k)
theorem Inv.laid {a:Addr}{o:HO}{t':Nat}(I:Inv X pins Z H s)(k:∀b u,s.heap.get? b=some u->h'.get? b=some u)(hp:`z<=a)(new:ObjOk X.prog X.w (upd H a o) h' a o) :
  Inv X pins Z (upd H a o) {s with heap:=h',toks:=t' }:=I.un (Un.laid k hp (I.hok.fresh hp)) (I.hok.laid k hp new)
theorem Inv.write {x e:Addr}{o:HO}{t':Nat}(I:Inv X pins Z H s)(mu:Mut (H x))(he:e=x\/H e=some (.own x))(k:∀b u,b≠e->s.heap.get? b=some u->h'.get? b=some u)(heo:∃u,h'.get? e=some u)
  (new:ObjOk X.prog X.w (upd H x o) h' x o):Inv X pins Z (upd H x o) {s with heap:=h',toks:=t' }:=I.un (Un.write mu he k heo) (I.hok.write mu he k heo new)
theorem Inv.pins_of {pins':`O}(I:Inv X pins Z H s)(h:∀p∈pins',s.heap.get? p.1=some p.2/\H p.1=none/\p.1≠X.env.locals/\p.1∉X.fs/\∀v,p.2.data≠.cell v):Inv X pins' Z H s:=
 ⟨I.ok,I.os,I.bare,I.base,I.loc,I.cell,I.free,I.freeC,λp hp=>(mem_append.mp hp).elim (λz=>I.pin p (mem_append_left _ z)) (h p),I.hok,I.len⟩
theorem k8 {N:List Str}(hN:N.Nodup){i j:Nat}{x:Str}(a:N[i]?=some x)(b:N[j]?=some x):i=j:=by obtain⟨h1,e1⟩:=List.getElem?_eq_some_iff.mp a;obtain⟨h2,e2⟩:=List.getElem?_eq_some_iff.mp b;exact (List.getElem_inj hN).mp (e1.trans e2.symm)
theorem k9 {M:Model}{A:Around}{E:`T}{i:Nat}{x:Str}{v:V}{u:Value}{Q:Unit->Shared->Prop}(I:Inv X pins Z H s)(hN:X.N.Nodup)(hi:X.N[i]?=some x)(hx:Loc X.env.scope x)(r:RelV v u)
  (h:∀s',Inv X pins (Z.set i (some v)) H s'->(∃a,Heap.SameBut a s.heap s'.heap/\(a=X.env.locals\/X.env.cells.lookup x=some a))->Q () s') (hf:X.fn x=true\/X.env.scope.names.lookup x=some .local:=by first|exact .inl rfl|exact .inr rfl|assumption):wpAny M A (storeName X.env x u) Q E s:=by
 obtain⟨m,hn,hl⟩:=id I.loc;have Fn:(X.env.scope.kind == .class || (X.env.scope.kind == .module && X.env.locals != X.env.globals))=false:=by rw[I.ok.kind];rfl
 have hiσ:i < Z.length:=by rw[I.len];exact (List.getElem?_eq_some_iff.mp hi).1
 have Gc:=I.cne;have dl:∀{a:Addr}{h':Heap},(∃o,s.heap.get? a=some o/\H a=none)->Heap.SameBut a s.heap h'->HOk X.prog X.w H h':=λ{a h'} ha hs b ob e=>by
  obtain⟨_,_,mt⟩:=ha;refine (I.hok b ob e).stay (λc w' hc q=>(hs.2 c ?_).trans q) (λ_ q=>q) λ_ _ q=>q;rintro rfl;rcases hc with rfl|hc
  .rw[mt] at e;cases e
  .rw[mt] at hc;cases hc
 rcases hx with hk|hk
 .refine wpAny_storeName_local hk hn (λh' Ge hs=>?_) Fn;obtain⟨oL,_,_,Gd,_⟩:=id hn;refine h _ ⟨I.ok,I.os,I.bare,⟨λb o e n hb hx=>?_,λb o e n hb hx=>?_,I.base.free,λb o e hx=>?_,I.base.tups,I.base.frzs,I.base.tbls⟩,⟨_,Ge,λj y v' e1 e2 e3=>?_⟩,λy c e=>?_,I.free,I.freeC,λp hp=>?_,dl ⟨oL,Gd,I.free⟩ hs,by simpa using I.len⟩ ⟨_,hs,.inl rfl⟩
  .exact (hs.2 b (Nat.ne_of_lt (Nat.lt_of_lt_of_le (Heap.lt_size e) I.ok.above))).trans (I.base.keep b o e n hb hx)
  .obtain⟨sl,e1⟩:=I.base.slot b o e n hb hx;exact⟨sl,(hs.2 b (Nat.ne_of_lt (Nat.lt_of_lt_of_le (Heap.lt_size e) I.ok.above))).trans e1⟩
  .obtain⟨o',e1⟩:=I.base.there b o e hx;exact⟨o',(hs.2 b (Nat.ne_of_lt (Nat.lt_of_lt_of_le (Heap.lt_size e) I.ok.above))).trans e1⟩
  .by_cases hj:j=i
   .subst hj;rw[hi] at e1;cases e1;rw[List.getElem?_set_self hiσ] at e2;cases e2;exact⟨u,r,.inl ⟨hk,`s⟩⟩
   .rw[List.getElem?_set_ne (Ne.symm hj)] at e2;obtain⟨u',r',q⟩:=hl j y v' e1 e2 e3;refine⟨u',r',?_⟩;rcases q with⟨k,e⟩|⟨k,c,e,z⟩
    .refine .inl ⟨k,?_⟩;have:y≠x:=λe=>hj (k8 hN e1 (e▸hi));simp[this,e]
    .exact .inr ⟨k,c,e,z.sameBut hs (Gc y c e)⟩
  .obtain⟨w',z⟩:=I.cell y c e;exact⟨w',z.sameBut hs (Gc y c e)⟩
  .obtain⟨e,n,ne,nf,d⟩:=I.pin p hp;exact⟨(hs.2 p.1 ne).trans e,n,ne,nf,d⟩
 .have Cl:X.fn x=true:=by
   rcases hf with z|z
   .exact z
   .rw[z] at hk;cases hk
  obtain⟨c,hc⟩:=I.ok.has x (.inl hk);obtain⟨w',z⟩:=I.cell x c hc;refine wpAny_storeName_cell I.ok.kind hk hc z (λh' Gb hs=>?_);obtain⟨oc,Fr,BT⟩:=id z;refine h {s with heap:=h' } ⟨I.ok,I.os,I.bare,⟨λb o e n hb hx=>?_,λb o e n hb hx=>?_,I.base.free,λb o e hx=>?_,I.base.tups,I.base.frzs,I.base.tbls⟩,⟨m,hn.sameBut hs (Ne.symm (Gc x c hc)),λj y v' e1 e2 e3=>?_⟩,λy c' e=>?_,I.free,I.freeC,λp hp=>?_,dl ⟨oc,Fr,I.freeC x c hc⟩ hs,by simpa using I.len⟩ ⟨c,hs,.inr hc⟩
  .exact (hs.2 b (Nat.ne_of_lt (Nat.lt_of_lt_of_le (Heap.lt_size e) (I.ok.cab x c Cl hc)))).trans (I.base.keep b o e n hb hx)
  .obtain⟨sl,e1⟩:=I.base.slot b o e n hb hx;exact⟨sl,(hs.2 b (Nat.ne_of_lt (Nat.lt_of_lt_of_le (Heap.lt_size e) (I.ok.cab x c Cl hc)))).trans e1⟩
  .obtain⟨o',e1⟩:=I.base.there b o e hx;exact⟨o',(hs.2 b (Nat.ne_of_lt (Nat.lt_of_lt_of_le (Heap.lt_size e) (I.ok.cab x c Cl hc)))).trans e1⟩
  .by_cases hj:j=i
   .subst hj;rw[hi] at e1;cases e1;rw[List.getElem?_set_self hiσ] at e2;cases e2;exact⟨u,r,.inr ⟨.inl hk,c,hc,Gb⟩⟩
   .rw[List.getElem?_set_ne (Ne.symm hj)] at e2;obtain⟨u',r',q⟩:=hl j y v' e1 e2 e3;refine⟨u',r',?_⟩;rcases q with q|⟨k,c',e,z'⟩
    .exact .inl q
    .refine .inr ⟨k,c',e,z'.sameBut hs ?_⟩;rintro rfl;exact hj (k8 hN e1 (I.ok.inj _ _ _ e hc▸hi))
  .by_cases Ga:c'=c
   .subst Ga;exact⟨_,Gb⟩
   .obtain⟨w2,z2⟩:=I.cell y c' e;exact⟨w2,z2.sameBut hs Ga⟩
  .obtain⟨e,n,ne,nf,d⟩:=I.pin p hp;refine⟨(hs.2 p.1 ?_).trans e,n,ne,nf,d⟩;intro q;rw[q,Fr] at e;have q':oc=p.2:=Option.some.inj e;exact d w' (by rw[<- q'];exact BT)
theorem kA {M:Model}{A:Around}{E:`T}{i:Nat}{x:Str}{v:V}{u:Value}{Q:Unit->Shared->Prop}(I:Inv X pins Z H s)(hN:X.N.Nodup)(hi:X.N[i]?=some x)(hx:Loc X.env.scope x)(r:RelV v u)
  (h:∀s',Inv X pins (Z.set i (some v)) H s'->Q () s') (hf:X.fn x=true\/X.env.scope.names.lookup x=some .local:=by first|exact .inl rfl|exact .inr rfl|assumption):wpAny M A (storeName X.env x u) Q E s:=
 k9 I hN hi hx r (λs' I' _=>h s' I') hf
end
noncomputable abbrev XK:=Value->Option Addr->Hp->Prop
noncomputable abbrev St:=List (Option V)
noncomputable abbrev VK:=V->Hp->Prop
noncomputable abbrev TE:=St->Hp->VK->Prop
noncomputable abbrev TT:=St->Hp->(Bool->Hp->Prop)->Prop
noncomputable abbrev TA:=St->Hp->(`V->Hp->Prop)->Prop
structure Ends where
 nx:St->Hp->Prop
 rt:VK
 bk:St->Hp->Prop:=λ_ _=>False
 ct:St->Hp->Prop:=λ_ _=>False
noncomputable abbrev TS:=Ends->St->Hp->Prop
def EP (X:Cx)(pins:`O)(Z:St)(Q:VK)(u:Value)(s':Shared):Prop:=∃v H',Inv X pins Z H' s'/\RelV v u/\Q v H'
def TP (X:Cx)(pins:`O)(Z:St)(Q:Bool->Hp->Prop)(b:Bool)(s':Shared):Prop:=∃H',Inv X pins Z H' s'/\Q b H'
def AP (X:Cx)(pins:`O)(Z:St)(Q:`V->Hp->Prop)(us:List Value)(s':Shared):Prop:=∃vs H',Inv X pins Z H' s'/\Vals vs us/\Q vs H'
def SP (X:Cx)(pins:`O)(D:Ends)(f:Flow)(s':Shared):Prop:=
 match f with
 |.next=>∃Z' H',Inv X pins Z' H' s'/\D.nx Z' H'
 |.brk=>∃Z' H',Inv X pins Z' H' s'/\D.bk Z' H'
 |.cont=>∃Z' H',Inv X pins Z' H' s'/\D.ct Z' H'
 |.ret u=>∃v Z' H',Inv X pins Z' H' s'/\RelV v u/\D.rt v H'
def PE (X:Cx)(e:Expr)(t:TE):Prop:=
 ∀(pins:`O) (s:Shared) (Z:St) (H:Hp) (Q:VK),Inv X pins Z H s->t Z H Q->wpAny `m X.A (eval e X.env) (EP X pins Z Q) X.xe s
def PT (X:Cx)(e:Expr)(t:TT):Prop:=
 ∀(pins:`O) (s:Shared) (Z:St) (H:Hp) (Q:Bool->Hp->Prop),Inv X pins Z H s->t Z H Q->wpAny `m X.A (isTrue e X.env (eval e X.env)) (TP X pins Z Q) X.xe s
def PW (X:Cx)(e:Expr)(t:TT):Prop:=
 ∀(whole:Sem Value) (pins:`O) (s:Shared) (Z:St) (H:Hp) (Q:Bool->Hp->Prop),Inv X pins Z H s->t Z H Q->wpAny `m X.A (isTrue e X.env whole) (TP X pins Z Q) X.xe s
theorem PW.pt {X:Cx}{e:Expr}{t:TT}(h:PW X e t):PT X e t:=h _
def PA (X:Cx)(es:List Expr)(t:TA):Prop:=
 ∀(pos:Pos) (pins:`O) (s:Shared) (Z:St) (H:Hp) (Q:`V->Hp->Prop),Inv X pins Z H s->t Z H Q->wpAny `m X.A (spliced (backTo pos (starEach es X.env))) (AP X pins Z Q) X.xe s
def PS (X:Cx)(st:Stmt)(t:TS):Prop:=
 ∀(pins:`O) (s:Shared) (Z:St) (H:Hp) (D:Ends),Inv X pins Z H s->t D Z H->wpAny `m X.A (exec st X.env) (SP X pins D) X.xe s
def PSs (X:Cx)(st:List Stmt)(t:TS):Prop:=
 ∀(pins:`O) (s:Shared) (Z:St) (H:Hp) (D:Ends),Inv X pins Z H s->t D Z H->wpAny `m X.A (execs st X.env) (SP X pins D) X.xe s
theorem thn {α:Type}{t:Sem α}{Q Q':α->Shared->Prop}{M:Model}{A:Around}{E:`T}{s:Shared}(h:wpAny M A t Q E s)(hQ:∀a s,Q a s->Q' a s):wpAny M A t Q' E s:=wpAny_mono h hQ λ_ _ x=>x
section
variable {X:Cx}
theorem bin {a b:Expr}{ta tb:TE}(ha:PE X a ta)(hb:PE X b tb){pins:`O}{s:Shared}{Z:St}{H:Hp}{R:V->V->Hp->Prop}(I:Inv X pins Z H s)(h:ta Z H λx H1=>tb Z H1 λy H2=>R x y H2)
  {α:Type}{Q:α->Shared->Prop}{f:Value->Value->Sem α}
  (hf:∀v u s2 x y H2,Inv X pins Z H2 s2->RelV x v->RelV y u->R x y H2->wpAny `m X.A (f v u) Q X.xe s2) :
  wpAny `m X.A (eval a X.env) (λv s₁=>wpAny `m X.A (eval b X.env) (λu s₂=>wpAny `m X.A (f v u) Q X.xe s₂) X.xe s₁) X.xe s:=by
 refine thn (ha pins s Z H _ I h) λv s1 W'=>?_;obtain⟨x,H1,I1,r1,q1⟩:=W';refine thn (hb pins s1 Z H1 _ I1 q1) λu s2 W'=>?_;obtain⟨y,H2,I2,r2,q2⟩:=W';exact hf v u s2 x y H2 I2 r1 r2 q2
def rdV (R:V->Prop)(o:Option (Option V)):Prop:=o.join.elim False R
theorem uZ {R:V->Prop}{o:Option (Option V)}(h:rdV R o):∃v,o=some (some v)/\R v:=match o,h with|some (some v),h=>⟨v,rfl,h⟩
def look (i:Nat)(Z:St)(R:V->Prop):Prop:=rdV R Z[i]?
theorem ua {v:V}{Z:St}{R:V->Prop}:look 0 (some v::Z) R=R v:=rfl
theorem ub {i:Nat}{o:Option V}{Z:St}{R:V->Prop}:look (i+1) (o::Z) R=look i Z R:=rfl
def tVar (i:Nat):TE:=λZ H Q=>look i Z λv=>Q v H
def tC (v:V):TE:=λ_ H Q=>Q v H
theorem kB {i:Nat}{x:Str}{pos:Pos}(hN:X.N[i]?=some x)(hv:Vis X.env.scope x)(hd:(x == ("__debug__" : Str))=false:=by decide)(hcd:(x == ("__classdict__" : Str))=false:=by decide):PE X (.Name x pos) (tVar i):=by
 intro mt s Z H Q I h;obtain⟨v,e,h⟩:=uZ h;obtain⟨m,hn,hl⟩:=I.loc;obtain⟨u,r,l⟩:=hl i x v hN e hv;have BT:EP X mt Z Q u s:=⟨v,H,I,r,h⟩;rcases l with⟨hk,hm⟩|⟨hk,c,hc,dl⟩
 .exact wpAny_Name (wpAny_loadName_local I.ok.kind hk hn hm BT) hd
 .rcases hk with hk|hk
  .exact wpAny_Name (wpAny_loadName_cell I.ok.kind hk hc dl BT) hd
  .exact wpAny_Name (wpAny_loadName_free I.ok.kind hk hc dl BT hcd) hd
theorem aZ {i j pos}:PE X (.Constant (.int i) j pos) (tC (.int i)):=λ_ _ _ H _ I h=>wpAny_Constant_int ⟨.int i,H,I.tok _,`o,h⟩
theorem di {b j pos}:PE X (.Constant (.bool b) j pos) (tC (.bl b)):=λ_ _ _ H _ I h=>Constant_bool ⟨.bl b,H,I,rfl,h⟩
theorem dj {j pos}:PE X (.Constant .none j pos) (tC .non):=λ_ _ _ H _ I h=>Constant_none ⟨.non,H,I,rfl,h⟩
theorem aJ {x j pos}:PE X (.Constant (.str x) j pos) (tC (.str x)):=λ_ _ _ H _ I h=>Calls.Constant_str ⟨.str x,H,I.tok _,`o,h⟩
def Gl (X:Cx)(x:Str):Prop:=X.env.kindOf x=some .globalImplicit
theorem gf {E:`T}{pins:`O}{s:Shared}{Z:St}{H:Hp}{x:Str}{u:Value}{pos:Pos}{Q:`T}(I:Inv X pins Z H s)(hg:Gl X x)(hm:X.mg x=some u)(h:Q u s)
  (hd:(x == ("__debug__" : Str))=false:=by decide):wpAny `m X.A (eval (.Name x pos) X.env) Q E s:=
 Calls.Name_function_global I.ok.kind hg (Calls.loadGlobal_global (by rw[I.ok.glob];exact I.mod.glob.keeps I.bk) hm h) hd
theorem bL {E:`T}{pins:`O}{s:Shared}{Z:St}{H:Hp}{x:Str}{u:Value}{pos:Pos}{Q:`T}(I:Inv X pins Z H s)(hg:Gl X x)(hm:X.mg x=none)(hv:bootBuiltins x=some u)(h:Q u s)
  (hn:x ≠ "__name__" := by decide) (hd:(x == ("__debug__" : Str))=false:=by decide):wpAny `m X.A (eval (.Name x pos) X.env) Q E s:=by
 obtain⟨mb,h1,h2⟩:=I.mod.blt;exact Calls.Name_function_global I.ok.kind hg (Calls.loadGlobal_builtin (by rw[I.ok.glob];exact I.mod.glob.keeps I.bk) hm (by rw[I.ok.blt];exact h1.keeps I.bk) ((h2 x hn).trans hv) h) hd
theorem bE {x:Str}{v:V}{u:Value}{pos:Pos}(hg:Gl X x)(hm:X.mg x=some u)(r:RelV v u)(hd:(x == ("__debug__" : Str))=false:=by decide):PE X (.Name x pos) (tC v):=
 λ_ _ _ H _ I h=>gf I hg hm ⟨v,H,I,r,h⟩ hd
theorem kC {x:Str}{v:V}{u:Value}{pos:Pos}(hg:Gl X x)(hm:X.mg x=none)(hv:bootBuiltins x=some u)(r:RelV v u)(hn:x ≠ "__name__" := by decide)(hd:(x == ("__debug__" : Str))=false:=by decide):PE X (.Name x pos) (tC v):=
 λ_ _ _ H _ I h=>bL I hg hm hv ⟨v,H,I,r,h⟩ hn hd
variable {a b:Expr}{ta tb:TE}{pos:Pos}
def PC (X:Cx)(op:CmpOp)(a b:Expr)(t:TE):Prop:=
 ∀(pins:`O) (s:Shared) (Z:St) (H:Hp) (Q:VK),Inv X pins Z H s->t Z H Q ->
  wpAny `m X.A (eval a X.env) (λv s₁=>wpAny `m X.A (eval b X.env) (λu s₂=>wpAny `m X.A (compareOp op v u) (EP X pins Z Q) X.xe s₂) X.xe s₁) X.xe s
def tB (t:TE):TT:=λZ H Q=>t Z H λx H1=>∃c,x=.bl c/\Q c H1
theorem G5 {op:CmpOp}{t:TE}(h:PC X op a b t)(h1:behindInMarks op b=false:=by first|exact nobehind _ `d `d|rfl):PT X (.Compare a [op] [b] pos) (tB t):=by intro pins s Z H Q I hw;refine wpAny_isTrue_Compare1 (thn (h pins s Z H _ I hw) λv s1 h1=>thn h1 λu s2 h2=>thn h2 λc s3 W'=>?_) h1;obtain⟨x,H1,I1,r1,q1⟩:=W';obtain⟨d,rfl,q⟩:=q1;cases r1;exact wpAny_truthy_bool ⟨H1,I1,q⟩
theorem af {e:Expr}{t:TE}(h:PE X e t)(he:∀whole,isTrue e X.env whole=(do let v <- whole;standAt e.pos;holding [v] (truthy v)):=by intro _;rfl):PT X e (tB t):=by intro pins s Z H Q I hw;refine isTrue_plain (thn (h pins s Z H _ I hw) λv s1 W'=>?_) (he _);obtain⟨x,H1,I1,r1,q1⟩:=W';obtain⟨d,rfl,q⟩:=q1;cases r1;exact wpAny_truthy_bool ⟨H1,I1,q⟩
variable {tA tB':TT}{rest:List Expr}
def tAnd (t u:TT):TT:=λZ H Q=>t Z H λc H1=>if c=true then u Z H1 Q else Q false H1
def tOr (t u:TT):TT:=λZ H Q=>t Z H λc H1=>if c=true then Q true H1 else u Z H1 Q
def tNot (t:TT):TT:=λZ H Q=>t Z H λc H1=>Q (!c) H1
theorem dk (ha:PT X a tA):PW X (.BoolOp .And [a] pos) tA:=by
 intro wh pins s Z H Q I h;refine isTrue_and (thn (ha pins s Z H Q I h) λc s1 e=>?_);cases c with
 |true=>exact isTrue_and_nil e
 |false=>exact e
theorem bF (ha:PT X a tA):PW X (.BoolOp .Or [a] pos) tA:=by
 intro wh pins s Z H Q I h;refine isTrue_or (thn (ha pins s Z H Q I h) λc s1 e=>?_);cases c with
 |false=>exact isTrue_or_nil e
 |true=>exact e
theorem dm (ha:PT X a tA)(hb:PW X (.BoolOp .And (b::rest) pos) tB'):PW X (.BoolOp .And (a::b::rest) pos) (tAnd tA tB'):=by
 intro wh pins s Z H Q I h;refine isTrue_and (thn (ha pins s Z H _ I h) λc s1 W'=>?_);obtain⟨H1,I1,q1⟩:=W';cases c with
 |true=>exact hb wh pins s1 Z H1 Q I1 q1
 |false=>exact⟨H1,I1,q1⟩
theorem ao (ha:PT X a tA)(hb:PW X (.BoolOp .Or (b::rest) pos) tB'):PW X (.BoolOp .Or (a::b::rest) pos) (tOr tA tB'):=by
 intro wh pins s Z H Q I h;refine isTrue_or (thn (ha pins s Z H _ I h) λc s1 W'=>?_);obtain⟨H1,I1,q1⟩:=W';cases c with
 |true=>exact⟨H1,I1,q1⟩
 |false=>exact hb wh pins s1 Z H1 Q I1 q1
theorem b0 (ha:PT X a tA):PT X (.UnaryOp .Not a pos) (tNot tA):=by intro pins s Z H Q I h;exact isTrue_not (ha pins s Z H (λc H1=>Q (!c) H1) I h)
def tAndV (ta tb:TE):TE:=λZ H Q=>ta Z H λx H1=>∃c,x=.bl c/\if c=true then tb Z H1 Q else Q (.bl false) H1
def tOrV (ta tb:TE):TE:=λZ H Q=>ta Z H λx H1=>∃c,x=.bl c/\if c=true then Q (.bl true) H1 else tb Z H1 Q
def tNotV (ta:TE):TE:=λZ H Q=>ta Z H λx H1=>∃c,x=.bl c/\Q (.bl (!c)) H1
theorem be {op}{t:TE}(h:PE X a t):PE X (.BoolOp op [a] pos) t:=λpins s Z H Q I hw=>BoolOp_one (h pins s Z H Q I hw)
theorem bW (ha:PE X a ta)(hb:PE X (.BoolOp .And (b::rest) pos) tb):PE X (.BoolOp .And (a::b::rest) pos) (tAndV ta tb):=by
 intro pins s Z H Q I h;refine BoolOp_and (thn (ha pins s Z H _ I h) λv s1 W'=>?_);obtain⟨x,H1,I1,r1,q1⟩:=W';obtain⟨c,rfl,q1⟩:=q1;cases r1;refine wpAny_truthy_bool ?_;cases c with
 |true=>exact hb pins s1 Z H1 Q I1 q1
 |false=>exact⟨.bl false,H1,I1,rfl,q1⟩
theorem kD (ha:PE X a ta)(hb:PE X (.BoolOp .Or (b::rest) pos) tb):PE X (.BoolOp .Or (a::b::rest) pos) (tOrV ta tb):=by
 intro pins s Z H Q I h;refine BoolOp_or (thn (ha pins s Z H _ I h) λv s1 W'=>?_);obtain⟨x,H1,I1,r1,q1⟩:=W';obtain⟨c,rfl,q1⟩:=q1;cases r1;refine wpAny_truthy_bool ?_;cases c with
 |false=>exact hb pins s1 Z H1 Q I1 q1
 |true=>exact⟨.bl true,H1,I1,rfl,q1⟩
theorem kE (ha:PE X a ta):PE X (.UnaryOp .Not a pos) (tNotV ta):=by intro pins s Z H Q I h;refine UnaryOp_ (thn (ha pins s Z H _ I h) λv s1 W'=>?_);obtain⟨x,H1,I1,r1,q1⟩:=W';obtain⟨c,rfl,q1⟩:=q1;cases r1;exact not_of (wpAny_truthy_bool ⟨.bl (!c),H1,I1,rfl,q1⟩)
def tIf (t:TT)(ta tb:TE):TE:=λZ H Q=>t Z H λc H1=>if c=true then ta Z H1 Q else tb Z H1 Q
theorem bG {c:Expr}(hc:PT X c tA)(ha:PE X a ta)(hb:PE X b tb):PE X (.IfExp c a b pos) (tIf tA ta tb):=by
 intro pins s Z H Q I h;refine wpAny_IfExp (thn (hc pins s Z H _ I h) λd s1 W'=>?_);obtain⟨H1,I1,q1⟩:=W';cases d with
 |true=>exact ha pins s1 Z H1 Q I1 q1
 |false=>exact hb pins s1 Z H1 Q I1 q1
end
def SqL (K:`F)(H:Hp)(a:Addr)(xs:`V):Prop:=
 Rd H a (.lst xs)\/
  ∃(o:Obj) (its:Array Value) (n:Nat),K.lookup a=some o/\o.cls=.type "list"/\o.dict=none/\o.data=.seq its n/\its.size<=sizeLine/\Vals xs its.toList
def SqT (K:`F)(H:Hp)(a:Addr)(xs:`V):Prop:=
 Rd H a (.tup xs)\/
  ∃(o:Obj) (its:Array Value) (n:Nat),K.lookup a=some o/\o.cls=.type "tuple"/\o.data=.seq its n/\its.size<=sizeLine/\Vals xs its.toList
noncomputable def absV:Value->Option V
 |.none=>some .non
 |.bool b=>some (.bl b)
 |.int i _=>some (.int i)
 |.str x _=>some (.str x)
 |.bytes b _=>some (.byt b)
 |.float b _=>some (.flt b)
 |.ref a=>some (.ref a)
 |.type n=>some (.ty n)
 |_=>none
theorem RelV.abs {x:V}{u:Value}(r:RelV x u):absV u=some x:=by
 cases x with
 |non=>cases r;rfl
 |bl _=>cases r;rfl
 |int _=>obtain⟨t,rfl⟩:=r;rfl
 |str _=>obtain⟨t,rfl⟩:=r;rfl
 |byt _=>obtain⟨t,rfl⟩:=r;rfl
 |flt _=>obtain⟨t,rfl⟩:=r;rfl
 |ref _=>cases r;rfl
 |ty _=>cases r;rfl
theorem RelV.inj {x y:V}{u:Value}(r:RelV x u)(q:RelV y u):x=y:=Option.some.inj (r.abs.symm.trans q.abs)
theorem Vals.inj {xs ys:`V}{us:List Value}(h:Vals xs us)(h':Vals ys us):xs=ys:=by
 induction h generalizing ys with
 |nil=>cases h';rfl
 |cons r t ih=>cases h' with
  |cons r' t'=>rw[r.inj r',ih t']
section
variable {X:Cx}{pins:`O}{Z:St}{H:Hp}{s:Shared}{a:Addr}{xs ys:`V}
theorem SqL.of {K:`F}(h:H a=some (.lst xs)):SqL K H a xs:=.inl (.inl h)
theorem SqT.of {K:`F}(h:H a=some (.tup xs)):SqT K H a xs:=.inl (.inl h)
theorem Inv.list (I:Inv X pins Z H s)(h:SqL X.K H a xs):∃its:List Value,Vals xs its/\PlainL s.heap a its.toArray/\`x<=sizeLine:=by
 rcases h with h|⟨o,its,n,hk,hc,hd,hs,hz,r⟩
 .obtain⟨z,its,n,r,e⟩:=h.ok I.hok;exact⟨its,r,⟨_,n,e,rfl,rfl,rfl⟩,z⟩
 .refine⟨its.toList,r,⟨o,n,I.kIn a o hk,hc,hd,by simpa using hs⟩,?_⟩;have e:=r.length;simp only[Array.length_toList] at e;lia
theorem Inv.tuple (I:Inv X pins Z H s)(h:SqT X.K H a xs):∃its:List Value,Vals xs its/\IsTup s.heap a its.toArray/\`x<=sizeLine:=by
 rcases h with h|⟨o,its,n,hk,hc,hs,hz,r⟩
 .obtain⟨z,its,r,p⟩:=h.ok I.hok;exact⟨its,r,p,z⟩
 .refine⟨its.toList,r,⟨o,I.kIn a o hk,hc,n,by simpa using hs⟩,?_⟩;have e:=r.length;simp only[Array.length_toList] at e;lia
theorem Inv.list_inj (I:Inv X pins Z H s)(h:SqL X.K H a xs)(h':SqL X.K H a ys):xs=ys:=by
 obtain⟨its,r,⟨o,n,e,_,_,d⟩,_⟩:=I.list h;obtain⟨its',r',⟨o',n',e',_,_,d'⟩,_⟩:=I.list h';rw[e] at e';cases e';rw[d] at d';injection d' with d1 _;have:its=its':=by simpa using congrArg Array.toList d1
 subst this;exact r.inj r'
theorem Inv.tuple_inj (I:Inv X pins Z H s)(h:SqT X.K H a xs)(h':SqT X.K H a ys):xs=ys:=by
 obtain⟨its,r,⟨o,e,_,n,d⟩,_⟩:=I.tuple h;obtain⟨its',r',⟨o',e',_,n',d'⟩,_⟩:=I.tuple h';rw[e] at e';cases e';rw[d] at d';injection d' with d1 _;have:its=its':=by simpa using congrArg Array.toList d1
 subst this;exact r.inj r'
end
noncomputable abbrev Cx.wish (X:Cx)(E:`T):Cx:={ X with xe:=E}
noncomputable abbrev Cx.nox (X:Cx):Cx:=X.wish λ_ _=>False
theorem Cx.Ok.wish {X:Cx}(ok:X.Ok)(E:`T):(X.wish E).Ok:=
 ⟨ok.mod,ok.kind,ok.glob,ok.blt,ok.above,ok.inj,ok.has,ok.cab,ok.hd,ok.frames,ok.stk,ok.exf,ok.bs,ok.bsz,ok.noex,ok.exfs,ok.funs,ok.frf⟩
theorem Cx.Ok.unwish {X:Cx}{E:`T}(ok:(X.wish E).Ok):X.Ok:=
 ⟨ok.mod,ok.kind,ok.glob,ok.blt,ok.above,ok.inj,ok.has,ok.cab,ok.hd,ok.frames,ok.stk,ok.exf,ok.bs,ok.bsz,ok.noex,ok.exfs,ok.funs,ok.frf⟩
section
variable {X:Cx}{pins:`O}{Z:St}{H:Hp}{s:Shared}{E:`T}
theorem Inv.wish (I:Inv X pins Z H s)(E:`T):Inv (X.wish E) pins Z H s:=⟨I.ok.wish E,I.os,I.bare,I.base,I.loc,I.cell,I.free,I.freeC,I.pin,I.hok,I.len⟩
theorem Inv.unwish (I:Inv (X.wish E) pins Z H s):Inv X pins Z H s:=⟨I.ok.unwish,I.os,I.bare,I.base,I.loc,I.cell,I.free,I.freeC,I.pin,I.hok,I.len⟩
theorem SP.unwish {D:Ends}{f:Flow}{s':Shared}(h:SP (X.wish E) pins D f s'):SP X pins D f s':=by
 cases f with
 |next=>obtain⟨Z',H',I,q⟩:=h;exact⟨Z',H',I.unwish,q⟩
 |brk=>obtain⟨Z',H',I,q⟩:=h;exact⟨Z',H',I.unwish,q⟩
 |cont=>obtain⟨Z',H',I,q⟩:=h;exact⟨Z',H',I.unwish,q⟩
 |ret u=>obtain⟨v,Z',H',I,r,q⟩:=h;exact⟨v,Z',H',I.unwish,r,q⟩
theorem PSs.nox {st:List Stmt}{t:TS}(h:PSs X.nox st t):PSs X st t:=λpins s Z H D I hw=>
 wpAny_mono (h pins s Z H D (I.wish _) hw) (λ_ _ q=>q.unwish) λ_ _ z=>False.elim z
end
section
variable {X:Cx}{st:Stmt}{rest:List Stmt}{t u:TS}{e:Expr}{te:TE}{pos:Pos}
def tNext:TS:=λD Z H=>D.nx Z H
def tSeq (t u:TS):TS:=λD Z H=>t {D with nx:=u D} Z H
theorem aO:PSs X [] tNext:=λ_ _ Z H _ I h=>wpAny_execs_nil ⟨Z,H,I,h⟩
theorem a8 (h1:PS X st t)(h2:PSs X rest u):PSs X (st::rest) (tSeq t u):=by
 intro pins s Z H D I h;refine wpAny_execs_cons (thn (h1 pins s Z H {D with nx:=u D} I h) λf s1 q=>?_);cases f with
 |next=>obtain⟨Z',H',I',q⟩:=q;exact h2 pins s1 Z' H' D I' q
 |ret v=>exact q
 |brk=>exact q
 |cont=>exact q
theorem aC (h1:PS X st t):PSs X [st] t:=by
 intro pins s Z H D I h;refine wpAny_execs_cons (thn (h1 pins s Z H D I h) λf s1 q=>?_);cases f with
 |next=>exact wpAny_execs_nil q
 |ret v=>exact q
 |brk=>exact q
 |cont=>exact q
theorem Inv.quiet {pins:`O}{Z:St}{H:Hp}{s:Shared}(I:Inv X pins Z H s):interactive X.env=false:=by simp[interactive,I.ok.kind]
def tDrop (te:TE):TS:=λD Z H=>te Z H λ_ H1=>D.nx Z H1
theorem bf (he:PE X e te)(hs:swapsWith e none pos.line X.env=pure false:=by rfl):PS X (.Expr e pos) (tDrop te):=by intro pins s Z H D I h;exact wpAny_Expr_any (thn (he pins s Z H _ I h) λv s1 ⟨x,H1,I1,r1,q1⟩=>⟨Z,H1,I1,q1⟩) I.quiet hs
def tRet (te:TE):TS:=λD Z H=>te Z H D.rt
theorem aI (he:PE X e te):PS X (.Return (some e) pos) (tRet te):=by intro pins s Z H D I h;exact wpAny_Return_some (thn (he pins s Z H _ I h) λv s1 ⟨x,H1,I1,r1,q1⟩=>⟨x,Z,H1,I1,r1,q1⟩)
def tIfS (c:TT)(t u:TS):TS:=λD Z H=>c Z H λb H1=>if b=true then t D Z H1 else u D Z H1
theorem aL {c:Expr}{a b:List Stmt}{tc:TT}(hc:PT X c tc)(ha:PSs X a t)(hb:PSs X b u):PS X (.If c a b pos) (tIfS tc t u):=by
 intro pins s Z H D I h;refine wpAny_If (thn (hc pins s Z H _ I h) λd s1 W'=>?_);obtain⟨H1,I1,q1⟩:=W';cases d with
 |true=>exact ha pins s1 Z H1 D I1 q1
 |false=>exact hb pins s1 Z H1 D I1 q1
def tNever:TS:=λ_ _ _=>False
theorem uc:PS X st tNever:=λ_ _ _ _ _ _ h=>h.elim
end
noncomputable abbrev TG:=V->St->Hp->(St->Hp->Prop)->Prop
noncomputable abbrev TGs:=`V->St->Hp->(St->Hp->Prop)->Prop
def PG (X:Cx)(target:Expr)(t:TG):Prop:=
 ∀(pins:`O) (s:Shared) (Z:St) (H:Hp) (v:V) (u:Value) (Q:St->Hp->Prop),Inv X pins Z H s->RelV v u->t v Z H Q ->
  wpAny `m X.A (assign target X.env u) (λ_ s'=>∃Z' H',Inv X pins Z' H' s'/\Q Z' H') X.xe s
def PGs (X:Cx)(ts:List Expr)(t:TGs):Prop:=
 ∀(pins:`O) (s:Shared) (Z:St) (H:Hp) (vs:`V) (us:List Value) (Q:St->Hp->Prop),Inv X pins Z H s->Vals vs us->t vs Z H Q ->
  wpAny `m X.A (assignInOrder ((assignEach ts X.env).map (·.2)) us) (λ_ s'=>∃Z' H',Inv X pins Z' H' s'/\Q Z' H') X.xe s
noncomputable abbrev TSet:=V->V->V->Hp->(Hp->Prop)->Prop
def PSet (X:Cx)(t:TSet):Prop:=
 ∀(pins:`O) (s:Shared) (Z:St) (H:Hp) (o i v:V) (ov iv u:Value) (Q:Hp->Prop),Inv X pins Z H s->RelV o ov->RelV i iv->RelV v u->t o i v H Q ->
  wpAny `m X.A (setItem ov iv u) (λ_ s'=>∃H',Inv X pins Z H' s'/\Q H') X.xe s
section
variable {X:Cx}{pos:Pos}
def gName (i:Nat):TG:=λv Z H Q=>Q (Z.set i (some v)) H
theorem cC {i:Nat}{x:Str}(hN:X.N.Nodup)(hi:X.N[i]?=some x)(hx:Loc X.env.scope x)(hf:X.fn x=true\/X.env.scope.names.lookup x=some .local:=by first|exact .inl rfl|exact .inr rfl|assumption):PG X (.Name x pos) (gName i):=by intro pins s Z H v u Q I r h;exact wpAny_assign_Name (kA I hN hi hx r (λs' I'=>⟨_,H,I',h⟩) hf)
def gNil:TGs:=λvs Z H Q=>vs=[]/\Q Z H
def gCons (t:TG)(u:TGs):TGs:=λvs Z H Q=>∃v r,vs=v::r/\t v Z H λZ' H'=>u r Z' H' Q
theorem cD:PGs X [] gNil:=by intro pins s Z H vs us Q I r h;obtain⟨e,h⟩:=h;subst e;cases r;exact assignInOrder_nil ⟨Z,H,I,h⟩
theorem b6 {e:Expr}{es:List Expr}{t:TG}{u:TGs}(h1:PG X e t)(h2:PGs X es u)
  (hs:(assignEach (e::es) X.env).map (·.2)=assign e X.env::(assignEach es X.env).map (·.2):=by rfl):PGs X (e::es) (gCons t u):=by
 intro pins s Z H vs us Q I r h;obtain⟨v,vr,e1,h⟩:=h;subst e1;cases r with
 |cons r rr=>rw[hs];refine assignInOrder_cons (thn (h1 pins s Z H _ _ _ I r h) λ_ s1 W'=>?_);obtain⟨Z1,H1,I1,q1⟩:=W';exact h2 pins s1 Z1 H1 _ _ Q I1 rr q1
def gTup (K:`F)(n:Nat)(t:TGs):TG:=λv Z H Q=>∃a xs,v=.ref a/\SqT K H a xs/\`x=n/\t xs Z H Q
theorem kF {es:List Expr}{k:Nat}{t:TGs}{n:Nat}(hc:X.calm=true)(h:PGs X es t)
  (hn:(assignEach es X.env).length=n:=by rfl) (hst:(assignEach es X.env).findIdx? (·.1)=none:=by rfl):PG X (.Tuple es k pos) (gTup X.K n t):=by
 intro dl s Z H v u Q I r hw;obtain⟨a,xs,e1,hq,hl,hw⟩:=hw;subst e1;cases r;obtain⟨mt,rv,ht,hz⟩:=I.tuple hq;refine assign_Tuple_tuple (I.ok.hd hc) ht (by simp[hn,<- hl,rv.length]) hst λh' hx=>?_;have I1:Inv X dl Z H {s with heap:=h' }:=I.kept (t':=s.toks) λb o e=>hx b o (Nat.ne_of_lt (Heap.lt_size e)) e;exact h dl _ Z H xs _ Q I1 (by simpa using rv) hw
def gSub (to ti:TE)(t:TSet):TG:=λv Z H Q=>to Z H λo H1=>ti Z H1 λi H2=>t o i v H2 λH3=>Q Z H3
theorem ud {o i:Expr}{to ti:TE}{t:TSet}(ho:PE X o to)(hi:PE X i ti)(hs:PSet X t)
  (ha:∀v,assign (.Subscript o i pos) X.env v=(do
   let ov <- holding [v] (eval o X.env)
   let iv <- holding [v,ov] (eval i X.env)
   standAt pos
   holding [v,ov,iv] (setItem ov iv v)
   release [v,ov,iv] []):=by intro _;rfl):PG X (.Subscript o i pos) (gSub to ti t):=by
 intro dl s Z H v u Q I r h;rw[ha];refine wpAny_bind (wpAny_holding (thn (ho dl s Z H _ I h) λov s1 W'=>?_));obtain⟨x,H1,I1,r1,q1⟩:=W';refine wpAny_bind (wpAny_holding (thn (hi dl s1 Z H1 _ I1 q1) λiv s2 W'=>?_));obtain⟨y,H2,I2,r2,q2⟩:=W';refine wpAny_bind (wpAny_standAt (wpAny_bind (wpAny_holding (thn (hs dl s2 Z H2 x y v ov iv u _ I2 r1 r2 r q2) λ_ s3 W'=>?_))));obtain⟨H3,I3,q3⟩:=W';exact wpAny_release ⟨Z,H3,I3,q3⟩
def tAsg (te:TE)(g:TG):TS:=λD Z H=>te Z H λx H1=>g x Z H1 D.nx
theorem gh {tg e:Expr}{te:TE}{g:TG}(he:PE X e te)(hg:PG X tg g)(hs:swapsWithSole [tg] e pos.line X.env=pure false:=by rfl)(hw:swappedStores [tg] e X.env=pure none:=by rfl)
  (h1:(assignEach [tg] X.env).map (·.2)=[assign tg X.env]:=by rfl):PS X (.Assign [tg] e pos) (tAsg te g):=by
 intro pins s Z H D I h;refine wpAny_Assign_stores (thn (he pins s Z H _ I h) λv s1 W'=>?_) hs hw;obtain⟨x,H1,I1,r1,q1⟩:=W';rw[h1];exact thn (hg pins s1 Z H1 x v _ I1 r1 q1) λ_ s2 q=>q
theorem gi {i:Nat}{x:Str}{e:Expr}{te:TE}{pos':Pos}(hN:X.N.Nodup)(hi:X.N[i]?=some x)(hx:Loc X.env.scope x)(he:PE X e te)(hs:swapsWith e (some (.Name x pos')) pos.line X.env=pure false:=by rfl)(hf:X.fn x=true\/X.env.scope.names.lookup x=some .local:=by first|exact .inl rfl|exact .inr rfl|assumption) :
  PS X (.Assign [.Name x pos'] e pos) (tAsg te (gName i)):=by
 intro pins s Z H D I h;refine wpAny_Assign_Name (thn (he pins s Z H _ I h) λv s1 W'=>?_) hs;obtain⟨y,H1,I1,r1,q1⟩:=W';exact kA I1 hN hi hx r1 (λs2 I2=>⟨_,H1,I2,q1⟩) hf
end
section
variable {X:Cx}{pos:Pos}
def tWhile (c:TT)(tb:TS):TS:=λD Z H=>∃W:Nat->St->Hp->Prop,(∃m,W m Z H)/\∀m Z H,W m Z H ->
 c Z H λb H1=>if b=true then ∃N:St->Hp->Prop,(∀Z' H',N Z' H'->∃m',m' < m/\W m' Z' H')/\tb {D with nx:=N,ct:=N,bk:=D.nx} Z H1 else D.nx Z H1
theorem gj {c:Expr}{body:List Stmt}{tc:TT}{tb:TS}(hp:PassesOwn `m X.A X.env X.xe)(hc:PT X c tc)(hb:PSs X body tb):PS X (.While c body [] pos) (tWhile tc tb):=by
 intro dl s Z H D I h;obtain⟨W,⟨m0,w0⟩,mt⟩:=h;refine wpAny_While (codeAny_whileLoop (λn s'=>∃Z' H',Inv X dl Z' H' s'/\W n Z' H') ?_ m0 ⟨Z,H,I,w0⟩);rintro n s1 ⟨Z1,H1,I1,w1⟩;refine wpAny_passesOwn hp (thn (hc dl s1 Z1 H1 _ I1 (mt n Z1 H1 w1)) λb s2 W'=>?_);obtain⟨H2,I2,q2⟩:=W';cases b with
 |true=>
  obtain⟨N,hN,q2⟩:=q2;rw[if_pos rfl];refine wpAny_passesOwn hp (thn (hb dl s2 Z1 H2 _ I2 q2) λf s3 q3=>?_);cases f with
  |next=>obtain⟨Z3,H3,I3,n3⟩:=q3;obtain⟨m',hm,w3⟩:=hN Z3 H3 n3;exact⟨m',hm,Z3,H3,I3,w3⟩
  |cont=>obtain⟨Z3,H3,I3,n3⟩:=q3;obtain⟨m',hm,w3⟩:=hN Z3 H3 n3;exact⟨m',hm,Z3,H3,I3,w3⟩
  |brk=>exact q3
  |ret v=>exact q3
 |false=>rw[if_neg Bool.false_ne_true];exact wpAny_execs_nil ⟨Z1,H2,I2,q2⟩
end
structure It where
 go:Nat->Hp->Prop
 yld:Nat->Hp->V->Hp->Prop
 stop:Nat->Hp->Prop
def FpOk (X:Cx)(pins:`O)(H:Hp)(b:Addr):Prop:=
 H b=none/\b≠X.env.locals/\b∉X.fs/\(b∈X.ex\/X.s₀.heap.objs.size<=b)/\(∀x c,X.env.cells.lookup x=some c->c≠b)/\∀p∈X.pn++pins,p.1≠b
theorem Inv.fpOk {X:Cx}{pins:`O}{Z:St}{H H':Hp}{s:Shared}{b:Addr}(I:Inv X pins Z H s)(hb:`z<=b)(hn:H' b=none):FpOk X pins H' b:=by
 refine⟨hn,Nat.ne_of_gt (Nat.lt_of_lt_of_le I.lt hb),I.nofs hb,.inr (Nat.le_trans I.sz hb),λx c e z=>?_,λp hp z=>?_⟩
 .obtain⟨v,q⟩:=I.cell x c e;exact absurd (Nat.lt_of_lt_of_le q.lt (by rw[z];exact hb)) (Nat.lt_irrefl _)
 .exact absurd (Nat.lt_of_lt_of_le (Heap.lt_size (I.pin p hp).1) (by rw[z];exact hb)) (Nat.lt_irrefl _)
structure Turn (P:Program)(w:World)(K:`F)(tg:Expr)(J:It)(fp:List Addr)(it:Addr)(tn:Nat->Heap->Prop):Prop where
 mem:it∈fp
 obj:∀i h,tn i h->∀b∈fp,∃o,h.get? b=some o/\∀v,o.data≠.cell v
 keep:∀i h h',tn i h->(∀b∈fp,∀o,h.get? b=some o->h'.get? b=some o)->tn i h'
 item:∀(X:Cx),X.prog=P->X.w=w->X.K=K->X.calm=true->∀(i:Nat) (pins:`O) (s:Shared) (Z:St) (H:Hp) (E:`T),Inv X pins Z H s->(∀b∈fp,FpOk X pins H b)->tn i s.heap->J.go i H ->
  wpAny (model P w) X.A (pyNext (.ref it)) (λr s1=>∃u,r=some u/\
   wpAny (model P w) X.A (letOwnedTupleGo tg (.ref it) u) (λ_ s2=>∃x H',Inv X pins Z H' s2/\RelV x u/\J.yld i H x H'/\tn (i+1) s2.heap/\∀b∈fp,H' b=none) E s1) E s
 done:∀(X:Cx),X.prog=P->X.w=w->X.K=K->X.calm=true->∀(i:Nat) (pins:`O) (s:Shared) (Z:St) (H:Hp) (E:`T),Inv X pins Z H s->(∀b∈fp,FpOk X pins H b)->tn i s.heap->J.stop i H ->
  wpAny (model P w) X.A (pyNext (.ref it)) (λr s1=>r=none/\Inv X pins Z H s1) E s
 self:∀(A:Around) (i:Nat) (s:Shared) (Q:`T) (E:`T),tn i s.heap->Q (.ref it) s->wpAny (model P w) A (pyIter (.ref it)) Q E s
noncomputable abbrev TI:=St->Hp->(It->Hp->Prop)->Prop
def PIE (X:Cx)(pins:`O)(Z:St)(tg:Expr)(R:It->Hp->Prop)(itv:Value)(s2:Shared):Prop:=
 ∃(it:Addr) (fp:List Addr) (tn:Nat->Heap->Prop) (J:It) (H':Hp),itv=.ref it/\Inv X pins Z H' s2/\Turn X.prog X.w X.K tg J fp it tn/\tn 0 s2.heap/\(∀b∈fp,FpOk X pins H' b)/\R J H'
def PI (X:Cx)(tg iter:Expr)(wi:TI):Prop:=
 ∀(pins:`O) (s:Shared) (Z:St) (H:Hp) (R:It->Hp->Prop),Inv X pins Z H s->wi Z H R ->
  wpAny `m X.A (eval iter X.env) (λv s1=>wpAny `m X.A (pyIter v) (PIE X pins Z tg R) X.xe s1) X.xe s
theorem cX {M:Model}{A:Around}{E:`T}{s:Shared}{tg:Expr}{it:Addr}{u:Value}{o:Obj}{n:String}{vs:Array Value}{Q:Unit->Shared->Prop}(ho:s.heap.get? it=some o)(hc:o.cls=.type n)(hd:o.data=.fields vs)
  (hn:["enumerate","zip","dict_itemiterator","dict_reverseitemiterator","odict_iterator","itertools.zip_longest","itertools.pairwise"].contains n=false) (hQ:Q () s):wpAny M A (letOwnedTupleGo tg (.ref it) u) Q E s:=by
 unfold letOwnedTupleGo;cases tg <;> first
  |exact wpAny_pure hQ
  | (cases u <;> first
    |exact wpAny_pure hQ
    | (refine wpAny_bind (wpAny_load ho ?_)
       rw[hc,hd];show wpAny M A (if (["enumerate","zip","dict_itemiterator","dict_reverseitemiterator","odict_iterator","itertools.zip_longest","itertools.pairwise"].contains n && vs[0]? == some (rawInt _))=true then _ else _) Q E s;rw[if_neg (by intro h;rw[hn,Bool.false_and] at h;cases h)];exact wpAny_pure hQ))
noncomputable def Itl (K:`F)(a:Addr):It:=
 ⟨λi H=>∃xs x,SqL K H a xs/\xs[i]?=some x,λi H x H'=>H'=H/\∀xs,SqL K H a xs->xs[i]?=some x,λi H=>∃xs,SqL K H a xs/\`x<=i⟩
noncomputable def Itt (K:`F)(a:Addr):It:=
 ⟨λi H=>∃xs x,SqT K H a xs/\xs[i]?=some x,λi H x H'=>H'=H/\∀xs,SqT K H a xs->xs[i]?=some x,λi H=>∃xs,SqT K H a xs/\`x<=i⟩
noncomputable def Itr (lo:Int)(n:Nat):It:=⟨λi _=>i < n,λi H x H'=>H'=H/\x=.int (lo+i),λi _=>n<=i⟩
theorem ue {P:Program}{w:World}{K:`F}{tg:Expr}(a it:Addr):Turn P w K tg (Itl K a) [it] it (λi h=>h.IsListIter it a i) where
 mem:=by simp
 obj:=λi h st b hb=>by
  have e:b=it:=by simpa using hb
  subst e;obtain⟨o,e,c,d⟩:=st;exact⟨o,e,λv z=>by rw[d] at z;cases z⟩
 keep:=λi h h' st k=>st.at λo e=>k it `s o e
 item:=by intro X hP hw hK hc i dl s Z H E I hf st hg;subst hP hw hK;obtain⟨xs,x,hq,hx⟩:=hg;obtain⟨BT,rv,p,hz⟩:=I.list hq;obtain⟨u,hu,ru⟩:=rv.get hx;obtain⟨f0,f1,f2,f3,f4,f5⟩:=hf it `s;refine wpAny_pyNext_list_item st p.isList (x:=u) (by simpa using hu) λh' mt sb=>?_;have I1:Inv X dl Z H {s with heap:=h' }:=I.turned (t':=s.toks) (λb o hb e=>(sb.2 b hb).trans e) f0 f1 f3 f4 f5;obtain⟨o,e,c,d⟩:=id mt;exact⟨u,rfl,cX (s:={ s with heap:=h' }) e c d `d ⟨x,H,I1,ru,⟨rfl,λys hy=>by rw[I.list_inj hy hq];exact hx⟩,mt,λb hb=>(hf b hb).1⟩⟩
 done:=by intro X hP hw hK hc i dl s Z H E I hf st hg;subst hP hw hK;obtain⟨xs,hq,hx⟩:=hg;obtain⟨BT,rv,p,hz⟩:=I.list hq;obtain⟨f0,f1,f2,f3,f4,f5⟩:=hf it `s;have hl:=rv.length;exact wpAny_pyNext_list_end (I.ok.hd hc) st p.isList (by simp;lia) λh' eb=>⟨rfl,I.turned (t':=s.toks) (λb o hb e=>eb b o hb e) f0 f1 f3 f4 f5⟩
 self:=λ_ _ _ _ _ st h=>wpAny_pyIter_listiter st h
theorem uf {P:Program}{w:World}{K:`F}{tg:Expr}(a it:Addr):Turn P w K tg (Itt K a) [it] it (λi h=>h.IsTupleIter it a i) where
 mem:=by simp
 obj:=λi h st b hb=>by
  have e:b=it:=by simpa using hb
  subst e;obtain⟨o,e,c,d⟩:=st;exact⟨o,e,λv z=>by rw[d] at z;cases z⟩
 keep:=λi h h' st k=>st.at λo e=>k it `s o e
 item:=by intro X hP hw hK hc i dl s Z H E I hf st hg;subst hP hw hK;obtain⟨xs,x,hq,hx⟩:=hg;obtain⟨mt,rv,p,hz⟩:=I.tuple hq;obtain⟨u,hu,ru⟩:=rv.get hx;obtain⟨f0,f1,f2,f3,f4,f5⟩:=hf it `s;refine wpAny_pyNext_tuple_item st (show s.heap.IsTuple a mt.toArray from p) (x:=u) (by simpa using hu) λh' BT sb=>?_;have I1:Inv X dl Z H {s with heap:=h' }:=I.turned (t':=s.toks) (λb o hb e=>(sb.2 b hb).trans e) f0 f1 f3 f4 f5;obtain⟨o,e,c,d⟩:=id BT;exact⟨u,rfl,cX (s:={ s with heap:=h' }) e c d `d ⟨x,H,I1,ru,⟨rfl,λys hy=>by rw[I.tuple_inj hy hq];exact hx⟩,BT,λb hb=>(hf b hb).1⟩⟩
 done:=by intro X hP hw hK hc i dl s Z H E I hf st hg;subst hP hw hK;obtain⟨xs,hq,hx⟩:=hg;obtain⟨mt,rv,p,hz⟩:=I.tuple hq;obtain⟨f0,f1,f2,f3,f4,f5⟩:=hf it `s;have hl:=rv.length;exact wpAny_pyNext_tuple_end (I.ok.hd hc) st (show s.heap.IsTuple a mt.toArray from p) (by simp;lia) λh' eb=>⟨rfl,I.turned (t':=s.toks) (λb o hb e=>eb b o hb e) f0 f1 f3 f4 f5⟩
 self:=λ_ _ _ _ _ st h=>wpAny_pyIter_tupleiter st h
theorem ug {P:Program}{w:World}{K:`F}{tg:Expr}(it:Addr)(lo:Int)(n:Nat):Turn P w K tg (Itr lo n) [it] it (λi h=>IsRangeIter h it (lo+(i:Nat) * 1) ((n:Int) - (i:Nat)) 1) where
 mem:=by simp
 obj:=λi h st b hb=>by
  have e:b=it:=by simpa using hb
  subst e;exact⟨_,st,λv z=>by have z':Data.fields _=Data.cell v:=z;cases z'⟩
 keep:=λi h h' st k=>k it `s _ st
 item:=by intro X hP hw hK hc i dl s Z H E I hf st hg;subst hP hw hK;obtain⟨f0,f1,f2,f3,f4,f5⟩:=hf it `s;have W:=Walks.range (prog:=X.prog) (w:=X.w) (I.ok.hd hc) it lo 1 n;refine W.item i s _ _ hg st λv h' tk hv mt kk=>?_;obtain⟨t,rfl⟩:=hv;have I1:Inv X dl Z H {s with heap:=h',toks:=tk}:=I.turned (λb o hb e=>kk b o (by simpa using hb) e) f0 f1 f3 f4 f5;refine⟨_,rfl,cX (s:={ s with heap:=h',toks:=tk}) (n := "range_iterator") mt rfl rfl `d ⟨.int (lo+i),H,I1,⟨t,?_⟩,`R,mt,λb hb=>(hf b hb).1⟩⟩;rw[Int.mul_one]
 done:=by intro X hP hw hK hc i dl s Z H E I hf st hg;subst hP hw hK;obtain⟨f0,f1,f2,f3,f4,f5⟩:=hf it `s;exact wpAny_pyNext_range_end (I.ok.hd hc) st (by have:n<=i:=hg;lia) λh' eb=>⟨rfl,I.turned (t':=s.toks) (λb o hb e=>eb b o hb e) f0 f1 f3 f4 f5⟩
 self:=λ_ _ _ _ _ st h=>wpAny_pyIter_rangeiter st h
section
variable {X:Cx}{tg:Expr}
def iList (K:`F)(tl:TE):TI:=λZ H R=>tl Z H λx H1=>∃a,x=.ref a/\(∃xs,SqL K H1 a xs)/\R (Itl K a) H1
def iTup (K:`F)(tl:TE):TI:=λZ H R=>tl Z H λx H1=>∃a,x=.ref a/\(∃xs,SqT K H1 a xs)/\R (Itt K a) H1
theorem uh {l:Expr}{tl:TE}(hl:PE X l tl):PI X tg l (iList X.K tl):=by
 intro dl s Z H R I h;refine thn (hl dl s Z H _ I h) λv s1 W'=>?_;obtain⟨x,H1,I1,r1,q1⟩:=W';obtain⟨a,e,⟨xs,hq⟩,q⟩:=q1;subst e;cases r1;obtain⟨mt,rv,p,hz⟩:=I1.list hq;refine wpAny_pyIter_list p.isList ?_;refine⟨`y,[`y],_,_,H1,rfl,I1.kept (t':=s1.toks) λb o e=>Heap.get?_push_of_some _ e,ue a _,⟨_,Heap.get?_push_size _ rfl,rfl,rfl⟩,λb hb=>?_,q⟩;have e:b=`y:=by simpa using hb
 subst e;exact I1.fpOk `n (I1.hok.fresh `n)
theorem uk {l:Expr}{tl:TE}(hl:PE X l tl):PI X tg l (iTup X.K tl):=by
 intro dl s Z H R I h;refine thn (hl dl s Z H _ I h) λv s1 W'=>?_;obtain⟨x,H1,I1,r1,q1⟩:=W';obtain⟨a,e,⟨xs,hq⟩,q⟩:=q1;subst e;cases r1;obtain⟨mt,rv,p,hz⟩:=I1.tuple hq;refine wpAny_pyIter_tuple (show s1.heap.IsTuple a mt.toArray from p) ?_;refine⟨`y,[`y],_,_,H1,rfl,I1.kept (t':=s1.toks) λb o e=>Heap.get?_push_of_some _ e,uf a _,⟨_,Heap.get?_push_size _ rfl,rfl,rfl⟩,λb hb=>?_,q⟩;have e:b=`y:=by simpa using hb
 subst e;exact I1.fpOk `n (I1.hok.fresh `n)
theorem um {pins:`O}{Z:St}{H:Hp}{s:Shared}{R:It->Hp->Prop}{E:`T}{lo hi:Int}{t u v:Tok}{tk:Nat}(I:Inv X pins Z H s)(h1:-(2 ^ 62)<=lo)(h2:lo < 2 ^ 62)(h3:-(2 ^ 62)<=hi)(h4:hi < 2 ^ 62)
  (q:R (Itr lo (hi - lo).toNat) H):wpAny `m X.A (pyIter (.ref `z)) (PIE X pins Z tg R) E {s with heap:=s.heap.push {cls:=.type "range",data:=.fields #[.int lo t,.int hi u,.int 1 v]},toks:=tk}:=by
 refine wpAny_pyIter_range (IsRange.new ..) (small_one h1 h2 h3 h4) ?_;have I1:Inv X pins Z H {s with heap:=s.heap.push {cls:=.type "range",data:=.fields #[.int lo t,.int hi u,.int 1 v]},toks:=tk}:=I.kept λb o e=>Heap.get?_push_of_some _ e;refine⟨(s.heap.push {cls:=.type "range",data:=.fields #[.int lo t,.int hi u,.int 1 v]}).objs.size,[(s.heap.push {cls:=.type "range",data:=.fields #[.int lo t,.int hi u,.int 1 v]}).objs.size],_,_,H,rfl,
  I1.kept (t':=tk) λb o e=>Heap.get?_push_of_some _ e,ug _ lo (hi - lo).toNat,?_,λb hb=>?_,q⟩
 .have e1:lo+((0:Nat):Int) * 1=lo:=by simp
  have e2:(((hi - lo).toNat:Nat):Int) - ((0:Nat):Int)=Builtin.Range.rangeSize lo hi 1:=by rw[rangeSize_one];split <;> lia
  show IsRangeIter _ _ (lo+((0:Nat):Int) * 1) ((((hi - lo).toNat:Nat):Int) - ((0:Nat):Int)) 1;rw[e1,e2];exact Heap.get?_push_size _ rfl
 .have e:b=(s.heap.push {cls:=.type "range",data:=.fields #[.int lo t,.int hi u,.int 1 v]}).objs.size:=by simpa using hb
  subst e;exact I1.fpOk `n (I1.hok.fresh `n)
def iRng1 (ta:TA):TI:=λZ H R=>ta Z H λvs H1=>∃j:Int,vs=[.int j]/\-(2 ^ 62)<=j/\j < 2 ^ 62/\R (Itr 0 j.toNat) H1
theorem bX {a:Expr}{ta:TA}{p pos:Pos}(hg:Gl X "range")(hm:X.mg "range"=none)(ha:PA X [a] ta)(hs:starEach [a] X.env=[(false,eval a X.env)]:=by rfl):PI X tg (.Call (.Name "range" p) [a] [] pos) (iRng1 ta):=by
 intro dl s Z H R I h;refine Call_ (bL I hg hm boot_range (PyProof.Rows.callWith_type1 (thn (ha pos dl s Z H _ I h) λus s1 W'=>?_) hs rfl));obtain⟨vs,H1,I1,r1,q1⟩:=W';obtain⟨j,e,q1,q2,q⟩:=q1;subst e;cases r1 with
 |cons r rr=>cases rr;obtain⟨t,rfl⟩:=r;exact call_range_1 (um I1 `l `l q1 q2 (by simpa using q))
def tFor (wi:TI)(g:TG)(tb:TS):TS:=λD Z H=>wi Z H λJ H1=>∃W:Nat->Nat->St->Hp->Prop,(∃m,W 0 m Z H1)/\∀i m Z H,W i m Z H ->
 (J.stop i H/\D.nx Z H)\/(J.go i H/\∃N:St->Hp->Prop,(∀Z' H',N Z' H'->∃m',m' < m/\W (i+1) m' Z' H')/\∀x H',J.yld i H x H'->g x Z H' λZ2 H2=>tb {D with nx:=N,ct:=N,bk:=D.nx} Z2 H2)
noncomputable def pinsAt (fp:List Addr)(h:Heap):`O:=fp.filterMap λb=>(h.get? b).map λo=>(b,o)
theorem dq {fp:List Addr}{h:Heap}{b:Addr}{o:Obj}(hb:b∈fp)(e:h.get? b=some o):(b,o)∈pinsAt fp h:=List.mem_filterMap.mpr ⟨b,hb,by rw[e];rfl⟩
theorem ur {fp:List Addr}{h:Heap}{p:Addr×Obj}(hp:p∈pinsAt fp h):p.1∈fp/\h.get? p.1=some p.2:=by
 obtain⟨b,hb,e⟩:=List.mem_filterMap.mp hp;cases q:h.get? b with
 |none=>rw[q] at e;cases e
 |some o=>rw[q] at e;have e':(b,o)=p:=Option.some.inj e;subst e';exact⟨hb,q⟩
theorem Inv.pinned {pins:`O}{Z:St}{H:Hp}{s:Shared}{fp:List Addr}(I:Inv X pins Z H s)(hf:∀b∈fp,FpOk X pins H b)(ho:∀b∈fp,∃o,s.heap.get? b=some o/\∀v,o.data≠.cell v):Inv X (pins++pinsAt fp s.heap) Z H s:=
 I.pins_of λp hp=>(mem_append.mp hp).elim (λz=>I.pin p (mem_append_right _ z)) λz=>by obtain⟨hb,e⟩:=ur z;obtain⟨f0,f1,f2,_⟩:=hf p.1 hb;obtain⟨o,e',d⟩:=ho p.1 hb;rw[e] at e';cases e';exact⟨e,f0,f1,f2,d⟩
theorem Inv.unpinned {pins pl:`O}{Z:St}{H:Hp}{s:Shared}(I:Inv X (pins++pl) Z H s):Inv X pins Z H s:=I.pins_of λp hp=>I.pin p (mem_append_right _ (mem_append_left _ hp))
theorem b8 {iter:Expr}{body:List Stmt}{wi:TI}{g:TG}{tb:TS}{pos:Pos}(hp:PassesOwn `m X.A X.env X.xe)(hc:X.calm=true)(hi:PI X tg iter wi)(hg:PG X tg g)(hb:PSs X body tb)
  (hs:∀x,foldedSetIterable iter X.env x=pure x:=by intro _;rfl):PS X (.For tg iter body [] pos) (tFor wi g tb):=by
 intro dl s Z H D I h;refine wpAny_For (thn (hi dl s Z H _ I h) λv s1 h1=>thn h1 λGd s2 h2=>?_) hs;obtain⟨it,fp,tn,J,H2,e,I2,T,Gb,f2,W,⟨m0,w0⟩,Cl⟩:=h2;subst e;have BT:∀{H':Hp},(∀b∈fp,H' b=none)->∀b∈fp,FpOk X dl H' b:=λhn b hb=>⟨hn b hb,(f2 b hb).2⟩;refine codeAny_forLoop_any (λn s'=>∃i Z' H',Inv X dl Z' H' s'/\tn i s'.heap/\(∀b∈fp,H' b=none)/\W i n Z' H') ?_ m0 ⟨0,Z,H2,I2,Gb,λb hb=>(f2 b hb).1,w0⟩;rintro n s3 ⟨i,Z3,H3,I3,Fr,Ga,w3⟩;rcases Cl i n Z3 H3 w3 with⟨stop,qn⟩|⟨go,N,hN,step⟩
 .refine wpAny_passesOwn hp (thn (T.done X rfl rfl rfl hc i dl s3 Z3 H3 X.xe I3 (BT Ga) Fr stop) λr s4 W'=>?_);obtain⟨hr,I4⟩:=W';subst hr;exact wpAny_execs_nil ⟨Z3,H3,I4,qn⟩
 .refine wpAny_passesOwn hp (thn (T.item X rfl rfl rfl hc i dl s3 Z3 H3 X.xe I3 (BT Ga) Fr go) λr s4 W'=>?_);obtain⟨u,hr,h4⟩:=W';subst hr;refine wpAny_passesOwn hp (thn h4 λ_ s5 W'=>?_);obtain⟨x,H5,I5,r5,y5,Fn,Gc⟩:=W';have I5':=I5.pinned (BT Gc) (T.obj _ _ Fn);refine wpAny_passesOwn hp (thn (hg _ s5 Z3 H5 x u _ I5' r5 (step x H5 y5)) λ_ s6 W'=>?_);obtain⟨Z6,H6,I6,q6⟩:=W';refine wpAny_passesOwn hp (thn (hb _ s6 Z6 H6 _ I6 q6) λf s7 q7=>?_);have mt:∀{Z7:St}{H7:Hp},Inv X (dl++pinsAt fp s5.heap) Z7 H7 s7->N Z7 H7->∃m,m < n/\∃i Z' H',Inv X dl Z' H' s7/\tn i s7.heap/\(∀b∈fp,H' b=none)/\W i m Z' H':=λ{Z7 H7} I7 n7=>by
   obtain⟨m',hm,w7⟩:=hN Z7 H7 n7;refine⟨m',hm,i+1,Z7,H7,I7.unpinned,T.keep _ _ _ Fn λb hb o e=>(I7.pin (b,o) (mem_append_right _ (mem_append_right _ (dq hb e)))).1,λb hb=>?_,w7⟩;obtain⟨o,e,d⟩:=T.obj _ _ Fn b hb;exact (I7.pin (b,o) (mem_append_right _ (mem_append_right _ (dq hb e)))).2.1
  cases f with
  |next=>obtain⟨Z7,H7,I7,n7⟩:=q7;exact mt I7 n7
  |cont=>obtain⟨Z7,H7,I7,n7⟩:=q7;exact mt I7 n7
  |brk=>obtain⟨Z7,H7,I7,q7⟩:=q7;exact⟨Z7,H7,I7.unpinned,q7⟩
  |ret v=>obtain⟨x7,Z7,H7,I7,r7,q7⟩:=q7;exact⟨x7,Z7,H7,I7.unpinned,r7,q7⟩
end
theorem ut {K:`F}{a:Addr}{xs:`V}{g:TG}{tb:TS}{D:Ends}{Z:St}{H:Hp}(Pv:Nat->St->Hp->Prop)(h0:Pv 0 Z H)(hl:∀i Z H,i<=`x->Pv i Z H->SqL K H a xs)
  (hs:∀i x Z H,xs[i]?=some x->Pv i Z H->g x Z H λZ2 H2=>tb {D with nx:=Pv (i+1),ct:=Pv (i+1),bk:=D.nx} Z2 H2) (hd:∀Z H,Pv `x Z H->D.nx Z H) :
  ∃W:Nat->Nat->St->Hp->Prop,(∃m,W 0 m Z H)/\∀i m Z H,W i m Z H ->
   ((Itl K a).stop i H/\D.nx Z H)\/((Itl K a).go i H/\∃N:St->Hp->Prop,(∀Z' H',N Z' H'->∃m',m' < m/\W (i+1) m' Z' H')/\∀x H',(Itl K a).yld i H x H'->g x Z H' λZ2 H2=>tb {D with nx:=N,ct:=N,bk:=D.nx} Z2 H2):=by
 refine⟨λi m Z H=>m=`x - i/\i<=`x/\Pv i Z H,⟨`x,`s,Nat.zero_le _,h0⟩,?_⟩;rintro i m Z H ⟨rfl,hi,p⟩;have q:=hl i Z H hi p;by_cases dl:i < `x
 .refine .inr ⟨⟨xs,xs[i],q,by simp[dl]⟩,Pv (i+1),λZ' H' p'=>⟨`x - (i+1),`l,rfl,dl,p'⟩,λx H' y=>?_⟩;obtain⟨e,y⟩:=y;subst e;exact hs i x Z _ (y xs q) p
 .have e:i=`x:=by lia
  subst e;exact .inl ⟨⟨xs,q,Nat.le_refl _⟩,hd Z H p⟩
theorem uu {K:`F}{a:Addr}{xs:`V}{g:TG}{tb:TS}{D:Ends}{Z:St}{H:Hp}(Pv:Nat->St->Hp->Prop)(h0:Pv 0 Z H)(hl:∀i Z H,i<=`x->Pv i Z H->SqT K H a xs)
  (hs:∀i x Z H,xs[i]?=some x->Pv i Z H->g x Z H λZ2 H2=>tb {D with nx:=Pv (i+1),ct:=Pv (i+1),bk:=D.nx} Z2 H2) (hd:∀Z H,Pv `x Z H->D.nx Z H) :
  ∃W:Nat->Nat->St->Hp->Prop,(∃m,W 0 m Z H)/\∀i m Z H,W i m Z H ->
   ((Itt K a).stop i H/\D.nx Z H)\/((Itt K a).go i H/\∃N:St->Hp->Prop,(∀Z' H',N Z' H'->∃m',m' < m/\W (i+1) m' Z' H')/\∀x H',(Itt K a).yld i H x H'->g x Z H' λZ2 H2=>tb {D with nx:=N,ct:=N,bk:=D.nx} Z2 H2):=by
 refine⟨λi m Z H=>m=`x - i/\i<=`x/\Pv i Z H,⟨`x,`s,Nat.zero_le _,h0⟩,?_⟩;rintro i m Z H ⟨rfl,hi,p⟩;have q:=hl i Z H hi p;by_cases dl:i < `x
 .refine .inr ⟨⟨xs,xs[i],q,by simp[dl]⟩,Pv (i+1),λZ' H' p'=>⟨`x - (i+1),`l,rfl,dl,p'⟩,λx H' y=>?_⟩;obtain⟨e,y⟩:=y;subst e;exact hs i x Z _ (y xs q) p
 .have e:i=`x:=by lia
  subst e;exact .inl ⟨⟨xs,q,Nat.le_refl _⟩,hd Z H p⟩
theorem uv {lo:Int}{n:Nat}{g:TG}{tb:TS}{D:Ends}{Z:St}{H:Hp}(Pv:Nat->St->Hp->Prop)(h0:Pv 0 Z H)
  (hs:∀i Z H,i < n->Pv i Z H->g (.int (lo+i)) Z H λZ2 H2=>tb {D with nx:=Pv (i+1),ct:=Pv (i+1),bk:=D.nx} Z2 H2) (hd:∀Z H,Pv n Z H->D.nx Z H) :
  ∃W:Nat->Nat->St->Hp->Prop,(∃m,W 0 m Z H)/\∀i m Z H,W i m Z H ->
   ((Itr lo n).stop i H/\D.nx Z H)\/((Itr lo n).go i H/\∃N:St->Hp->Prop,(∀Z' H',N Z' H'->∃m',m' < m/\W (i+1) m' Z' H')/\∀x H',(Itr lo n).yld i H x H'->g x Z H' λZ2 H2=>tb {D with nx:=N,ct:=N,bk:=D.nx} Z2 H2):=by
 refine⟨λi m Z H=>m=n - i/\i<=n/\Pv i Z H,⟨n,`s,Nat.zero_le _,h0⟩,?_⟩;rintro i m Z H ⟨rfl,hi,p⟩;by_cases dl:i < n
 .refine .inr ⟨dl,Pv (i+1),λZ' H' p'=>⟨n - (i+1),`l,rfl,dl,p'⟩,λx H' y=>?_⟩;obtain⟨e,y⟩:=y;subst e y;exact hs i Z _ dl p
 .have e:i=n:=by lia
  subst e;exact .inl ⟨Nat.le_refl _,hd Z H p⟩
noncomputable abbrev R2:=V->V->Hp->VK->Prop
def OpR (X:Cx)(f:Value->Value->Sem Value)(r:R2):Prop:=
 ∀(pins:`O) (s:Shared) (Z:St) (H:Hp) (x y:V) (v u:Value) (Q:VK),Inv X pins Z H s->RelV x v->RelV y u->r x y H Q ->
  wpAny `m X.A (f v u) (EP X pins Z Q) X.xe s
def UnR (X:Cx)(f:Value->Sem Value)(r:V->Hp->VK->Prop):Prop:=
 ∀(pins:`O) (s:Shared) (Z:St) (H:Hp) (x:V) (v:Value) (Q:VK),Inv X pins Z H s->RelV x v->r x H Q ->
  wpAny `m X.A (f v) (EP X pins Z Q) X.xe s
def CallR (X:Cx)(f:Value)(r:`V->Hp->VK->Prop):Prop:=
 ∀(pins:`O) (s:Shared) (Z:St) (H:Hp) (xs:`V) (us:List Value) (Q:VK),Inv X pins Z H s->Vals xs us->r xs H Q ->
  wpAny `m X.A (call f us) (EP X pins Z Q) X.xe s
def tOp (r:R2)(ta tb:TE):TE:=λZ H Q=>ta Z H λx H1=>tb Z H1 λy H2=>r x y H2 Q
def tUn (r:V->Hp->VK->Prop)(ta:TE):TE:=λZ H Q=>ta Z H λx H1=>r x H1 Q
def V.ofI (x:V)(k:Int->Prop):Prop:=match x with|.int i=>k i|_=>False
theorem bp {x:V}{k:Int->Prop}(h:x.ofI k):∃i,x=.int i/\k i:=by cases x with|int i=>exact⟨i,rfl,h⟩|_=>exact False.elim h
def rI (C:Int->Int->Prop)(g:Int->Int->V):R2:=λx y H Q=>x.ofI λi=>y.ofI λj=>C i j/\Q (g i j) H
def rI0 (g:Int->Int->V):R2:=λx y H Q=>x.ofI λi=>y.ofI λj=>Q (g i j) H
def rU (g:Int->V):V->Hp->VK->Prop:=λx H Q=>∃i,x=.int i/\Q (g i) H
section
variable {X:Cx}{a b c:Expr}{ta tb tc:TE}{pos:Pos}
theorem binT (ha:PE X a ta)(hb:PE X b tb){pins:`O}{s:Shared}{Z:St}{H:Hp}{R:V->V->Hp->Prop}(I:Inv X pins Z H s)
  (h:ta Z H λx H1=>tb Z H1 λy H2=>R x y H2) {Q:`T}{f:Value->Value->Sem Value}
  (hf:∀v u s2 x y H2,Inv X pins Z H2 s2->RelV x v->RelV y u->R x y H2->wpAny `m X.A (f v u) Q X.xe s2) :
  wpAny `m X.A (eval a X.env) (λv s₁=>wpAny `m X.A (eval b X.env) (λu s₂=>wpAny `m X.A (f v u) Q X.xe s₂) X.xe s₁) X.xe s:=by
 refine thn (ha pins s Z H _ I h) λv s1 W'=>?_;obtain⟨x,H1,I1,r1,q1⟩:=W';refine thn (hb pins s1 Z H1 _ I1 q1) λu s2 W'=>?_;obtain⟨y,H2,I2,r2,q2⟩:=W';exact hf v u s2 x y H2 I2 r1 r2 q2
theorem aU {op:Operator}{r:R2}(ho:OpR X (binaryOp op) r)(ha:PE X a ta)(hb:PE X b tb):PE X (.BinOp a op b pos) (tOp r ta tb):=by intro pins s Z H Q I h;exact wpAny_BinOp (binT ha hb I h λv u s2 x y H2 I2 rx ry q=>ho pins s2 Z H2 x y v u Q I2 rx ry q)
theorem ux {op:UnaryOp}{r:V->Hp->VK->Prop}(ho:UnR X (unaryOp op) r)(ha:PE X a ta):PE X (.UnaryOp op a pos) (tUn r ta):=by intro pins s Z H Q I h;exact UnaryOp_ (thn (ha pins s Z H _ I h) λv s1 ⟨x,H1,I1,r1,q1⟩=>ho pins s1 Z H1 x v Q I1 r1 q1)
theorem opI {f:Value->Value->Sem Value}{C:Int->Int->Prop}{g:Int->Int->Int}
  (rule:∀(i j:Int) (t u:Tok) (s:Shared) (Q:`T) (E:`T),C i j->Q (.int (g i j) s.toks) {s with toks:=s.toks+1}->wpAny `m X.A (f (.int i t) (.int j u)) Q E s) :
  OpR X f (rI C λi j=>.int (g i j)):=by
 intro pins s Z H x y v u Q I rx ry h;obtain⟨i,rfl,h1⟩:=bp h;obtain⟨j,rfl,hc,q⟩:=bp h1;obtain⟨t,rfl⟩:=rx;obtain⟨t',rfl⟩:=ry;exact rule i j t t' s _ _ hc ⟨.int (g i j),H,I.tok _,`o,q⟩
theorem opI0 {f:Value->Value->Sem Value}{g:Int->Int->Int}
  (rule:∀(i j:Int) (t u:Tok) (s:Shared) (Q:`T) (E:`T),Q (.int (g i j) s.toks) {s with toks:=s.toks+1}->wpAny `m X.A (f (.int i t) (.int j u)) Q E s) :
  OpR X f (rI0 λi j=>.int (g i j)):=by
 intro pins s Z H x y v u Q I rx ry h;obtain⟨i,rfl,h1⟩:=bp h;obtain⟨j,rfl,q⟩:=bp h1;obtain⟨t,rfl⟩:=rx;obtain⟨t',rfl⟩:=ry;exact rule i j t t' s _ _ ⟨.int (g i j),H,I.tok _,`o,q⟩
theorem opB0 {f:Value->Value->Sem Value}{g:Int->Int->Bool}
  (rule:∀(i j:Int) (t u:Tok) (s:Shared) (Q:`T) (E:`T),Q (.bool (g i j)) s->wpAny `m X.A (f (.int i t) (.int j u)) Q E s) :
  OpR X f (rI0 λi j=>.bl (g i j)):=by
 intro pins s Z H x y v u Q I rx ry h;obtain⟨i,rfl,h1⟩:=bp h;obtain⟨j,rfl,q⟩:=bp h1;obtain⟨t,rfl⟩:=rx;obtain⟨t',rfl⟩:=ry;exact rule i j t t' s _ _ ⟨.bl (g i j),H,I,rfl,q⟩
def CDiv (i j:Int):Prop:=0 < j/\j < 1073741824
def CPow (i j:Int):Prop:=0<=j/\j<=1000000/\i.natAbs < 2 ^ 64
def CMul (i j:Int):Prop:=(-(2 ^ 64) < i/\i < 2 ^ 64)\/(-(2 ^ 64) < j/\j < 2 ^ 64)
theorem CMul.ok {i j:Int}(h:CMul i j):IntMulOk i j:=by
 rcases h with⟨h1,h2⟩|⟨h1,h2⟩
 .exact .of_left (intBits_le_64 h1 h2)
 .exact .of_right (intBits_le_64 h1 h2)
theorem uy:OpR X (binaryOp .Add) (rI0 λi j=>.int (i+j)):=opI0 λ_ _ _ _ _ _ _ q=>add_int q
theorem uz:OpR X (binaryOp .Sub) (rI0 λi j=>.int (i - j)):=opI0 λ_ _ _ _ _ _ _ q=>sub_int q
theorem vA:OpR X (binaryOp .Mult) (rI CMul λi j=>.int (i * j)):=opI λ_ _ _ _ _ _ _ hc q=>mul_int q hc.ok
theorem vB:OpR X (binaryOp .FloorDiv) (rI CDiv λi j=>.int (i / j)):=opI λi j _ _ _ _ _ hc q=>by have h1:(0:Int) < j:=hc.1;have h2:j < 1073741824:=hc.2;exact floordiv_int `l (by rw[Int.fdiv_eq_ediv_of_nonneg i `l];exact q) (.inl (PyProof.noPylong_small `l))
theorem kG:OpR X (binaryOp .Mod) (rI (λ_ j=>0 < j) λi j=>.int (i % j)):=opI λi j _ _ _ _ _ hc q=>by have h1:(0:Int) < j:=hc;exact mod_int' `l (by rw[Int.fmod_eq_emod_of_nonneg i `l];exact q)
theorem vC:OpR X (binaryOp .Pow) (rI CPow λi j=>.int (i ^ j.toNat)):=opI λ_ _ _ _ _ _ _ hc q=>pow_int_small hc.1 hc.2.1 hc.2.2 q
theorem unI {f:Value->Sem Value}{g:Int->Int}
  (rule:∀(i:Int) (t:Tok) (s:Shared) (Q:`T) (E:`T),Q (.int (g i) s.toks) {s with toks:=s.toks+1}->wpAny `m X.A (f (.int i t)) Q E s) :
  UnR X f (rU λi=>.int (g i)):=by
 intro pins s Z H x v Q I rx h;obtain⟨i,rfl,q⟩:=h;obtain⟨t,rfl⟩:=rx;exact rule i t s _ _ ⟨.int (g i),H,I.tok _,`o,q⟩
theorem vD:UnR X (unaryOp .USub) (rU λi=>.int (-i)):=unI λ_ _ _ _ _ q=>neg_int q
end
noncomputable def scal:V->V->Bool
 |.non,.non=>true|.non,.int _=>true|.int _,.non=>true|.non,.bl _=>true|.bl _,.non=>true|.non,.str _=>true|.str _,.non=>true
 |.int _,.int _=>true|.bl _,.bl _=>true|.str _,.str _=>true|.byt _,.byt _=>true
 |.int _,.str _=>true|.str _,.int _=>true|.bl _,.str _=>true|.str _,.bl _=>true
 |_,_=>false
def rEq:R2:=λx y H Q=>scal x y=true/\Q (.bl (decide (x=y))) H
def rNe:R2:=λx y H Q=>scal x y=true/\Q (.bl (!decide (x=y))) H
theorem kH {i j:Int}:decide (V.int i=V.int j)=(i == j):=by rw[Bool.eq_iff_iff];simp
theorem kI {i j:Bool}:decide (V.bl i=V.bl j)=(i == j):=by rw[Bool.eq_iff_iff];simp
theorem kJ {i j:Str}:decide (V.str i=V.str j)=(i == j):=by rw[Bool.eq_iff_iff];simp
theorem kK {i j:Array UInt8}:decide (V.byt i=V.byt j)=(i.toList == j.toList):=by rw[Bool.eq_iff_iff];cases i;cases j;simp
section
variable {X:Cx}{a b c:Expr}{ta tb tc:TE}{pos:Pos}
theorem aP {pins:`O}{Z:St}{H:Hp}{s:Shared}{Q:VK}{k k':Bool}(I:Inv X pins Z H s)(q:Q (.bl k) H)(e:k=k'):EP X pins Z Q (.bool k') s:=by subst e;exact⟨.bl k,H,I,rfl,q⟩
theorem cY:OpR X (compareOp .Eq) rEq:=by
 intro dl s Z H x y v u Q I rx ry h;obtain⟨hs,q⟩:=h;cases x with
 |non=>
  cases rx;cases y with
  |non=>cases ry;exact PySem.EqNone.eq_none_none (aP I q `s)
  |bl j=>cases ry;exact PySem.EqNone.eq_none_bool (aP I q `s)
  |int j=>obtain⟨t',rfl⟩:=ry;exact PySem.EqNone.eq_none_int (aP I q `s)
  |str j=>obtain⟨t',rfl⟩:=ry;exact PySem.EqNone.eq_none_str (aP I q `s)
  |_=>exact absurd (show false=true from hs) Bool.false_ne_true
 |bl i=>
  cases rx;cases y with
  |non=>cases ry;exact PySem.EqNone.eq_bool_none (aP I q `s)
  |bl j=>cases ry;exact eq_bool (aP I q kI)
  |str j=>obtain⟨t',rfl⟩:=ry;exact PySem.EqMixed.eq_bool_str (aP I q `s)
  |_=>exact absurd (show false=true from hs) Bool.false_ne_true
 |int i=>
  obtain⟨t,rfl⟩:=rx;cases y with
  |non=>cases ry;exact PySem.EqNone.eq_int_none (aP I q `s)
  |int j=>obtain⟨t',rfl⟩:=ry;exact eq_int (aP I q kH)
  |str j=>obtain⟨t',rfl⟩:=ry;exact PySem.EqMixed.eq_int_str (aP I q `s)
  |_=>exact absurd (show false=true from hs) Bool.false_ne_true
 |str i=>
  obtain⟨t,rfl⟩:=rx;cases y with
  |non=>cases ry;exact PySem.EqNone.eq_str_none (aP I q `s)
  |bl j=>cases ry;exact PySem.EqMixed.eq_str_bool (aP I q `s)
  |int j=>obtain⟨t',rfl⟩:=ry;exact PySem.EqMixed.eq_str_int (aP I q `s)
  |str j=>obtain⟨t',rfl⟩:=ry;exact eq_str (aP I q kJ)
  |_=>exact absurd (show false=true from hs) Bool.false_ne_true
 |byt i=>
  obtain⟨t,rfl⟩:=rx;cases y with
  |byt j=>obtain⟨t',rfl⟩:=ry;exact PySem.W.eq_bytes (aP I q kK)
  |_=>exact absurd (show false=true from hs) Bool.false_ne_true
 |_=>cases y <;> exact absurd (show false=true from hs) Bool.false_ne_true
theorem bM:OpR X (compareOp .NotEq) rNe:=by
 intro dl s Z H x y v u Q I rx ry h;obtain⟨hs,q⟩:=h;cases x with
 |non=>
  cases rx;cases y with
  |non=>cases ry;exact PySem.EqNone.ne_none_none (aP I q `s)
  |bl j=>cases ry;exact PySem.EqNone.ne_none_bool (aP I q `s)
  |int j=>obtain⟨t',rfl⟩:=ry;exact PySem.EqNone.ne_none_int (aP I q `s)
  |str j=>obtain⟨t',rfl⟩:=ry;exact PySem.EqNone.ne_none_str (aP I q `s)
  |_=>exact absurd (show false=true from hs) Bool.false_ne_true
 |bl i=>
  cases rx;cases y with
  |non=>cases ry;exact PySem.EqNone.ne_bool_none (aP I q `s)
  |bl j=>cases ry;exact ne_bool (aP I q (congrArg not kI))
  |str j=>obtain⟨t',rfl⟩:=ry;exact PySem.EqMixed.ne_bool_str (aP I q `s)
  |_=>exact absurd (show false=true from hs) Bool.false_ne_true
 |int i=>
  obtain⟨t,rfl⟩:=rx;cases y with
  |non=>cases ry;exact PySem.EqNone.ne_int_none (aP I q `s)
  |int j=>obtain⟨t',rfl⟩:=ry;exact ne_int (aP I q (congrArg not kH))
  |str j=>obtain⟨t',rfl⟩:=ry;exact PySem.EqMixed.ne_int_str (aP I q `s)
  |_=>exact absurd (show false=true from hs) Bool.false_ne_true
 |str i=>
  obtain⟨t,rfl⟩:=rx;cases y with
  |non=>cases ry;exact PySem.EqNone.ne_str_none (aP I q `s)
  |bl j=>cases ry;exact PySem.EqMixed.ne_str_bool (aP I q `s)
  |int j=>obtain⟨t',rfl⟩:=ry;exact PySem.EqMixed.ne_str_int (aP I q `s)
  |str j=>obtain⟨t',rfl⟩:=ry;exact ne_str (aP I q (congrArg not kJ))
  |_=>exact absurd (show false=true from hs) Bool.false_ne_true
 |byt i=>
  obtain⟨t,rfl⟩:=rx;cases y with
  |byt j=>obtain⟨t',rfl⟩:=ry;exact PySem.W.ne_bytes (aP I q (congrArg not kK))
  |_=>exact absurd (show false=true from hs) Bool.false_ne_true
 |_=>cases y <;> exact absurd (show false=true from hs) Bool.false_ne_true
theorem vE:OpR X (compareOp .Lt) (rI0 λi j=>.bl (decide (i < j))):=opB0 λ_ _ _ _ _ _ _ q=>lt_int q
theorem vF:OpR X (compareOp .LtE) (rI0 λi j=>.bl (decide (i<=j))):=opB0 λ_ _ _ _ _ _ _ q=>le_int q
theorem vG:OpR X (compareOp .Gt) (rI0 λi j=>.bl (decide (j < i))):=opB0 λ_ _ _ _ _ _ _ q=>gt_int q
theorem vH:OpR X (compareOp .GtE) (rI0 λi j=>.bl (decide (j<=i))):=opB0 λ_ _ _ _ _ _ _ q=>ge_int q
theorem vI:OpR X (compareOp .In) (λx y H Q=>∃i j,x=.str i/\y=.str j/\Q (.bl (!(Builtin.Str.occurrences j i 0 j.length 1).isEmpty)) H):=by intro pins s Z H x y v u Q I rx ry h;obtain⟨i,j,rfl,rfl,q⟩:=h;obtain⟨t,rfl⟩:=rx;obtain⟨t',rfl⟩:=ry;exact in_str (aP I q rfl)
theorem vJ:OpR X (compareOp .Is) (λx y H Q=>y=.non/\Q (.bl (decide (x=.non))) H):=by
 intro pins s Z H x y v u Q I rx ry h;obtain⟨rfl,q⟩:=h;cases ry;refine is_none_gen (aP I q ?_);cases x <;> first
  | (cases rx;rfl)
  | (obtain⟨t,rfl⟩:=rx;rfl)
theorem vK:OpR X (compareOp .IsNot) (λx y H Q=>y=.non/\Q (.bl (!decide (x=.non))) H):=by
 intro pins s Z H x y v u Q I rx ry h;obtain⟨rfl,q⟩:=h;cases ry;refine isnot_none_gen (aP I q ?_);cases x <;> first
  | (cases rx;rfl)
  | (obtain⟨t,rfl⟩:=rx;rfl)
theorem vL:OpR X (compareOp .NotIn) (λx y H Q=>∃i j,x=.str i/\y=.str j/\Q (.bl (!(!(Builtin.Str.occurrences j i 0 j.length 1).isEmpty))) H):=by intro pins s Z H x y v u Q I rx ry h;obtain⟨i,j,rfl,rfl,q⟩:=h;obtain⟨t,rfl⟩:=rx;obtain⟨t',rfl⟩:=ry;exact notIn_str (aP I q rfl)
theorem nomark (b:Expr){op:CmpOp}(h:op≠.In:=by decide)(h2:op≠.NotIn:=by decide):behindInMarks op b=false:=by
 have e1:(op == CmpOp.In)=false:=by cases op <;> first|rfl|exact absurd rfl h
 have e2:(op == CmpOp.NotIn)=false:=by cases op <;> first|rfl|exact absurd rfl h2
 cases b <;> simp[behindInMarks,e1,e2]
theorem cZ {op:CmpOp}{r:R2}(ho:OpR X (compareOp op) r)(ha:PE X a ta)(hb:PE X b tb)(hm:behindInMarks op b=false):PE X (.Compare a [op] [b] pos) (tOp r ta tb):=by intro pins s Z H Q I h;exact wpAny_Compare1 (binT ha hb I h λv u s2 x y H2 I2 rx ry q=>ho pins s2 Z H2 x y v u Q I2 rx ry q) hm
def tTest (t:TE):TT:=λZ H Q=>t Z H λx H'=>∃k,x=.bl k/\Q k H'
theorem bN {op:CmpOp}{r:R2}(ho:OpR X (compareOp op) r)(ha:PE X a ta)(hb:PE X b tb)(hm:behindInMarks op b=false):PT X (.Compare a [op] [b] pos) (tTest (tOp r ta tb)):=by
 intro dl s Z H Q I h;refine wpAny_isTrue_Compare1 (thn (ha dl s Z H _ I h) λv s1 ⟨x,H1,I1,r1,q1⟩=>thn (hb dl s1 Z H1 _ I1 q1) λu s2 ⟨y,H2,I2,r2,q2⟩=>
  thn (ho dl s2 Z H2 x y v u _ I2 r1 r2 q2) λc s3 ⟨z,H3,I3,r3,k,e,q3⟩=>?_) hm
 subst e;cases r3;exact wpAny_truthy_bool ⟨H3,I3,q3⟩
def tChain (r r':R2)(ta tb tc:TE):TE:=λZ H Q=>ta Z H λx H1=>tb Z H1 λy H2=>r x y H2 λz H3=>∃k,z=.bl k/\
 (if k=true then tc Z H3 λw' H4=>r' y w' H4 Q else Q (.bl false) H3)
theorem vM {op op':CmpOp}{r r':R2}(ho:OpR X (compareOp op) r)(ho':OpR X (compareOp op') r')(ha:PE X a ta)(hb:PE X b tb)(hc:PE X c tc)
  (hm:lastMarks [op,op'] [b,c]=false:=by with_unfolding_all rfl):PE X (.Compare a [op,op'] [b,c] pos) (tChain r r' ta tb tc):=by
 intro dl s Z H Q I h;refine Compare_chain (thn (ha dl s Z H _ I h) λv s1 ⟨x,H1,I1,r1,q1⟩=>chain_link (thn (hb dl s1 Z H1 _ I1 q1) λu s2 ⟨y,H2,I2,r2,q2⟩=>
  thn (ho dl s2 Z H2 x y v u _ I2 r1 r2 q2) λd s3 ⟨z,H3,I3,r3,k,e,q3⟩=>?_)) hm
 subst e;cases r3;refine wpAny_truthy_bool ?_;cases k with
 |false=>exact ite_ff ⟨.bl false,H3,I3,rfl,q3⟩
 |true=>exact ite_tt (chain_last (thn (hc dl s3 Z H3 _ I3 q3) λw' s4 ⟨z',H4,I4,r4,q4⟩=>ho' dl s4 Z H4 y z' u w' Q I4 r2 r4 q4))
theorem vN {op op':CmpOp}{r r':R2}(ho:OpR X (compareOp op) r)(ho':OpR X (compareOp op') r')(ha:PE X a ta)(hb:PE X b tb)(hc:PE X c tc)
  (hm:lastMarks [op,op'] [b,c]=false:=by with_unfolding_all rfl):PT X (.Compare a [op,op'] [b,c] pos) (tTest (tChain r r' ta tb tc)):=by
 intro dl s Z H Q I h;refine isTrue_chain (thn (ha dl s Z H _ I h) λv s1 ⟨x,H1,I1,r1,q1⟩=>test_link (thn (hb dl s1 Z H1 _ I1 q1) λu s2 ⟨y,H2,I2,r2,q2⟩=>
  thn (ho dl s2 Z H2 x y v u _ I2 r1 r2 q2) λd s3 ⟨z,H3,I3,r3,k,e,q3⟩=>?_)) hm
 subst e;cases r3;refine wpAny_truthy_bool ?_;cases k with
 |false=>obtain⟨k',e',q'⟩:=q3;cases e';exact ite_ff ⟨H3,I3,q'⟩
 |true=>refine ite_tt (test_last (thn (hc dl s3 Z H3 _ I3 q3) λw' s4 ⟨z',H4,I4,r4,q4⟩=>thn (ho' dl s4 Z H4 y z' u w' _ I4 r2 r4 q4) λd' s5 W'=>?_));obtain⟨z2,H5,I5,r5,k2,e2,q5⟩:=W';subst e2;cases r5;exact wpAny_truthy_bool ⟨H5,I5,q5⟩
theorem line63:(sizeLine:Nat) < 2 ^ 63:=by rw[sizeLine_eq];decide
theorem vO:OpR X (binaryOp .Add) (λx y H Q=>∃i j,x=.str i/\y=.str j/\i.length+j.length<=sizeLine/\Q (.str (i++j)) H):=by intro pins s Z H x y v u Q I rx ry h;obtain⟨i,j,rfl,rfl,hz,q⟩:=h;obtain⟨t,rfl⟩:=rx;obtain⟨t',rfl⟩:=ry;exact add_str (λt' tk=>⟨.str (i++j),H,I.tok _,`o,q⟩) hz
theorem vals1 {x:V}{us:List Value}(r:Vals [x] us):∃u,us=[u]/\RelV x u:=by
 cases r with
 |cons r1 r2=>cases r2;exact⟨_,rfl,r1⟩
theorem vals2 {x y:V}{us:List Value}(r:Vals [x,y] us):∃u w',us=[u,w']/\RelV x u/\RelV y w':=by
 cases r with
 |cons r1 r2=>
  cases r2 with
  |cons r3 r4=>cases r4;exact⟨_,_,rfl,r1,r3⟩
theorem vP (hc:X.calm=true):CallR X (.builtin "max") (λxs H Q=>∃i j,xs=[.int i,.int j]/\Q (.int (if j > i then j else i)) H):=by
 intro pins s Z H xs us Q I r h;obtain⟨i,j,rfl,q⟩:=h;obtain⟨u,w',rfl,⟨t,rfl⟩,⟨t',rfl⟩⟩:=vals2 r;refine max_two_ints (I.ok.hd hc) λh' tk k=>⟨_,H,I.kept k,?_,q⟩;by_cases hj:j > i
 .rw[if_pos hj,if_pos hj];exact⟨_,rfl⟩
 .rw[if_neg hj,if_neg hj];exact⟨_,rfl⟩
theorem kL:CallR X (.type "int") (λxs H Q=>(∃i,xs=[.int i]/\Q (.int i) H)\/∃k,xs=[.bl k]/\Q (.int (if k then 1 else 0)) H):=by
 intro pins s Z H xs us Q I r h;rcases h with⟨i,rfl,q⟩|⟨k,rfl,q⟩
 .obtain⟨u,rfl,t,rfl⟩:=vals1 r;exact call_int_int ⟨.int i,H,I,`o,q⟩
 .obtain⟨u,rfl,r1⟩:=vals1 r;cases r1;exact call_int_bool ⟨.int (if k then 1 else 0),H,I.tok _,`o,q⟩
theorem kM:CallR X (.type "str") (λxs H Q=>∃i,xs=[.int i]/\i.natAbs.log2 < 1920/\Q (.str (toString i)) H):=by intro pins s Z H xs us Q I r h;obtain⟨i,rfl,hz,q⟩:=h;obtain⟨u,rfl,t,rfl⟩:=vals1 r;exact PySem.P.str_of_int hz ⟨.str _,H,I.tok _,`o,q⟩
theorem vQ:CallR X (.builtin "ord") (λxs H Q=>∃x,xs=[.str x]/\x.length=1/\Q (.int (x.cps.getD 0 0:Nat)) H):=by intro pins s Z H xs us Q I r h;obtain⟨x,rfl,hz,q⟩:=h;obtain⟨u,rfl,t,rfl⟩:=vals1 r;exact ord_of_one hz ⟨.int _,H,I.tok _,`o,q⟩
end
structure ObjM (h:Heap)(x dx C:Addr)(mA:Str->Option Value):Prop where
 obj:h.get? x=some (PySem.W.instObj C dx)
 ns:h.Ns1 dx mA
 ne:dx≠x
theorem vR {h:Heap}{dx:Addr}{mA:Str->Option Value}(n:h.Ns1 dx mA):∃od,h.get? dx=some od/\∀name,PySem.W.lookIn name od=some (mA name):=by
 obtain⟨o,es,ep,ho,hd,hk,_,hm⟩:=n;refine⟨o,ho,λname=>?_⟩;have e:=hm name;unfold nsFind findBy at e;rw[<- Array.find?_toList] at e;unfold PySem.W.lookIn;rw[hd];dsimp only;split
 .rename_i y q;rw[q] at e;exact congrArg some e
 .rename_i q;rw[q] at e;have a:es.toList.any (·.refKey)=false:=by
   rw[List.any_eq_false];intro y hy;obtain⟨z,t,dl⟩:=hk y (Array.mem_toList_iff.mp hy);simp[DictEntry.refKey,dl]
  have a':¬ es.toList.any (·.refKey)=true:=by rw[a];exact Bool.false_ne_true
  rw[if_neg a'];exact congrArg some e
theorem ObjM.look {h:Heap}{x dx C:Addr}{mA:Str->Option Value}(I:ObjM h x dx C mA):∃od,PySem.W.InstAt h x (PySem.W.instObj C dx) C (some od)/\∀name,PySem.W.lookIn name od=some (mA name):=
 let ⟨od,ho,hl⟩:=vR I.ns
 ⟨od,⟨I.obj,rfl,rfl,ho⟩,hl⟩
section
variable {prog:Program}{w:World}{A:Around}{E:`T}{s:Shared}{K:`F}{x dx C f:Addr}{mA:Str->Option Value}{name:Str}{v:Value}
theorem vS {expr:Bool}{Q:`T}(X:K.In s.heap)(I:ObjM s.heap x dx C mA)(hg:PySem.W.plainGet K C name=true)(hh:PySem.W.hasDictIn K C=true)
  (ha:PySem.W.findIn K (.ref C) name=some none) (hv:mA name=some v) (hv':PySem.W.handedIn v=true) (h:Q v {s with toks:=s.toks+1}) :
  wpAny `M A (getAttr (.ref x) name expr) Q E s:=by
 obtain⟨od,J,hl⟩:=I.look;exact PySem.W.get_value X J (PySem.W.plainGet_of hg).1 (PySem.W.findObj_own hh ha rfl (by rw[hl,hv])) hv' h
theorem vT {pl:Sem Bool}{Q:Value×List Value->Shared->Prop}(X:K.In s.heap)(I:ObjM s.heap x dx C mA)(hg:PySem.W.plainGet K C name=true)
  (hf:PySem.W.findIn K (.ref C) name=some (some (.ref f))) (ht:PySem.W.isFn K (.ref f)=true) (hv:mA name=none) (h:Q (.ref f,[.ref x]) s) :
  wpAny `M A (getMethod (.ref x) name pl) Q E s:=by
 obtain⟨od,J,hl⟩:=I.look;exact PySem.W.method_fn X J (PySem.W.plainGet_of hg).1 (PySem.W.plainGet_of hg).2 hf (beq_iff_eq.mp ht) (by show (PySem.W.lookIn name od).map (·.isSome)=some false;rw[hl,hv];rfl) h
theorem vU {ns:List Str}{Q:Unit->Shared->Prop}(X:K.In s.heap)(I:ObjM s.heap x dx C mA)
  (hs:PySem.W.findIn K (.ref C) "__setattr__"=some (some (.builtin "object.__setattr__"))) (hp:PySem.W.plainOver K C=true) (ht:PySem.W.takerIn K C name=some none) (hh:PySem.W.hasDictIn K C=true)
  (hw:PySem.Within mA ns) (hsz:ns.length<=sizeLine)
  (h:∀h',ObjM h' x dx C (λy=>if y=name then some v else mA y)->Heap.SameBut dx s.heap h'->Q () {s with heap:=h',toks:=s.toks+2}) :
  wpAny `M A (setAttr (.ref x) name v) Q E s:=by
 obtain⟨od,J,hl⟩:=I.look;refine PySem.W.set_plain X J hs (PySem.W.osa_open (s:={ s with toks:=s.toks+1}) (r:=none) X J hp ht λb=>?_);obtain⟨cd,hc,Fn⟩:=PySem.W.any_some hh;have hx:s.heap.get? x=some ⟨.ref C,some dx,.plain,#[]⟩:=I.obj;refine wpAny_bind (wpAny_pure (wpAny_bind (wpAny_bind (wpAny_loadPart hx (wpAny_bind (PySem.W.Looks.here (s:={ s with toks:=s.toks+1}) (PySem.W.looks_clsIn X hc) ?_))))));rw[Fn];refine wpAny_pure (a:=some dx) (wpAny_bind (wpAny_pure (wpAny_bind ?_)));refine wpAny_nsSet1 (s:={ s with toks:=s.toks+1}) I.ns λh' mt dl=>?_;obtain⟨oD,Ga,Gb,BT,Cl,Fr⟩:=mt.count (PySem.Within.cons name v hw);refine wpAny_bind (wpAny_lookBehind BT (by rw[Cl];exact pastItsLine_dict (Nat.le_trans Fr (by rw[length_cons];lia))) ?_);exact wpAny_pure (h _ ⟨(dl.2 _ (Ne.symm I.ne)).trans I.obj,mt,I.ne⟩ dl)
theorem vV {R:Result->Shared->Prop}{vs:List Value}{kw:List (Str×Value)}(X:K.In s.heap)(hm:PySem.W.makesIn K C=true)
  (hi:PySem.W.findIn K (.ref C) "__init__"=some (some (.ref f))) (hf:PySem.W.typeIn K (.ref f)=some (.type "function"))
  (h:codeAny `M (A.under (.builtin "type.__call__" ⟨.ref C::vs,kw⟩)) (.call (.ref f) ⟨.ref (`z+1)::vs,kw⟩) (PySem.W.InitBack (`z+1) R)
   { s with heap:=(s.heap.push PySem.W.emptyDict).push (PySem.W.instObj C `z)}) :
  codeAny `M A (.call (.ref C) ⟨vs,kw⟩) R s:=by
 obtain⟨hh,g,d,t,os⟩:=s;exact PySem.W.make_core (PySem.W.makes_of X hm) (PySem.W.looks_findIn X hi) (λself=>PySem.W.bind_fn X self hf) (.inl rfl) h
end
noncomputable def putF (f:Str)(v:V):List (Str×V)->List (Str×V)
 |[]=>[(f,v)]
 | (g,x)::r=>if g=f then (g,v)::r else (g,x)::putF f v r
theorem kN (f g:Str)(v:V):∀fs:List (Str×V),(putF f v fs).lookup g=if g=f then some v else fs.lookup g
 |[]=>by
  show List.lookup g [(f,v)]=_;by_cases h:g=f
  .have hb:(g == f)=true:=beq_iff_eq.mpr h;simp only[List.lookup,hb,if_pos h]
  .have hb:(g == f)=false:=beq_eq_false_iff_ne.mpr h;simp only[List.lookup,hb,if_neg h]
 | (k,x)::r=>by
  have ih:=kN f g v r;rw[show putF f v ((k,x)::r)=(if k=f then (k,v)::r else (k,x)::putF f v r) from rfl];by_cases hk:k=f
  .rw[if_pos hk];by_cases h:g=k
   .have hb:(g == k)=true:=beq_iff_eq.mpr h;simp only[List.lookup,hb,if_pos (h.trans hk)]
   .have hb:(g == k)=false:=beq_eq_false_iff_ne.mpr h;simp only[List.lookup,hb,if_neg (λe:g=f=>h (e.trans hk.symm))]
  .rw[if_neg hk];by_cases h:g=k
   .have hb:(g == k)=true:=beq_iff_eq.mpr h;simp only[List.lookup,hb,if_neg (λe:g=f=>hk (h.symm.trans e))]
   .have hb:(g == k)=false:=beq_eq_false_iff_ne.mpr h;simp only[List.lookup,hb];exact ih
theorem gk (f:Str)(v:V):∀fs:List (Str×V),f∈(putF f v fs).map (·.1)/\∀g,g∈fs.map (·.1)->g∈(putF f v fs).map (·.1)
 |[]=>⟨by simp[putF],λg h=>by simp at h⟩
 | (k,x)::r=>by
  obtain⟨i1,i2⟩:=gk f v r;rw[show putF f v ((k,x)::r)=(if k=f then (k,v)::r else (k,x)::putF f v r) from rfl];by_cases hk:k=f
  .rw[if_pos hk];subst hk;exact⟨`s,λg h=>by simpa using h⟩
  .rw[if_neg hk];refine⟨?_,λg h=>?_⟩
   .rw[map_cons];exact mem_cons_of_mem _ i1
   .rw[map_cons] at h ⊢;rcases mem_cons.mp h with e|e
    .exact mem_cons.mpr (.inl e)
    .exact mem_cons_of_mem _ (i2 g e)
theorem kO (f:Str)(v:V):∀fs:List (Str×V),(putF f v fs).length<=fs.length+1
 |[]=>by simp[putF]
 | (k,x)::r=>by
  have ih:=kO f v r;rw[show putF f v ((k,x)::r)=(if k=f then (k,v)::r else (k,x)::putF f v r) from rfl];by_cases hk:k=f
  .rw[if_pos hk,length_cons,length_cons];lia
  .rw[if_neg hk,length_cons,length_cons];lia
theorem RelO.some_of {v:V}{o:Option Value}(r:RelO (some v) o):∃u,o=some u/\RelV v u:=by
 cases o with
 |none=>exact (show False from r).elim
 |some u=>exact⟨u,rfl,r⟩
theorem RelO.none_of {o:Option Value}(r:RelO none o):o=none:=by
 cases o with
 |none=>rfl
 |some u=>exact (show False from r).elim
theorem vW {v:V}{u:Value}(r:RelV v u):PySem.W.handedIn u=true:=by
 cases v with
 |non=>cases (show u=Value.none from r);rfl
 |bl b=>cases (show u=Value.bool b from r);rfl
 |int i=>obtain⟨t,e⟩:=(show ∃t,u=Value.int i t from r);cases e;rfl
 |str x=>obtain⟨t,e⟩:=(show ∃t,u=Value.str x t from r);cases e;rfl
 |byt b=>obtain⟨t,e⟩:=(show ∃t,u=Value.bytes b t from r);cases e;rfl
 |flt b=>obtain⟨t,e⟩:=(show ∃t,u=Value.float b t from r);cases e;rfl
 |ref a=>cases (show u=Value.ref a from r);rfl
 |ty n=>cases (show u=Value.type n from r);rfl
section
variable {P:Program}{w:World}{H H':Hp}{h h':Heap}{a C dx:Addr}{fs fs':List (Str×V)}
theorem du (hok:HOk P w H h)(e:H a=some (.ins C dx fs)):∃mA,ObjM h a dx C mA/\(∀f,RelO (fs.lookup f) (mA f))/\PySem.Within mA (fs.map (·.1))/\fs.length<=1000/\H dx=some (.own a):=by obtain⟨d,z,ne,ob,mA,n,r,q⟩:=(show ObjOk P w H h a (.ins C dx fs) from hok a _ e);exact⟨mA,⟨ob,n,ne⟩,r,q,z,d⟩
end
structure Cls (K:`F)(C:Addr):Prop where
 pg:PySem.W.plainGet K C Str.empty=true
 hd:PySem.W.hasDictIn K C=true
 po:PySem.W.plainOver K C=true
 sa:PySem.W.findIn K (.ref C) "__setattr__"=some (some (.builtin "object.__setattr__"))
theorem Cls.get {K:`F}{C:Addr}(c:Cls K C)(f:Str):PySem.W.plainGet K C f=true:=c.pg
def NoAttr (K:`F)(C:Addr)(f:Str):Prop:=PySem.W.findIn K (.ref C) f=some none
theorem NoAttr.taker {K:`F}{C:Addr}{f:Str}(n:NoAttr K C f):PySem.W.takerIn K C f=some none:=by unfold PySem.W.takerIn;rw[show PySem.W.findIn K (.ref C) f=some none from n];rfl
structure Con (K:`F)(C:Addr)(f:Str)(v:V)(u:Value):Prop where
 at_:PySem.W.findIn K (.ref C) f=some (some u)
 rel:RelV v u
 get:PySem.W.specialIn K u "__get__"=some none
 cp:PySem.W.copiedNames.contains f=false
structure Meth (K:`F)(C:Addr)(m:Str)(f:Addr):Prop where
 at_:PySem.W.findIn K (.ref C) m=some (some (.ref f))
 fn:PySem.W.isFn K (.ref f)=true
 kp:PySem.W.keepIn K (.ref f)=true
section
variable {X:Cx}{pins:`O}{Z:St}{H:Hp}{s:Shared}{a C dx:Addr}{fs:List (Str×V)}{f:Str}{v:V}{A:Around}{E:`T}
theorem vX {b:Bool}{Q:`T}(I:Inv X pins Z H s)(e:H a=some (.ins C dx fs))(c:Cls X.K C)(n:NoAttr X.K C f)(l:fs.lookup f=some v)
  (h:∀u s',Inv X pins Z H s'->RelV v u->Q u s'):wpAny `m A (getAttr (.ref a) f b) Q E s:=by
 obtain⟨mA,O,r,_,_,_⟩:=du I.hok e;obtain⟨u,hu,ru⟩:=RelO.some_of (v:=v) (o:=mA f) (by rw[<- l];exact r f);exact vS I.kIn O (c.get f) c.hd n hu (vW ru) (h u _ (I.tok _) ru)
theorem gl {m:Str}{g:Addr}{pl:Sem Bool}{Q:Value×List Value->Shared->Prop}(I:Inv X pins Z H s)(e:H a=some (.ins C dx fs))(c:Cls X.K C)(k:Meth X.K C m g)(l:fs.lookup m=none)
  (h:Q (.ref g,[.ref a]) s):wpAny `m A (getMethod (.ref a) m pl) Q E s:=by
 obtain⟨mA,O,r,_,_,_⟩:=du I.hok e;have hn:mA m=none:=RelO.none_of (by rw[<- l];exact r m);exact vT I.kIn O (c.get m) k.at_ k.fn hn h
theorem vY {y:V}{u:Value}{Q:Unit->Shared->Prop}(I:Inv X pins Z H s)(e:H a=some (.ins C dx fs))(c:Cls X.K C)(n:NoAttr X.K C f)(hl:fs.length < 1000)(ry:RelV y u)
  (h:∀s',Inv X pins Z (upd H a (.ins C dx (putF f y fs))) s'->Q () s'):wpAny `m A (setAttr (.ref a) f u) Q E s:=by
 obtain⟨mA,O,r,wi,_,ho⟩:=du I.hok e;have hz:(fs.map (·.1)).length<=sizeLine:=by rw[length_map,sizeLine_eq];lia
 refine vU I.kIn O c.sa c.po n.taker c.hd wi hz λh' O' sb=>h _ ?_;have hd:∃o,h'.get? dx=some o:=let ⟨o,_,_,e',_⟩:=O'.ns;⟨o,e'⟩
 refine I.write (x:=a) (e:=dx) (by rw[e];exact True.intro) (.inr ho) (λb q hb z=>(sb.2 b hb).trans z) hd ?_;refine⟨by rw[aD O.ne];exact ho,?_,O.ne,O'.obj,_,O'.ns,λg=>?_,λg hg=>?_⟩
 .have:=kO f y fs;lia
 .show RelO ((putF f y fs).lookup g) (if g=f then some u else mA g);rw[kN];by_cases q:g=f
  .rw[if_pos q,if_pos q];exact ry
  .rw[if_neg q,if_neg q];exact r g
 .by_cases q:g=f
  .rw[q];exact (gk f y fs).1
  .refine (gk f y fs).2 g (wi g λz=>hg ?_);show (if g=f then some u else mA g)=none;rw[if_neg q];exact z
theorem Inv.made (I:Inv X pins Z H s):Inv X pins Z (upd (upd H `z (.own (`z+1))) (`z+1) (.ins C `z []))
  { s with heap:=(s.heap.push PySem.W.emptyDict).push (PySem.W.instObj C `z)}:=by
 have e1:(s.heap.push PySem.W.emptyDict).get? `z=some PySem.W.emptyDict:=Heap.get?_push_size s.heap rfl;have e2:((s.heap.push PySem.W.emptyDict).push (PySem.W.instObj C `z)).get? (`z+1)=some (PySem.W.instObj C `z):=by
  have:=Heap.get?_push_size (s.heap.push PySem.W.emptyDict) (o:=PySem.W.instObj C `z) rfl
  rwa [Heap.size_push] at this
 have e3:(s.heap.push PySem.W.emptyDict).Ns `z (λ_=>none):=⟨PySem.W.emptyDict,#[],_,e1,rfl,(λe he=>absurd he `s),λ_=>rfl⟩;have I1:=I.laid (a:=`z) (o:=.own (`z+1)) (h':=s.heap.push PySem.W.emptyDict) (t':=s.toks) (λb u q=>Heap.get?_push_of_some _ q) `n ⟨_,e1⟩;refine I1.laid (a:=`z+1) (o:=.ins C `z []) (t':=s.toks) (λb u q=>Heap.get?_push_of_some _ q) (Nat.le_of_eq (Heap.size_push _ _)) ?_;have ne:`z≠`z+1:=Nat.ne_of_lt (Nat.lt_succ_self _);refine⟨by rw[aD ne,aB],Nat.zero_le _,ne,e2,λ_=>none,(Heap.Ns1.of_empty e3).at λo q=>Heap.get?_push_of_some _ q,λ_=>True.intro,λy hy=>absurd rfl hy⟩
theorem vZ {prog:Program}{w:World}{env:Env}{e:Expr}{f:Str}{pos:Pos}{s:Shared}{Q:`T}(hb:attributeBase e f env (eval e env)=eval e env)
  (h:wpAny `M A (eval e env) (λo s₁=>wpAny `M A (getAttr o f true) Q E s₁) E s):wpAny `M A (eval (.Attribute e f pos) env) Q E s:=
 Attribute_any_ h (by rw[arm_eval_Attribute,hb])
end
inductive FldE (K:`F)(f:Str)(x:V)(H:Hp)(R:V->Prop):Prop
 |mk (a C dx:Addr) (fs:List (Str×V)) (v:V) (h:x=.ref a) (o:H a=some (.ins C dx fs)) (c:Cls K C) (n:NoAttr K C f) (l:fs.lookup f=some v) (q:R v):FldE K f x H R
inductive SfE (K:`F)(f:Str)(x y:V)(H:Hp)(R:Hp->Prop):Prop
 |mk (a C dx:Addr) (fs:List (Str×V)) (h:x=.ref a) (o:H a=some (.ins C dx fs)) (c:Cls K C) (n:NoAttr K C f) (l:fs.length < 1000) (q:R (upd H a (.ins C dx (putF f y fs)))):SfE K f x y H R
def tFld (K:`F)(ta:TE)(f:Str):TE:=λZ H Q=>ta Z H λx H1=>FldE K f x H1 λv=>Q v H1
def sFld (K:`F)(ta tv:TE)(f:Str):TS:=λD Z H=>tv Z H λy H1=>ta Z H1 λx H2=>SfE K f x y H2 λH'=>D.nx Z H'
section
variable {X:Cx}{o e value:Expr}{f:Str}{pos pos' tpos:Pos}{ta tv:TE}
theorem va (he:PE X e ta)(hb:attributeBase e f X.env (eval e X.env)=eval e X.env):PE X (.Attribute e f pos) (tFld X.K ta f):=by intro pins s Z H Q I h;refine vZ hb (thn (he pins s Z H _ I h) λu s1 W'=>?_);obtain⟨x,H1,I1,rx,a,C,dx,fs,v,ex,ea,c,n,l,q⟩:=W';subst ex;obtain rfl:u=Value.ref a:=rx;exact vX I1 ea c n l λu' s2 I2 ru=>⟨v,H1,I2,ru,q⟩
theorem kP (ha:PE X o ta)(hv:PE X value tv)(hs:swapsWith value (some (.Attribute o f pos')) pos.line X.env=pure false):PS X (.Assign [.Attribute o f pos'] value pos) (sFld X.K ta tv f):=by intro dl s Z H D I h;refine plainObj_wpAny_Assign_Attribute (thn (hv dl s Z H _ I h) λu s1 ⟨y,H1,I1,ry,q⟩=>thn (ha dl s1 Z H1 _ I1 q) λov s2 W'=>?_) hs;obtain⟨x,H2,I2,rx,a,C,dx,fs,ex,ea,c,n,l,q2⟩:=W';subst ex;obtain rfl:ov=Value.ref a:=rx;exact vY I2 ea c n l ry λs3 I3=>⟨Z,_,I3,q2⟩
theorem G6 {pl:Sem Bool}{m:Str}{apos:Pos}{args:List Expr}{pins:`O}{s:Shared}{Z:St}{H:Hp}{Q:`T}{te:TE}(he:PE X e te)(I:Inv X pins Z H s)
  (h:te Z H λx H1=>∃a C dx fs g,x=.ref a/\H1 a=some (.ins C dx fs)/\Cls X.K C/\Meth X.K C m g/\fs.lookup m=none/\
   ∀s1,Inv X pins Z H1 s1->wpAny `m X.A (callWith pos (.ref g) [.ref a] (backTo pos (starEach args X.env)) (backToKw pos (keywordEach [] X.env))) Q X.xe s1)
  (ht:eval (.Call (.Attribute e m apos) args [] pos) X.env=(do
   let ov <- eval e X.env
   standAt apos.atName
   let (f,first) <- holding [ov] (getMethod ov m pl)
   callWith pos f first (backTo pos (starEach args X.env)) (backToKw pos (keywordEach [] X.env)))) :
  wpAny `m X.A (eval (.Call (.Attribute e m apos) args [] pos) X.env) Q X.xe s:=by
 refine PySem.W.methodCall_KW (pl:=pl) (thn (he pins s Z H _ I h) λu s1 W'=>?_) ht;obtain⟨x,H1,I1,rx,a,C,dx,fs,g,ex,ea,c,k,l,q⟩:=W';subst ex;obtain rfl:u=Value.ref a:=rx;exact gl I1 ea c k l (q s1 I1)
end
section
variable {X:Cx}{pins:`O}{Z:St}{H:Hp}{s:Shared}{A:Around}{E:`T}{Q:`T}{c:Value}{b:Bool}
inductive TyOf (K:`F)(H:Hp):V->Value->Prop where
 |non:TyOf K H .non (.type "NoneType")
 |bl (x:Bool):TyOf K H (.bl x) (.type "bool")
 |int (i:Int):TyOf K H (.int i) (.type "int")
 |str (x:Str):TyOf K H (.str x) (.type "str")
 |flt (x:UInt64):TyOf K H (.flt x) (.type "float")
 |lst {a:Addr}{xs:`V} (e:H a=some (.lst xs)):TyOf K H (.ref a) (.type "list")
 |frz {a:Addr}{o:Obj}{xs:`V} (e:H a=some (.frz o (.lst xs))):TyOf K H (.ref a) (.type "list")
 |tup {a:Addr}{xs:`V} (e:H a=some (.tup xs)):TyOf K H (.ref a) (.type "tuple")
 |dK {a:Addr}{kvs:List (Key×V)} (e:H a=some (.dK kvs)):TyOf K H (.ref a) (.type "dict")
 |dT {a:Addr}{kvs:List (List Key×V)} (e:H a=some (.dT kvs)):TyOf K H (.ref a) (.type "dict")
 |ins {a C dx:Addr}{fs:List (Str×V)} (e:H a=some (.ins C dx fs)) (cl:Cls K C) (ha:PySem.W.findIn K (.ref C) "__class__"=some (some (.builtin "object.__class__")))
   (hn:PySem.W.specialIn K (.builtin "object.__class__") "__get__"=some (some (.builtin "getset_descriptor.__get__"))) (htk:PySem.W.takesIn K (.builtin "object.__class__")=some true)
   (hm:PySem.W.mroIn K C (.type "object")=some true):TyOf K H (.ref a) (.ref C)
theorem vc {x:V}{u t:Value}(I:Inv X pins Z H s)(rx:RelV x u)(ty:TyOf X.K H x t)(e:PySem.W.kitOne X.K t c=some b)(h:∀tk,Q (.bool b) {s with toks:=tk}) :
  wpAny `m A (call (.builtin "isinstance") [u,c]) Q E s:=by
 cases ty with
 |non=>cases (show u=Value.none from rx);exact PySem.W.kia_one PySem.W.kitx_none I.kIn True.intro e (λz=>nomatch z) h
 |bl y=>cases (show u=Value.bool y from rx);exact PySem.W.kia_one PySem.W.kitx_bool I.kIn True.intro e (λz=>nomatch z) h
 |int i=>obtain⟨t,q⟩:=(show ∃t,u=Value.int i t from rx);cases q;exact PySem.W.kia_one PySem.W.kitx_int I.kIn True.intro e (λz=>nomatch z) h
 |str y=>obtain⟨t,q⟩:=(show ∃t,u=Value.str y t from rx);cases q;exact PySem.W.kia_one PySem.W.kitx_str I.kIn True.intro e (λz=>nomatch z) h
 |flt y=>obtain⟨t,q⟩:=(show ∃t,u=Value.float y t from rx);cases q;exact PySem.W.kia_one PySem.W.kitx_float I.kIn True.intro e (λz=>nomatch z) h
 |@lst a xs ea=>cases (show u=Value.ref a from rx);obtain⟨_,_,n,_,h1⟩:=(show ObjOk X.prog X.w H s.heap a (.lst xs) from I.hok a _ ea);exact PySem.W.kia_one PySem.W.kitx_list I.kIn ⟨_,h1,rfl⟩ e (λz=>nomatch z) h
 |@frz a ob xs ea=>cases (show u=Value.ref a from rx);obtain⟨_,_,_,n,_,h1⟩:=(show ObjOk X.prog X.w H s.heap a (.frz ob (.lst xs)) from I.hok a _ ea);exact PySem.W.kia_one PySem.W.kitx_list I.kIn ⟨_,h1,rfl⟩ e (λz=>nomatch z) h
 |@tup a xs ea=>cases (show u=Value.ref a from rx);obtain⟨_,_,_,p⟩:=(show ObjOk X.prog X.w H s.heap a (.tup xs) from I.hok a _ ea);obtain⟨o,h1,h2,_⟩:=p;exact PySem.W.kia_one PySem.W.kitx_tuple I.kIn ⟨o,h1,h2⟩ e (λz=>nomatch z) h
 |@dK a kvs ea=>cases (show u=Value.ref a from rx);obtain⟨_,_,vs,_,p⟩:=(show ObjOk X.prog X.w H s.heap a (.dK kvs) from I.hok a _ ea);obtain⟨o,es,ep,h1,h2,_⟩:=p;exact PySem.W.kia_one PySem.W.kitx_dict I.kIn ⟨o,h1,h2.1⟩ e (λz=>nomatch z) h
 |@dT a kvs ea=>cases (show u=Value.ref a from rx);obtain⟨_,_,xs,_,o,es,ep,h1,h2,_⟩:=(show ObjOk X.prog X.w H s.heap a (.dT kvs) from I.hok a _ ea);exact PySem.W.kia_one PySem.W.kitx_dict I.kIn ⟨o,h1,h2.1⟩ e (λz=>nomatch z) h
 |@ins a C dx fs ea cl ha hn htk hm=>cases (show u=Value.ref a from rx);obtain⟨mA,O,_⟩:=du I.hok ea;obtain⟨od,J,_⟩:=O.look;exact PySem.W.kia_one (PySem.W.kitx_own (cl.get _) cl.hd ha hn htk hm) I.kIn J e (λz=>nomatch z) h
end
structure Room (k:Nat)(A:Around):Prop where
 hd:A.handled=none
 dp:A.depth+3 * k+5 < recursionLimit
 un:A.units+16 * k+200 < cLine
theorem Room.mono {j k:Nat}{A:Around}(r:Room k A)(h:j<=k):Room j A:=⟨r.hd,by have:=r.dp;lia,by have:=r.un;lia⟩
theorem Room.deeper {k:Nat}{A:Around}(r:Room (k+1) A)(env:Env):Room k (A.deeper env):=
 ⟨r.hd,by have:=r.dp;show A.depth+1+3 * k+5 < _;lia,by have:=r.un;show A.units+3+16 * k+200 < _;lia⟩
theorem vd {A:Around}{C:Addr}{us:List Value}{kw:List (Str×Value)}:(A.under (.builtin "type.__call__" ⟨.ref C::us,kw⟩)).depth=A.depth+1:=by first|rfl|simp[Around.under,Code.weight,Code.isCreation,Code.isGuard,Code.isCaller,Code.frames,Code.isFrame,guardIds]
theorem ve {A:Around}{C:Addr}{us:List Value}{kw:List (Str×Value)}:(A.under (.builtin "type.__call__" ⟨.ref C::us,kw⟩)).units=A.units+1:=by first|rfl|simp[Around.under,Code.cUnits,Code.frames,Code.isFrame]
theorem Room.make {k:Nat}{A:Around}(r:Room (k+1) A)(C:Addr)(us:List Value)(kw:List (Str×Value)):Room k (A.under (.builtin "type.__call__" ⟨.ref C::us,kw⟩)):=
 ⟨r.hd,by have:=r.dp;rw[vd];lia,by have:=r.un;rw[ve];lia⟩
theorem Room.depth {k:Nat}{A:Around}(r:Room k A):A.depth < recursionLimit:=by have:=r.dp;lia
theorem Room.units {k:Nat}{A:Around}(r:Room k A):A.units+64 < cLine:=by have:=r.un;lia
def tNil:TA:=λ_ H Q=>Q [] H
def tCons (ta:TE)(tr:TA):TA:=λZ H Q=>ta Z H λx H1=>tr Z H1 λxs H2=>Q (x::xs) H2
section
variable {X:Cx}{e:Expr}{es:List Expr}{te:TE}{t:TA}{pos:Pos}
theorem aA:PA X [] tNil:=λ_ _ _ _ H Q I h=>Calls.spliced_nil ⟨[],H,I,.nil,h⟩
theorem a6 (ha:PE X e te)(hr:PA X es t)(hs:starEach (e::es) X.env=(false,eval e X.env)::starEach es X.env:=by rfl):PA X (e::es) (tCons te t):=by intro mt dl s Z H Q I h;rw[hs];show wpAny _ _ (spliced ((false,eval e X.env)::backTo mt (starEach es X.env))) _ _ s;refine Calls.spliced_cons (thn (ha dl s Z H _ I h) λu s1 W'=>?_);obtain⟨x,H1,I1,r1,q1⟩:=W';exact thn (hr mt dl s1 Z H1 _ I1 q1) λus s2 ⟨xs,H2,I2,r2,q2⟩=>⟨x::xs,H2,I2,.cons r1 r2,q2⟩
def tLst (t:TA):TE:=λZ H Q=>t Z H λxs H1=>`x<=sizeLine/\∀p,H1 p=none->Q (.ref p) (upd H1 p (.lst xs))
theorem vf (h:PA X es t):PE X (.List es pos) (tLst t):=by intro dl s Z H Q I hq;refine wpAny_List_spliced (thn (h pos dl s Z H _ I hq) λus s1 ⟨xs,H1,I1,r,z,q⟩=>⟨by rw[<- r.length];exact z,?_⟩);have hf:H1 `y=none:=I1.hok.fresh `n;refine⟨.ref `y,upd H1 `y (.lst xs),I1.laid (t':=s1.toks) (λb u e=>Heap.get?_push_of_some _ e) `n ?_,rfl,q _ hf⟩;exact⟨z,us,0,r,Heap.get?_push_size _ rfl⟩
end
noncomputable abbrev Sp:=`V->Hp->VK->XK->Prop
noncomputable abbrev CXT:=List Env->Hp->Shared->XK->Value->Shared->Prop
structure Env0 (P:Program)(w:World)(K:`F)(mg:Str->Option Value)(base:Heap)(A:Around)(outer:List Env)(s:Shared)(H:Hp):Prop where
 frames:A.frames=some outer
 mod:Mod K mg base
 bs:∀b o,base.get? b=some o->s.heap.get? b=some o/\H b=none
 bsz:base.objs.size<=`z
 funs:s.heap.FunFrames base outer
 frf:∀b∈frs outer,H b=none
 hok:HOk P w H s.heap
 bare:AllBare s.gens
def CE (outer:List Env)(P:Program)(w:World)(H:Hp)(s:Shared)(Q:VK)(u:Value)(s':Shared):Prop:=
 ∃v H',s'.os=s.os/\AllBare s'.gens/\Un (frs outer) [] H H' s.heap s'.heap/\HOk P w H' s'.heap/\RelV v u/\Q v H'
def CR (CX:CXT)(outer:List Env)(P:Program)(w:World)(H:Hp)(s:Shared)(Q:VK)(E:XK)(r:Result)(s':Shared):Prop:=
 match r with
 |.ok (.ret u)=>CE outer P w H s Q u s'
 |.ok _=>False
 |.error e=>CX outer H s E e s'
structure FnOk (P:Program)(w:World)(K:`F)(mg:Str->Option Value)(base:Heap)(CX:CXT)(k:Nat)(f:Addr)(fd:FuncData)(ps:List Str)(sp:Sp):Prop where
 len:∀vs H Q E,sp vs H Q E->vs.length=ps.length
 run:∀(A:Around) (outer:List Env) (s:Shared) (H:Hp) (args:Args) (us:List Value) (vs:`V) (Q:VK) (E:XK),Room k A->Env0 P w K mg base A outer s H->BindsTo s fd args (ps.zip us)->Vals vs us->sp vs H Q E ->
  codeAny (model P w) A (.call (.ref f) args) (CR CX outer P w H s Q E) s
theorem Env0.make {P:Program}{w:World}{K:`F}{mg:Str->Option Value}{base:Heap}{A:Around}{outer:List Env}{s:Shared}{H:Hp}(e:Env0 P w K mg base A outer s H)(C:Addr)(us:List Value)(kw:List (Str×Value)) :
  Env0 P w K mg base (A.under (.builtin "type.__call__" ⟨.ref C::us,kw⟩)) outer s H:=⟨by first|exact e.frames|(simpa [Around.under,Code.envs,Code.isFrame,pushEnvs] using e.frames),e.mod,e.bs,e.bsz,e.funs,e.frf,e.hok,e.bare⟩
section
variable {X:Cx}{pins:`O}{Z:St}{H:Hp}{s s':Shared}
theorem Inv.env0 (I:Inv X pins Z H s):Env0 X.prog X.w X.K X.mg X.base X.A X.stack s H:=
 ⟨I.ok.frames,I.ok.mod,I.bs,Nat.le_trans I.ok.bsz I.sz,I.stack,I.stkFree,I.hok,I.bare⟩
theorem Inv.after {Q:VK}{u:Value}(I:Inv X pins Z H s)(h:CE X.stack X.prog X.w H s Q u s'):EP X pins Z Q u s':=by obtain⟨v,H',os,bare,un,hok,r,q⟩:=h;obtain⟨hh,g,d,t,os'⟩:=s';obtain rfl:os'=s.os:=os;exact⟨v,H',I.call (h':=hh) (g':=g) (d':=d) (t':=t) (ch:=[]) un hok bare (λb z=>absurd z `s),r,q⟩
end
def tCall (sp:Sp)(dvs:`V)(E:XK)(t:TA):TE:=λZ H Q=>t Z H λvs H1=>sp (vs++dvs) H1 Q E
inductive MeE (C:Addr)(m:Str)(x:V)(H:Hp)(R:Prop):Prop
 |mk (a dx:Addr) (fs:List (Str×V)) (h:x=.ref a) (o:H a=some (.ins C dx fs)) (l:fs.lookup m=none) (q:R):MeE C m x H R
def tMeth (C:Addr)(m:Str)(sp:Sp)(dvs:`V)(E:XK)(ta:TE)(t:TA):TE:=λZ H Q=>ta Z H λx H1=>MeE C m x H1 (t Z H1 λvs H2=>sp (x::(vs++dvs)) H2 Q E)
def tMake (C:Addr)(sp:Sp)(dvs:`V)(E:XK)(t:TA):TE:=λZ H Q=>t Z H λvs H1=>∀x dx,H1 x=none->H1 dx=none->dx≠x ->
 sp (.ref x::(vs++dvs)) (upd (upd H1 dx (.own x)) x (.ins C dx [])) (λv H2=>v=.non/\Q (.ref x) H2) E
def Binds (K:`F)(fd:FuncData)(ps:List Str)(ds:List Value):Prop:=
 ∀(s:Shared) (us:List Value),K.In s.heap->(us++ds).length=ps.length->BindsTo s fd ⟨us,[]⟩ (ps.zip (us++ds))
theorem Binds.all {K:`F}{fd:FuncData}{ps:List Str}(h:∀us:List Value,us.length=ps.length->bindArgs fd ⟨us,[]⟩=pure (ps.zip us)):Binds K fd ps []:=λs us _ hl=>by rw[append_nil] at hl ⊢;exact .of_eq (h us hl)
def Passes (CX:CXT)(X:Cx)(E:XK):Prop:=∀(pins:`O) (Z:St) (H:Hp) (s:Shared) (e:Value) (s':Shared),Inv X pins Z H s->CX X.stack H s E e s'->X.xe e s'
section
variable {X:Cx}{CX:CXT}{k:Nat}{f C:Addr}{fd:FuncData}{ps:List Str}{sp:Sp}{dvs:`V}{ds:List Value}{E:XK}{x m:Str}{p pos apos:Pos}{e o:Expr}{es:List Expr}{ta:TE}{t:TA}
theorem gq {pins:`O}{Z:St}{H:Hp}{s:Shared}{Q:VK}{us:List Value}{vs:`V}(F:FnOk X.prog X.w X.K X.mg X.base CX k f fd ps sp)(hr:Room k X.A)(hb:Binds X.K fd ps ds)(hd:Vals dvs ds)(hx:Passes CX X E)
  (I:Inv X pins Z H s) (r:Vals vs us) (h:sp (vs++dvs) H Q E):wpAny `m X.A (call (.ref f) us) (EP X pins Z Q) X.xe s:=by
 have r2:Vals (vs++dvs) (us++ds):=r.append hd;have hl:(us++ds).length=ps.length:=by rw[<- r2.length];exact F.len _ _ _ _ h
 refine wpAny_call (codeAny_mono (F.run X.A X.stack s H ⟨us,[]⟩ (us++ds) (vs++dvs) Q E hr I.env0 (hb s us I.kIn hl) r2 h) λr s' hq=>?_);cases r with
 |error e=>exact hx pins Z H s e s' I hq
 |ok fl=>
  cases fl with
  |ret u=>exact I.after hq
  |next=>exact False.elim hq
  |brk=>exact False.elim hq
  |cont=>exact False.elim hq
theorem bY (F:FnOk X.prog X.w X.K X.mg X.base CX k f fd ps sp)(hr:Room k X.A)(hg:Gl X x)(hm:X.mg x=some (.ref f))(hk:PySem.W.keepIn X.K (.ref f)=true)(hb:Binds X.K fd ps ds)(hd:Vals dvs ds)(hx:Passes CX X E)
  (ha:PA X (e::es) t) (hdb:(x == ("__debug__" : Str))=false:=by decide) (he:starEach (e::es) X.env=(false,eval e X.env)::starEach es X.env:=by rfl) (hpl:(backTo pos (starEach es X.env)).any (·.1)=false:=by rfl) :
  PE X (.Call (.Name x p) (e::es) [] pos) (tCall sp dvs E t):=by
 intro pins s Z H Q I h;refine wpAny_Call_Name_kw (gf I hg hm ?_ hdb);refine PySem.W.callWith_K (h₀:=X.base) I.ok.mod.kin hk (thn (ha pos pins s Z H _ I h) λus s1 ⟨vs,H1,I1,r,q⟩=>⟨I1.kIn,?_⟩) he hpl;exact gq F hr hb hd hx I1 r q
theorem aT {pl:Sem Bool}(he:PE X o ta)(c:Cls X.K C)(hm:Meth X.K C m f)(F:FnOk X.prog X.w X.K X.mg X.base CX k f fd ps sp)(hr:Room k X.A)(hb:Binds X.K fd ps ds)(hd:Vals dvs ds)(hx:Passes CX X E)(ha:PA X (e::es) t)
  (hst:starEach (e::es) X.env=(false,eval e X.env)::starEach es X.env:=by rfl) (hpl:(backTo pos (starEach es X.env)).any (·.1)=false:=by rfl)
  (ht:eval (.Call (.Attribute o m apos) (e::es) [] pos) X.env=(do
   let ov <- eval o X.env
   standAt apos.atName
   let (f,first) <- holding [ov] (getMethod ov m pl)
   callWith pos f first (backTo pos (starEach (e::es) X.env)) (backToKw pos (keywordEach [] X.env))):=by rfl) :
  PE X (.Call (.Attribute o m apos) (e::es) [] pos) (tMeth C m sp dvs E ta t):=by
 intro dl s Z H Q I h;refine PySem.W.methodCall_KW (pl:=pl) (thn (he dl s Z H _ I h) λu s1 W'=>?_) ht;obtain⟨x,H1,I1,rx,a,dx,fs,ex,ea,l,q⟩:=W';subst ex;obtain rfl:u=Value.ref a:=rx;refine gl I1 ea c hm l ?_;refine PySem.W.callWith_K (first:=[.ref a]) (h₀:=X.base) I.ok.mod.kin hm.kp (thn (ha pos dl s1 Z H1 _ I1 q) λus s2 ⟨vs,H2,I2,r,q2⟩=>⟨I2.kIn,?_⟩) hst hpl;exact gq (us:=.ref a::us) (vs:=.ref a::vs) F hr hb hd hx I2 (.cons rfl r) q2
theorem ca {pl:Sem Bool}(he:PE X o ta)(c:Cls X.K C)(hm:Meth X.K C m f)(F:FnOk X.prog X.w X.K X.mg X.base CX k f fd ps sp)(hr:Room k X.A)(hb:Binds X.K fd ps ds)(hd:Vals dvs ds)(hx:Passes CX X E)
  (ht:eval (.Call (.Attribute o m apos) [] [] pos) X.env=(do
   let ov <- eval o X.env
   standAt apos.atName
   let (f,first) <- holding [ov] (getMethod ov m pl)
   callWith pos f first (backTo pos (starEach [] X.env)) (backToKw pos (keywordEach [] X.env))):=by rfl) :
  PE X (.Call (.Attribute o m apos) [] [] pos) (tMeth C m sp dvs E ta tNil):=by
 intro dl s Z H Q I h;refine PySem.W.methodCall_KW (pl:=pl) (thn (he dl s Z H _ I h) λu s1 W'=>?_) ht;obtain⟨x,H1,I1,rx,a,dx,fs,ex,ea,l,q⟩:=W';subst ex;obtain rfl:u=Value.ref a:=rx;refine gl I1 ea c hm l ?_;exact PySem.W.callWith_K0 (first:=[.ref a]) I1.kIn hm.kp (gq (us:=[.ref a]) (vs:=[.ref a]) F hr hb hd hx I1 (.cons rfl .nil) q)
structure Mk (K:`F)(C f:Addr):Prop where
 makes:PySem.W.makesIn K C=true
 init:PySem.W.findIn K (.ref C) "__init__"=some (some (.ref f))
 fn:PySem.W.isFn K (.ref f)=true
 kp:PySem.W.keepIn K (.ref C)=true
theorem vg {pins:`O}{Z:St}{H:Hp}{s:Shared}{Q:VK}{us:List Value}{vs:`V}(M:Mk X.K C f)(F:FnOk X.prog X.w X.K X.mg X.base CX k f fd ps sp)(hr:Room (k+1) X.A)(hb:Binds X.K fd ps ds)(hd:Vals dvs ds)
  (hx:Passes CX X E) (I:Inv X pins Z H s) (r:Vals vs us)
  (h:∀x dx,H x=none->H dx=none->dx≠x->sp (.ref x::(vs++dvs)) (upd (upd H dx (.own x)) x (.ins C dx [])) (λv H2=>v=.non/\Q (.ref x) H2) E) :
  wpAny `m X.A (call (.ref C) us) (EP X pins Z Q) X.xe s:=by
 have hq:=h (`z+1) `z (I.hok.fresh (Nat.le_succ _)) (I.hok.fresh `n) (Nat.ne_of_lt (Nat.lt_succ_self _));have I2:=Inv.made (C:=C) I;have r2:Vals (V.ref (`z+1)::(vs++dvs)) (Value.ref (`z+1)::(us++ds)):=.cons rfl (r.append hd);have hl:(Value.ref (`z+1)::us++ds).length=ps.length:=by have e:=r2.length;rw[F.len _ _ _ _ hq] at e;exact e.symm
 refine wpAny_call (vV (f:=f) I.kIn M.makes M.init (beq_iff_eq.mp M.fn) (codeAny_mono (F.run _ X.stack _ _ ⟨Value.ref (`z+1)::us,[]⟩ (Value.ref (`z+1)::(us++ds)) _ _ E (hr.make C us [])
  (I2.env0.make C us []) (hb _ (Value.ref (`z+1)::us) I2.kIn hl) r2 hq) λr s' dl=>?_))
 cases r with
 |error e=>exact hx pins Z _ _ e s' I2 dl
 |ok fl=>
  cases fl with
  |ret u=>obtain⟨v,H',I3,rv,ev,q3⟩:=I2.after dl;subst ev;exact⟨rv,⟨V.ref (`z+1),H',I3,rfl,q3⟩⟩
  |next=>exact False.elim dl
  |brk=>exact False.elim dl
  |cont=>exact False.elim dl
theorem gs (M:Mk X.K C f)(F:FnOk X.prog X.w X.K X.mg X.base CX k f fd ps sp)(hr:Room (k+1) X.A)(hg:Gl X x)(hm:X.mg x=some (.ref C))(hb:Binds X.K fd ps ds)(hd:Vals dvs ds)(hx:Passes CX X E)
  (ha:PA X (e::es) t) (hdb:(x == ("__debug__" : Str))=false:=by decide) (he:starEach (e::es) X.env=(false,eval e X.env)::starEach es X.env:=by rfl) (hpl:(backTo pos (starEach es X.env)).any (·.1)=false:=by rfl) :
  PE X (.Call (.Name x p) (e::es) [] pos) (tMake C sp dvs E t):=by
 intro pins s Z H Q I h;refine wpAny_Call_Name_kw (gf I hg hm ?_ hdb);refine PySem.W.callWith_K (h₀:=X.base) I.ok.mod.kin M.kp (thn (ha pos pins s Z H _ I h) λus s1 ⟨vs,H1,I1,r,q⟩=>⟨I1.kIn,?_⟩) he hpl;exact vg M F hr hb hd hx I1 r q
end
section
variable {X:Cx}{CX:CXT}{k:Nat}{f C:Addr}{fd:FuncData}{ps ks:List Str}{sp:Sp}{E:XK}{x m:Str}{p pos apos kpos:Pos}{e o:Expr}{es:List Expr}{kws:List Keyword}{te ta:TE}{t tk:TA}{nm:Option Str}
structure KBinds (K:`F)(fd:FuncData)(ps ks:List Str)(g:List Value->List Value->List Value)(gV:`V->`V->`V):Prop where
 to:∀(s:Shared) (us ws:List Value),K.In s.heap->(g us ws).length=ps.length->BindsTo s fd ⟨us,ks.zip ws⟩ (ps.zip (g us ws))
 rel:∀{vs:`V}{us:List Value}{zs:`V}{ws:List Value},Vals vs us->Vals zs ws->Vals (gV vs zs) (g us ws)
variable {g:List Value->List Value->List Value}{gV:`V->`V->`V}
end
structure FnScope (N P:List Str)(sc:Scope):Prop where
 kind:sc.kind=.function
 co:sc.isCoroutine=false
 gen:sc.isGenerator=false
 nd:N.Nodup
 pre:N.take P.length=P
 par:∀x∈P,sc.names.lookup x=some .local\/sc.names.lookup x=some .cell
 nofree:∀y∈sc.names,y.2≠.free
theorem kQ {kindOf:Str->Option NameKind}{x:Str}:∀{binds:List (Str×Value)}{m:Str->Option Value},(∀v,(x,v)∉binds)->bindL kindOf binds m x=m x
 |[],_,_=>rfl
 | (n,v)::r,m,h=>by
  unfold bindL;rw[kQ λw hw=>h w (mem_cons_of_mem _ hw)];split
  .have:x≠n:=by rintro rfl;exact h v mem_cons_self
   simp[this]
  .rfl
theorem kR {kindOf:Str->Option NameKind}{x:Str}:∀{binds:List (Str×Value)}{m:Str->Option Value},(∀v,(x,v)∉binds)->bindC kindOf binds m x=m x
 |[],_,_=>rfl
 | (n,v)::r,m,h=>by
  unfold bindC;rw[kR λw hw=>h w (mem_cons_of_mem _ hw)];split
  .rfl
  .have:x≠n:=by rintro rfl;exact h v mem_cons_self
   simp[this]
theorem kS {kindOf:Str->Option NameKind}{x:Str}{v:Value}:∀{P:List Str}{vs:List Value}{i:Nat}{m:Str->Option Value},P.Nodup->P[i]?=some x->vs[i]?=some v->kindOf x=some .local ->
  bindL kindOf (P.zip vs) m x=some v
 |[],_,_,_,_,h,_,_=>by simp at h
 |_::_,[],_,_,_,_,h,_=>by simp at h
 |p::P,w::vs,0,m,nd,h1,h2,hk=>by simp at h1 h2;subst h1;subst h2;show bindL kindOf ((p,w)::P.zip vs) m p=_;unfold bindL;rw[kQ λv hv=>(nodup_cons.mp nd).1 (of_mem_zip hv).1,if_pos hk];simp
 |p::P,w::vs,i+1,m,nd,h1,h2,hk=>by show bindL kindOf ((p,w)::P.zip vs) m x=_;unfold bindL;exact kS (i:=i) (nodup_cons.mp nd).2 (by simpa using h1) (by simpa using h2) hk
theorem kT {kindOf:Str->Option NameKind}{x:Str}{v:Value}:∀{P:List Str}{vs:List Value}{i:Nat}{m:Str->Option Value},P.Nodup->P[i]?=some x->vs[i]?=some v->kindOf x≠some .local ->
  bindC kindOf (P.zip vs) m x=some v
 |[],_,_,_,_,h,_,_=>by simp at h
 |_::_,[],_,_,_,_,h,_=>by simp at h
 |p::P,w::vs,0,m,nd,h1,h2,hk=>by simp at h1 h2;subst h1;subst h2;show bindC kindOf ((p,w)::P.zip vs) m p=_;unfold bindC;rw[kR λv hv=>(nodup_cons.mp nd).1 (of_mem_zip hv).1,if_neg hk];simp
 |p::P,w::vs,i+1,m,nd,h1,h2,hk=>by show bindC kindOf ((p,w)::P.zip vs) m x=_;unfold bindC;exact kT (i:=i) (nodup_cons.mp nd).2 (by simpa using h1) (by simpa using h2) hk
noncomputable def start (N:List Str)(vs:`V):St:=vs.map some++List.replicate (N.length - vs.length) none
noncomputable def cxOf (CX:CXT)(P:Program)(w:World)(K:`F)(mg:Str->Option Value)(base:Heap)(N:List Str)(qual:Str)(scope:Scope)(f:Addr)(cd:Value)(A:Around)(outer:List Env)(s:Shared)(H:Hp)(E:XK):Cx where
 prog:=P
 w:=w
 K:=K
 mg:=mg
 base:=base
 A:=A.deeper (envOfC qual scope `z f cd)
 N:=N
 s₀:=s
 H₀:=H
 env:=envOfC qual scope `z f cd
 outer:=outer
 stack:=envOfC qual scope `z f cd::outer
 ex:=[]
 calm:=true
 fn:=λ_=>true
 pn:=[]
 xe:=λe s'=>wpAny (model P w) (A.deeper (envOfC qual scope `z f cd)) (leaving (envOfC qual scope `z f cd) e) (λ_ s''=>CX outer H s E e s'') (λe' s''=>CX outer H s E e' s'') s'
theorem kU {sc:Scope}{n:Nat}{x:Str}(h:sc.names.lookup x=some .cell):∃c,(cellsFrom n sc.names []).lookup x=some c:=by have q:=PySem.W.cellsFrom_some sc.names n [] (.inl h);exact Option.isSome_iff_exists.mp q
theorem vh {CX:CXT}{P:Program}{w:World}{K:`F}{mg:Str->Option Value}{base:Heap}{N ps:List Str}{qual:Str}{scope:Scope}{f:Addr}{cd:Value}{A:Around}{outer:List Env}{s s1:Shared}{H:Hp}{E:XK}{us:List Value}{vs:`V}
  (S:FnScope N ps scope) (hd:A.handled=none) (e0:Env0 P w K mg base A outer s H) (hl:vs.length=ps.length) (r:Vals vs us)
  (x:InCallC s `z (bindL (envOfC qual scope `z f cd).kindOf (ps.zip us) λ_=>none) (cellsFrom (`z+1) scope.names []) (bindC (envOfC qual scope `z f cd).kindOf (ps.zip us) λ_=>none) s1) :
  Inv (cxOf CX P w K mg base N qual scope f cd A outer s H E) [] (start N vs) H s1:=by
 have BT:ps.length<=N.length:=by have:=congrArg List.length S.pre;rw[length_take] at this;lia
 obtain⟨h1,tk,rfl,hk⟩:=x.done;have dl:∀b:Addr,b∉(cxOf CX P w K mg base N qual scope f cd A outer s H E).ex:=λb z=>absurd (show b∈([]:List Addr) from z) `s;refine⟨⟨e0.mod,S.kind,rfl,rfl,Nat.le_refl _,λy z c h1 h2=>?_,λy hy=>?_,λy c _ h=>?_,λ_=>hd,Around.frames_deeper e0.frames,.inr `R,λb z=>absurd z (dl b),e0.bs,e0.bsz,λb _ _=>dl b,λb z=>absurd z (dl b),e0.funs,e0.frf⟩,
  rfl,e0.bare,Un.kept hk,⟨_,x.toInCall.ns,λi y v h1 h2 h3=>?_⟩,λy c h=>⟨_,x.cell y c h⟩,e0.hok.fresh `n,λy c h=>?_,λp hp=>absurd (show p∈([]:`O) from hp) `s,e0.hok.kept hk,?_⟩
 .exact name_of_addr x.apart (PySem.mem_of_lookup h1) (PySem.mem_of_lookup h2)
 .have hy:scope.names.lookup y=some .cell\/scope.names.lookup y=some .free:=hy;rcases hy with hy|hy
  .exact kU hy
  .exact absurd rfl (S.nofree _ (PySem.mem_of_lookup hy))
 .exact Nat.le_of_lt (x.above y c (PySem.mem_of_lookup h))
 .have hi:i < vs.length:=by
   unfold start at h2;by_cases hi:i < vs.length
   .exact hi
   .rw[List.getElem?_append_right (by simpa using hi)] at h2;rw[List.getElem?_replicate] at h2;split at h2 <;> cases h2
  have ha:vs[i]?=some v:=by
   unfold start at h2;rw[List.getElem?_append_left (by simpa using hi),List.getElem?_map] at h2;cases e:vs[i]? with
   |none=>rw[e] at h2;cases h2
   |some a=>rw[e] at h2;cases h2;rfl
  obtain⟨u,hu,rv⟩:=r.get ha;have hp:ps[i]?=some y:=by rw[<- S.pre,List.getElem?_take_of_lt `l];exact h1
  have mt:ps.Nodup:=by rw[<- S.pre];exact S.nd.sublist (take_sublist _ _)
  refine⟨u,rv,?_⟩;rcases S.par y (mem_of_getElem? hp) with k|k
  .exact .inl ⟨k,kS mt hp hu k⟩
  .obtain⟨c,e⟩:=kU (n:=`z+1) k;refine .inr ⟨.inl k,c,e,?_⟩;have q:=x.cell y c e;rw[kT mt hp hu (by show scope.names.lookup y≠_;rw[k];decide)] at q;exact q
 .exact e0.hok.fresh (Nat.le_of_lt (x.above y c (PySem.mem_of_lookup h)))
 .unfold start;show _=N.length;rw[length_append,length_map,length_replicate];lia
theorem kW {CX:CXT}{P:Program}{w:World}{K:`F}{mg:Str->Option Value}{base:Heap}{k:Nat}{f:Addr}{name qual:Str}{params:Arguments}{body:List Stmt}{scope:Scope}{dV kV doc pm cdv ct oc:Value}{an od:Option Addr}
  {osl:Array (Option Value)}{N ps:List Str}{sp:Sp} (lk:K.lookup f=some ⟨oc,od,.func (PySem.W.fnOf name qual params body scope dV kV doc pm an cdv ct),osl⟩) (hcd:PySem.W.codeIn K cdv qual=true) (S:FnScope N ps scope)
  (len:∀vs H Q E,sp vs H Q E->vs.length=ps.length)
  (hbody:∀(A:Around) (outer:List Env) (s:Shared) (H:Hp) (vs:`V) (Q:VK) (E:XK),Room k (A.deeper (envOfC qual scope `z f cdv))->sp vs H Q E ->
   ∃t,PSs (cxOf CX P w K mg base N qual scope f cdv A outer s H E) body t/\t {nx:=λ_ H'=>Q .non H',rt:=Q} (start N vs) H) :
  FnOk P w K mg base CX (k+1) f (PySem.W.fnOf name qual params body scope dV kV doc pm an cdv ct) ps sp:=by
 refine⟨len,λA outer s H Fn us vs Q E hr e0 hb r mt=>?_⟩;have hl:=len _ _ _ _ mt;have KX:K.In s.heap:=e0.mod.kin.keeps λb o e=>(e0.bs b o e).1;have Cl:s.heap.NoLimit:=e0.mod.nolimit.keeps λb o e=>(e0.bs b o e).1;have dl:∀y∈ps.zip us,scope.names.lookup y.1=some .local\/(scope.names.lookup y.1=some .cell/\((cellsFrom (`z+1) scope.names []).lookup y.1).isSome=true):=λ⟨n,v⟩ hy=>by
  rcases S.par n (of_mem_zip hy).1 with q|q
  .exact .inl q
  .exact .inr ⟨q,PySem.W.cellsFrom_some _ _ _ (.inl q)⟩
 refine codeAny_call_function hr.depth (KX _ _ lk) rfl S.co S.gen rfl (PySem.W.codeRec_of KX hcd) (hb _ _ _ _ ?_);refine wpAny_newFunctionEnv_cells S.kind dl λFr he s1 x=>?_;subst he;refine⟨Cl.keeps x.toInCall.keep,codeAny_func ?_⟩;obtain⟨t,ht,hq⟩:=hbody A outer s H vs Q E (hr.deeper _) mt;have I:Inv (cxOf CX P w K mg base N qual scope f cdv A outer s H E) [] (start N vs) H s1:=vh S hr.hd e0 hl r x;refine wpAny_mono (ht [] s1 (start N vs) H _ I hq) (λfl s' hs=>?_) λe s' hs=>hs;have BT:∀{Z':St}{H':Hp}{v:V}{u:Value},Inv (cxOf CX P w K mg base N qual scope f cdv A outer s H E) [] Z' H' s'->RelV v u->Q v H'->CE outer P w H s Q u s':=
  λ{Z' H' v u} J rv q=>⟨v,H',J.os,J.bare,J.base,J.hok,rv,q⟩
 cases fl with
 |ret u=>obtain⟨v,Z',H',J,rv,q⟩:=hs;exact BT J rv q
 |next=>obtain⟨Z',H',J,q⟩:=hs;exact BT (v:=V.non) (u:=Value.none) J rfl q
 |brk=>obtain⟨_,_,_,q⟩:=hs;exact False.elim q
 |cont=>obtain⟨_,_,_,q⟩:=hs;exact False.elim q
section
variable {X:Cx}{x:Str}{p pos:Pos}{e:Expr}{es:List Expr}{t:TA}{id T:String}{r:`V->Hp->VK->Prop}
def tCB (r:`V->Hp->VK->Prop)(t:TA):TE:=λZ H Q=>t Z H λvs H1=>r vs H1 Q
theorem bq (hc:CallR X (.builtin id) r)(hg:Gl X x)(hm:X.mg x=none)(hv:bootBuiltins x=some (.builtin id))(ha:PA X (e::es) t)(hn:x ≠ "__name__" := by decide)(hdb:(x == ("__debug__" : Str))=false:=by decide)
  (he:starEach (e::es) X.env=(false,eval e X.env)::starEach es X.env:=by rfl) (hpl:(backTo pos (starEach es X.env)).any (·.1)=false:=by rfl):PE X (.Call (.Name x p) (e::es) [] pos) (tCB r t):=by
 intro pins s Z H Q I h;refine wpAny_Call_Name_kw (bL I hg hm hv ?_ hn hdb);exact PyProof.Rows.callWith_builtin1 (thn (ha pos pins s Z H _ I h) λus s1 ⟨vs,H1,I1,r1,q1⟩=>hc pins s1 Z H1 vs us Q I1 r1 q1) he hpl
theorem cb (hc:CallR X (.type T) r)(hg:Gl X x)(hm:X.mg x=none)(hv:bootBuiltins x=some (.type T))(ha:PA X (e::es) t)(hn:x ≠ "__name__" := by decide)(hdb:(x == ("__debug__" : Str))=false:=by decide)
  (he:starEach (e::es) X.env=(false,eval e X.env)::starEach es X.env:=by rfl) (hpl:(backTo pos (starEach es X.env)).any (·.1)=false:=by rfl):PE X (.Call (.Name x p) (e::es) [] pos) (tCB r t):=by
 intro pins s Z H Q I h;refine wpAny_Call_Name_kw (bL I hg hm hv ?_ hn hdb);exact PyProof.Rows.callWith_type1 (thn (ha pos pins s Z H _ I h) λus s1 ⟨vs,H1,I1,r1,q1⟩=>hc pins s1 Z H1 vs us Q I1 r1 q1) he hpl
end
end L2
namespace HT
open PySem PyProof.Rows
noncomputable def lexLt:List Int->List Int->Bool
 |[],[]=>false
 |[],_::_=>true
 |_::_,[]=>false
 |x::xs,y::ys=>if x=y then lexLt xs ys else decide (x < y)
theorem vi (x y:Int)(xs ys:List Int):lexLt (x::xs) (y::ys)=if x=y then lexLt xs ys else decide (x < y):=rfl
theorem vj:lexLt [] []=false:=rfl
theorem vk (y:Int)(ys:List Int):lexLt [] (y::ys)=true:=rfl
theorem vm (x:Int)(xs:List Int):lexLt (x::xs) []=false:=rfl
theorem vn (A:Around)(s:Shared)(a:Int)(t:Tok)(c:Int)(u:Tok):∃e,SeqAt.EqAt A s (.int a t) (.int c u) e/\(e=true↔a=c):=
 ⟨(a == c),SeqAt.EqAt.int_int a t c u,`s⟩
section
open PySem.SeqAt
open PySem.AutoSeq1 (wpAny_loadPart')
open PySem.MeetsSeq PySem.MeetsSeq2 PySem.MeetsSeq3
end
section
variable {prog:Program}{w:World}{A:Around}{E:`T}{s:Shared}
theorem cat_tup {t b:Addr}{vs ws:List Value}{Q:`T}(ht:IsTup s.heap t vs.toArray)(hb:IsTup s.heap b ws.toArray)(hv:vs≠[])
  (h1:ws=[]->Q (.ref t) s) (h2:ws≠[]->Q (.ref `z) {s with heap:=s.heap.push {cls:=.type "tuple",data:=.seq (vs++ws).toArray} })
  (hsz:vs.length+ws.length<=sizeLine):wpAny `M A (binaryOp .Add (.ref t) (.ref b)) Q E s:=by
 obtain⟨⟨cls,dd,data,sl⟩,ho,hc,n,hd⟩:=id ht;obtain⟨⟨Ga,Fn,Fr,mt⟩,dl,Cl,n2,BT⟩:=id hb;simp only at hc hd Cl BT;subst hc hd Cl BT;have e:vs.toArray++ws.toArray=(vs++ws).toArray:=by simp
 by_cases hw:ws=[]
 .exact concat_meets ⟨_,ho,rfl⟩ ⟨_,dl,rfl⟩ noFill_tuple_add seq_tuple_add PySem.F.slot_tuple_add PySem.F.entry_tuple_add (PySem.F.args_tuple_add_2 _ _)
   (tuple_addW1 t b vs.toArray ws.toArray n n2 dd Fn sl mt (by simpa using hv) (by simp[hw])) ⟨ho,dl,h1 hw⟩
 .refine concat_meets ⟨_,ho,rfl⟩ ⟨_,dl,rfl⟩ noFill_tuple_add seq_tuple_add PySem.F.slot_tuple_add PySem.F.entry_tuple_add (PySem.F.args_tuple_add_2 _ _)
   (tuple_addW2 t b vs.toArray ws.toArray n n2 dd Fn sl mt (by simpa using hv) (by simpa using hw) (by rw[size_toArray,size_toArray];exact hsz)) ⟨ho,dl,?_⟩
  rw[e];exact h2 hw
noncomputable def sIx (n d:Nat):Option Int->Nat
 |none=>d
 |some v=>if v < 0 then (v+(n:Int)).toNat else min v.toNat n
theorem sIx_none (n d:Nat):sIx n d none=d:=rfl
theorem sIx_nat (n d k:Nat):sIx n d (some (k:Int))=min k n:=by show (if (k:Int) < 0 then ((k:Int)+(n:Int)).toNat else min (k:Int).toNat n)=min k n;rw[if_neg `l,Int.toNat_natCast]
theorem vo (n d:Nat)(hd:d<=n)(o:Option Int):sIx n d o<=n:=by
 cases o with
 |none=>exact hd
 |some v=>
  show (if v < 0 then (v+(n:Int)).toNat else min v.toNat n)<=n;by_cases hv:v < 0
  .rw[if_pos hv];lia
  .rw[if_neg hv];exact Nat.min_le_right _ _
theorem kX (v:Int)(n d:Nat):(if v < 0 then max (v+(n:Int)) 0 else min v (n:Int))=((sIx n d (some v):Nat):Int):=by
 show (if v < 0 then max (v+(n:Int)) 0 else min v (n:Int))=(((if v < 0 then (v+(n:Int)).toNat else min v.toNat n):Nat):Int);by_cases hv:v < 0
 .simp only[if_pos hv];lia
 .simp only[if_neg hv];lia
theorem vp (lo hi:Option Int)(n:Nat):Builtin.Slice.sliceAdjust lo hi 1 (n:Int)=(((sIx n 0 lo:Nat):Int),((sIx n n hi:Nat):Int)):=by
 have h1:¬ ((1:Int) < 0):=by lia
 unfold Builtin.Slice.sliceAdjust;simp only[h1,if_false];refine Prod.ext ?_ ?_
 .cases lo with
  |none=>rfl
  |some v=>exact kX v n 0
 .cases hi with
  |none=>rfl
  |some v=>exact kX v n n
theorem vq (i j:Nat):Builtin.Slice.slicePlaces (i:Int) (j:Int) 1=j - i:=by
 unfold Builtin.Slice.slicePlaces;have h1:(1:Int) > 0:=by lia
 simp only[h1,if_true,Int.ediv_one];split <;> lia
theorem kY {v:Value}{o:Option Int}{Q:Option Int->Shared->Prop}(p:IsPart v o)(h:Q o s):wpAny `M A (Builtin.Slice.slicePartIndex v) Q E s:=by
 cases p with
 |none=>exact slicePart_none h
 |int i t=>exact slicePart_int h
theorem kZ {sl:Addr}{vl vu:Value}{lo hi:Option Int}{n:Nat}{Q:Int×Int×Nat->Shared->Prop}(hs:s.heap.IsSliceOf sl vl vu .none)(pl:IsPart vl lo)(pu:IsPart vu hi)
  (h:Q (((sIx n 0 lo:Nat):Int),1,sIx n n hi - sIx n 0 lo) s):wpAny `M A (Builtin.Slice.sliceApplied (.ref sl) (pure (n:Int))) Q E s:=by
 obtain⟨os,dl,BT,mt⟩:=id hs;unfold Builtin.Slice.sliceApplied Builtin.Slice.sliceFields;refine wpAny_bind (wpAny_bind (wpAny_field dl mt (x:=vl) rfl (wpAny_bind (wpAny_field dl mt (x:=vu) rfl (wpAny_bind (wpAny_field dl mt (x:=.none) rfl (wpAny_pure ?_)))))));refine wpAny_bind (slicePart_none ?_);show wpAny _ _ (if ((1:Int) == 0)=true then _ else _) _ _ s;rw[if_neg `d];refine wpAny_bind (kY pl (wpAny_bind (kY pu (wpAny_bind (wpAny_pure ?_)))));show wpAny _ _ (match Builtin.Slice.sliceAdjust lo hi 1 (n:Int) with|(lo,hi)=>pure (lo,(1:Int),Builtin.Slice.slicePlaces lo hi 1)) _ _ s;rw[vp lo hi n];show wpAny _ _ (pure (((sIx n 0 lo:Nat):Int),(1:Int),Builtin.Slice.slicePlaces ((sIx n 0 lo:Nat):Int) ((sIx n n hi:Nat):Int) 1)) _ _ s;rw[vq];exact wpAny_pure h
theorem vt (xs:Array Value)(i k:Nat):((List.range k).filterMap λ(m:Nat)=>xs[((i:Int)+(m:Int) * 1).toNat]?).toArray=((xs.toList.drop i).take k).toArray:=by
 have e:(λ(m:Nat)=>xs[((i:Int)+(m:Int) * 1).toNat]?)=λm=>xs[i+m]?:=by
  funext m
  have:((i:Int)+(m:Int) * 1).toNat=i+m:=by lia
  rw[this]
 rw[e];have:=pick_run xs i k;rw[List.filterMap_map] at this;have e2:((λx=>xs[x]?) ∘ λx=>i+x)=λm=>xs[i+m]?:=rfl;rw[e2] at this;rw[this]
theorem getItem_tuple_cut {t sl:Addr}{items:Array Value}{vl vu:Value}{lo hi:Option Int}{Q:`T}(ht:IsTup s.heap t items)(hs:s.heap.IsSliceOf sl vl vu .none)(pl:IsPart vl lo)(pu:IsPart vu hi)
  (hw:¬ (sIx items.size 0 lo=0/\sIx items.size items.size hi=items.size))
  (h:Q (.ref `z) {s with heap:=s.heap.push {cls:=.type "tuple",data:=.seq ((items.toList.drop (sIx items.size 0 lo)).take (sIx items.size items.size hi - sIx items.size 0 lo)).toArray} })
  (hsz:items.size<=sizeLine):wpAny `M A (getItem (.ref t) (.ref sl)) Q E s:=by
 have dl:sizeOk (.seq ((items.toList.drop (sIx items.size 0 lo)).take (sIx items.size items.size hi - sIx items.size 0 lo)).toArray):=by show ((items.toList.drop (sIx items.size 0 lo)).take (sIx items.size items.size hi - sIx items.size 0 lo)).toArray.size<=sizeLine;rw[size_toArray,length_take,length_drop,Array.length_toList];lia
 have hj:sIx items.size items.size hi<=items.size:=vo _ _ `n hi;obtain⟨os,mt,Cl,Fr⟩:=id hs;have Fn:s.TypeIs (.ref sl) "slice" := ⟨os,mt,Cl⟩;unfold getItem;try with_reducible refine wpAny_holding ?_
 first|refine wpAny_bind (wpAny_pure ?_)|skip
 refine wpAny_bind (wpAny_sequenceKey ht.typeIs `d ?_);refine wpAny_bind (wpAny_callSpecial?_slot (name:=ofString "__getitem__") ht.typeIs PyProof.Rows.slot_tuple_getitem
  (wpAny_call_entry PyProof.Rows.slot_tuple_getitem ht.typeIs entry_tuple_getitem ?_ (args_tuple_getitem _ _)))
 show wpAny _ _ (Builtin.Tuple.tupleItemsOf (.ref t) >>= _) _ _ s;refine wpAny_bind (tupleItemsOf_ ht ?_);refine wpAny_bind (wpAny_typeOf Fn ?_);rw[if_pos `d];refine wpAny_bind (kZ hs pl pu ?_);have BT:¬ ((((sIx items.size 0 lo:Nat):Int) == 0 && (1:Int) == 1 && (sIx items.size items.size hi - sIx items.size 0 lo) == items.size)=true):=by intro q;rw[Bool.and_eq_true,Bool.and_eq_true] at q;have q1:((sIx items.size 0 lo:Nat):Int)=0:=eq_of_beq q.1.1;have q2:sIx items.size items.size hi - sIx items.size 0 lo=items.size:=eq_of_beq q.2;exact hw ⟨`l,`l⟩
 show wpAny _ _ (if (((sIx items.size 0 lo:Nat):Int) == 0 && (1:Int) == 1 && (sIx items.size items.size hi - sIx items.size 0 lo) == items.size)=true then _ else _) _ _ s;rw[if_neg BT,vt];first
  |exact wpAny_bind (m:=Builtin.Tuple.tupleExact _) (wpAny_newObj_type (wpAny_pure ⟨_,rfl,wpAny_pure h⟩) dl)
  |exact wpAny_bind (m:=Builtin.Tuple.tupleExact _) (wpAny_newObj_type (wpAny_bind (wpAny_pure (wpAny_pure ⟨_,rfl,wpAny_pure h⟩))) dl)
  |exact wpAny_bind (wpAny_bind (m:=Builtin.Tuple.tupleExact _) (wpAny_newObj_type (wpAny_pure (wpAny_pure ⟨_,rfl,wpAny_pure h⟩)) dl))
  |exact wpAny_bind (wpAny_bind (m:=Builtin.Tuple.tupleExact _) (wpAny_newObj_type (wpAny_pure ⟨_,rfl,wpAny_pure h⟩) dl))
end
end HT
namespace L2
open PySem PySem.Spec PyProof.Rows
noncomputable abbrev TO:=St->Hp->(Option Int->Hp->Prop)->Prop
def PO (X:Cx)(e:Option Expr)(t:TO):Prop:=
 ∀(pins:`O) (s:Shared) (Z:St) (H:Hp) (Q:Option Int->Hp->Prop),Inv X pins Z H s->t Z H Q ->
  wpAny `m X.A (evalPart e X.env) (λu s'=>∃o H',Inv X pins Z H' s'/\IsPart u o/\Q o H') X.xe s
def tNoPart:TO:=λ_ H Q=>Q none H
def tPart (t:TE):TO:=λZ H Q=>t Z H λx H1=>∃i,x=.int i/\Q (some i) H1
theorem ka {ns:List Int}:∀{us:List Value},Vals (ns.map V.int) us->IntsAre us ns:=by
 induction ns with
 |nil=>intro us r;rw[map_nil] at r;cases r;exact .nil
 |cons n ns ih=>
  intro us r;rw[map_cons] at r;cases r with
  |cons r1 r2=>obtain⟨t,e⟩:=r1;subst e;exact .cons n t (ih r2)
section
variable {X:Cx}{e:Expr}{te:TE}{lo hi:Option Expr}{tl th:TO}{pos p2:Pos}
theorem bH:PO X none tNoPart:=by intro pins s Z H Q I h;rw[evalPart_none];exact wpAny_pure ⟨none,H,I,.none,h⟩
theorem bI (h:PE X e te):PO X (some e) (tPart te):=by intro pins s Z H Q I hw;rw[evalPart_some];refine thn (h pins s Z H _ I hw) λu s1 W'=>?_;obtain⟨x,H1,I1,r1,q1⟩:=W';obtain⟨i,rfl,q⟩:=q1;obtain⟨t,rfl⟩:=r1;exact⟨some i,H1,I1,.int i t,q⟩
def SlR (X:Cx)(r:V->Option Int->Option Int->Hp->VK->Prop):Prop:=
 ∀(pins:`O) (s:Shared) (Z:St) (H:Hp) (x:V) (v vl vu:Value) (lo hi:Option Int) (sl:Addr) (Q:VK),Inv X pins Z H s->RelV x v->s.heap.IsSliceOf sl vl vu .none->IsPart vl lo->IsPart vu hi->r x lo hi H Q ->
  ∃T id,typeLookup (.type T) "__getitem__"=pure (some (.builtin id))/\s.TypeIs v T/\wpAny `m X.A (getItem v (.ref sl)) (EP X pins Z Q) X.xe s
theorem SlR.or {r r':V->Option Int->Option Int->Hp->VK->Prop}(h:SlR X r)(h':SlR X r'):SlR X (λx lo hi H Q=>r x lo hi H Q\/r' x lo hi H Q):=by
 intro pins s Z H x v vl vu lo hi sl Q I rx hs pl pu q;rcases q with q|q
 .exact h pins s Z H x v vl vu lo hi sl Q I rx hs pl pu q
 .exact h' pins s Z H x v vl vu lo hi sl Q I rx hs pl pu q
def tSl (r:V->Option Int->Option Int->Hp->VK->Prop)(te:TE)(tl th:TO):TE:=λZ H Q=>te Z H λx H1=>tl Z H1 λl H2=>th Z H2 λu H3=>r x l u H3 Q
theorem bJ {r:V->Option Int->Option Int->Hp->VK->Prop}(hr:SlR X r)(he:PE X e te)(hl:PO X lo tl)(hu:PO X hi th):PE X (.Subscript e (.Slice lo hi none p2) pos) (tSl r te tl th):=by intro dl s Z H Q I h;refine Subscript_ (thn (he dl s Z H _ I h) λv s1 W'=>?_);obtain⟨x,H1,I1,r1,q1⟩:=W';refine wpAny_Slice (thn (hl dl s1 Z H1 _ I1 q1) λvl s2 ⟨l,H2,I2,pl,q2⟩=>thn (hu dl s2 Z H2 _ I2 q2) λvu s3 W'=>?_);obtain⟨u,H3,I3,pu,q3⟩:=W';rw[evalPart_none];refine wpAny_pure ?_;have I4:Inv X dl Z H3 {s3 with heap:=s3.heap.push {cls:=.type "slice",data:=.fields #[vl,vu,.none]} }:=I3.kept (t':=s3.toks) λb ob q=>Heap.get?_push_of_some _ q;obtain⟨T,id,hT,ht,hg⟩:=hr dl {s3 with heap:=s3.heap.push {cls:=.type "slice",data:=.fields #[vl,vu,.none]} } Z H3 x v vl vu l u s3.heap.objs.size Q I4 r1 (Heap.IsSliceOf.new ..) pl pu q3;show wpAny `m X.A (subscriptTail e (.Slice lo hi none p2) v (.ref s3.heap.objs.size)) (EP X dl Z Q) X.xe {s3 with heap:=s3.heap.push {cls:=.type "slice",data:=.fields #[vl,vu,.none]} };exact tail_any (ops:=[.ref s3.heap.objs.size,v]) ht hT hg (by with_unfolding_all rfl)
noncomputable def cutV (xs:`V)(lo hi:Option Int):`V:=(xs.drop (HT.sIx `x 0 lo)).take (HT.sIx `x `x hi - HT.sIx `x 0 lo)
theorem kc (xs:`V)(lo hi:Option Int):(cutV xs lo hi).length<=`x:=by unfold cutV;rw[length_take,length_drop];lia
def rSlT (K:`F):V->Option Int->Option Int->Hp->VK->Prop:=λx lo hi H Q=>∃a xs,x=.ref a/\SqT K H a xs/\
 ¬ (HT.sIx `x 0 lo=0/\HT.sIx `x `x hi=`x)/\∀p,H p=none->Q (.ref p) (upd H p (.tup (cutV xs lo hi)))
theorem kd:SlR X (rSlT X.K):=by
 intro mt s Z H x v vl vu lo hi sl Q I rx hs pl pu h;obtain⟨a,xs,rfl,hx,hw,q⟩:=h;cases rx;obtain⟨BT,r,ht,hz⟩:=I.tuple hx;have dl:BT.toArray.size=`x:=by rw[size_toArray];exact r.length.symm
 refine⟨"tuple",_,PyProof.Rows.slot_tuple_getitem.lookup,ht.typeIs,?_⟩;refine HT.getItem_tuple_cut ht hs pl pu (by rw[dl];exact hw) ?_ (by rw[dl];exact hz);rw[dl];refine⟨.ref `z,_,I.laid (t':=s.toks) (o:=.tup (cutV xs lo hi)) (λb ob q=>Heap.get?_push_of_some _ q) `n ?_,rfl,q _ (I.hok.fresh `n)⟩;exact⟨Nat.le_trans (kc xs lo hi) hz,_,(r.drop (HT.sIx `x 0 lo)).take (HT.sIx `x `x hi - HT.sIx `x 0 lo),IsTup.new _ _⟩
def rCatT (K:`F):R2:=λx y H Q=>∃a b xs ys,x=.ref a/\y=.ref b/\SqT K H a xs/\SqT K H b ys/\xs≠[]/\`x+ys.length<=sizeLine/\
 (ys=[]->Q (.ref a) H)/\(ys≠[]->∀p,H p=none->Q (.ref p) (upd H p (.tup (xs++ys))))
theorem Vals.nil_iff {xs:`V}{us:List Value}(r:Vals xs us):us=[]↔xs=[]:=by
 cases r with
 |nil=>simp
 |cons _ _=>simp
theorem kf:OpR X (binaryOp .Add) (rCatT X.K):=by intro dl s Z H x y v u Q I rx ry h;obtain⟨a,b,xs,ys,rfl,rfl,ha,hb,hx,hz,q1,q2⟩:=h;cases rx;cases ry;obtain⟨BT,r1,p1,_⟩:=I.tuple ha;obtain⟨mt,r2,p2,_⟩:=I.tuple hb;refine HT.cat_tup p1 p2 (λz=>hx (r1.nil_iff.mp z)) (λz=>⟨.ref a,H,I,rfl,q1 (r2.nil_iff.mp z)⟩) (λz=>?_) (by rw[<- r1.length,<- r2.length];exact hz);refine⟨.ref `z,_,I.laid (t':=s.toks) (o:=.tup (xs++ys)) (λb ob q=>Heap.get?_push_of_some _ q) `n ?_,rfl,q2 (λw=>z (r2.nil_iff.mpr w)) _ (I.hok.fresh `n)⟩;exact⟨by rw[length_append];exact hz,_,r1.append r2,IsTup.new _ _⟩
end
noncomputable def ixN (n:Nat)(i:Int):Option Nat:=if 0<=i then (if i < n then some i.toNat else none) else if -(n:Int)<=i then some (i+n).toNat else none
noncomputable def atI {α:Type}(xs:List α)(i:Int):Option α:=(ixN `x i).bind λj=>xs[j]?
theorem kg {n:Nat}{i:Int}{j:Nat}(h:ixN n i=some j):seqIndex? i n=some j/\j < n/\-(n:Int)<=i/\i < n:=by
 unfold ixN at h;by_cases h0:0<=i
 .rw[if_pos h0] at h;by_cases h1:i < n
  .rw[if_pos h1] at h;have e:i.toNat=j:=Option.some.inj h;exact⟨by rw[seqIndex_of h0 h1,e],`l,`l,h1⟩
  .rw[if_neg h1] at h;cases h
 .rw[if_neg h0] at h;by_cases h1:-(n:Int)<=i
  .rw[if_pos h1] at h;have e:(i+n).toNat=j:=Option.some.inj h;exact⟨by rw[seqIndex_neg `l h1,e],`l,h1,`l⟩
  .rw[if_neg h1] at h;cases h
theorem gv {α:Type}{xs:List α}{i:Int}{v:α}(h:atI xs i=some v):∃j,seqIndex? i `x=some j/\xs[j]?=some v/\j < `x/\-(`x:Int)<=i/\i < `x:=by
 unfold atI at h;cases e:ixN `x i with
 |none=>rw[e] at h;cases h
 |some j=>rw[e] at h;obtain⟨h1,h2,h3,h4⟩:=kg e;exact⟨j,h1,h,h2,h3,h4⟩
theorem a7 {α:Type}{xs:List α}{j:Nat}{v:α}(h:xs[j]?=some v):atI xs (j:Int)=some v:=by
 have hj:j < `x:=(List.getElem?_eq_some_iff.mp h).1;have e:ixN `x (j:Int)=some j:=by unfold ixN;rw[if_pos `l,if_pos `l];simp
 unfold atI;rw[e];exact h
def PlainIx (b:Expr):Prop:=∀o i,subscripted b false o i=operate [o,i] (getItem o i)
def IxR (X:Cx)(r:R2):Prop:=
 ∀(value slice:Expr) (pins:`O) (s:Shared) (Z:St) (H:Hp) (x y:V) (v u:Value) (Q:VK),Inv X pins Z H s->RelV x v->RelV y u->r x y H Q ->
  subscripted slice false v u=operate [v,u] (getItem v u)->wpAny `m X.A (subscriptTail value slice v u) (EP X pins Z Q) X.xe s
def MtR (X:Cx)(id:String)(r:V->`V->Hp->VK->Prop):Prop:=
 ∀(pins:`O) (s:Shared) (Z:St) (H:Hp) (x:V) (xs:`V) (v:Value) (us:List Value) (Q:VK),Inv X pins Z H s->RelV x v->Vals xs us->r x xs H Q ->
  wpAny `m X.A (call (.builtin id) (v::us)) (EP X pins Z Q) X.xe s
section
variable {X:Cx}{a b:Expr}{ta tb:TE}{pos:Pos}
theorem IxR.or {r r':R2}(h:IxR X r)(h':IxR X r'):IxR X (λx y H Q=>r x y H Q\/r' x y H Q):=by
 intro value slice pins s Z H x y v u Q I rx ry q hs;rcases q with q|q
 .exact h value slice pins s Z H x y v u Q I rx ry q hs
 .exact h' value slice pins s Z H x y v u Q I rx ry q hs
theorem kh {r:R2}(hr:IxR X r)(ha:PE X a ta)(hb:PE X b tb)(hs:PlainIx b):PE X (.Subscript a b pos) (tOp r ta tb):=by intro pins s Z H Q I h;exact Subscript_ (binT ha hb I h λv u s2 x y H2 I2 rx ry q=>hr a b pins s2 Z H2 x y v u Q I2 rx ry q (hs _ _))
def rIxL (K:`F):R2:=λx y H Q=>∃p xs i v,x=.ref p/\y=.int i/\SqL K H p xs/\atI xs i=some v/\Q v H
def rIxT (K:`F):R2:=λx y H Q=>∃p xs i v,x=.ref p/\y=.int i/\SqT K H p xs/\atI xs i=some v/\Q v H
def rIxS:R2:=λx y H Q=>∃z i c,x=.str z/\y=.int i/\z.length<=sizeLine/\atI z.cps.toList i=some c/\Q (.str ⟨#[c]⟩) H
theorem vv:IxR X (rIxL X.K):=by
 intro mt BT dl s Z H x y v u Q I rx ry h hs;obtain⟨p,xs,i,z,rfl,rfl,hq,he,q⟩:=h;cases rx;obtain⟨t,rfl⟩:=ry;obtain⟨Fr,r,pl,hz⟩:=I.list hq;obtain⟨j,h1,h2,h3,h4,h5⟩:=gv he;obtain⟨w,ew,Fn⟩:=r.get h2;have hl:=r.length;have hn:=line63;have Cl:EP X dl Z Q w s:=⟨z,H,I,Fn,q⟩;by_cases h0:0<=i
 .have hj:i.toNat=j:=by
   rw[seqIndex_of h0 h5] at h1;exact Option.some.inj h1
  exact item_listR pl.isList h0 `l (by rw[hj];simpa using ew) Cl hs
 .have hj:(i+(Fr.toArray.size:Int)).toNat=j:=by
   rw[seqIndex_neg `l h4] at h1;rw[size_toArray,<- hl];exact Option.some.inj h1
  exact subscriptTail_builtinR (x:=w) pl.isList.typeIs slot_list_getitem.lookup
   (wpAny_getItem_list_neg (Q:=λr s'=>r=w/\EP X dl Z Q r s') pl.isList `l (by rw[size_toArray] <;> lia) `l (by rw[hj];simpa using ew) ⟨rfl,Cl⟩) hs
theorem vy:IxR X (rIxT X.K):=by
 intro mt BT dl s Z H x y v u Q I rx ry h hs;obtain⟨p,xs,i,z,rfl,rfl,hq,he,q⟩:=h;cases rx;obtain⟨t,rfl⟩:=ry;obtain⟨Fr,r,pl,hz⟩:=I.tuple hq;obtain⟨j,h1,h2,h3,h4,h5⟩:=gv he;obtain⟨w,ew,Cl⟩:=r.get h2;have hl:=r.length;have hn:=line63;have Fn:EP X dl Z Q w s:=⟨z,H,I,Cl,q⟩;exact subscriptTail_builtinR (x:=w) pl.typeIs slot_tuple_getitem.lookup
  (getItem_tuple (j:=j) (Q:=λr s'=>r=w/\EP X dl Z Q r s') pl `l `l (by rw[size_toArray,<- hl];exact h1) (by simpa using ew) ⟨rfl,Fn⟩) hs
theorem w4:IxR X rIxS:=by
 intro dl mt BT s Z H x y v u Q I rx ry h hs;obtain⟨z,i,c,rfl,rfl,hz,he,q⟩:=h;obtain⟨t,rfl⟩:=rx;obtain⟨t',rfl⟩:=ry;obtain⟨j,h1,h2,h3,h4,h5⟩:=gv he;have hl:z.cps.toList.length=z.length:=by simp[Str.length]
 rw[hl] at h1 h4 h5;have hn:=line63;exact tail_any (typeIs_str s z t) slot_str_getitem.lookup (getItem_str (c:=c) (by have e1:decide (i < -(2 ^ 63:Int))=false:=decide_eq_false `l;have e2:decide (i ≥ 2 ^ 63)=false:=decide_eq_false `l;rw[e1,e2,Bool.or_false]) (by rw[h1];simpa using h2) ⟨.str ⟨#[c]⟩,H,I.tok _,`o,q⟩) hs
def rIx (K:`F):R2:=λx y H Q=>rIxL K x y H Q\/rIxT K x y H Q\/rIxS x y H Q
theorem w6:IxR X (rIx X.K):=vv.or (vy.or w4)
theorem w8 (its:List Value)(n j:Nat)(u:Value):Obj.mapSeq (·.setIfInBounds j u) {cls:=.type "list",data:=.seq its.toArray n}={ cls:=.type "list",data:=.seq (its.set j u).toArray n}:=by simp[Obj.mapSeq]
theorem Inv.lst {pins:`O}{Z:St}{H:Hp}{s:Shared}{p:Addr}{xs:`V}(I:Inv X pins Z H s)(h:H p=some (.lst xs)) :
  ∃(its:List Value) (n:Nat),Vals xs its/\s.heap.get? p=some {cls:=.type "list",data:=.seq its.toArray n}/\`x<=sizeLine:=by
 obtain⟨z,its,n,r,e⟩:=I.hok p _ h;exact⟨its,n,r,e,z⟩
theorem Inv.lstUpd {pins:`O}{Z:St}{H:Hp}{s:Shared}{p:Addr}{xs ys:`V}{its its':List Value}{n n':Nat}{f:Obj->Obj}(I:Inv X pins Z H s)(h:H p=some (.lst xs))
  (ho:s.heap.get? p=some {cls:=.type "list",data:=.seq its.toArray n}) (hf:f {cls:=.type "list",data:=.seq its.toArray n}={ cls:=.type "list",data:=.seq its'.toArray n' }) (r:Vals ys its') (hz:ys.length<=sizeLine) (t:Nat) :
  Inv X pins Z (upd H p (.lst ys)) {s with heap:=s.heap.update p f,toks:=t}:=by
 have e:(s.heap.update p f).get? p=some {cls:=.type "list",data:=.seq its'.toArray n' }:=by rw[Heap.get?_update_self f ho (by rw[hf] <;> rfl),hf]
 refine I.write (x:=p) (e:=p) (by rw[h];trivial) (.inl rfl) (λb u hb q=>(Heap.get?_update_other _ _ (Ne.symm hb)).trans q) ⟨_,e⟩ ?_;exact⟨hz,its',n',r,e⟩
def rSetL:V->V->V->Hp->(Hp->Prop)->Prop:=λo i v H Q=>∃p xs k j,o=.ref p/\i=.int k/\H p=some (.lst xs)/\ixN `x k=some j/\Q (upd H p (.lst (xs.set j v)))
theorem wA:PSet X rSetL:=by
 intro dl s Z H o i v ov iv u Q I ro ri rv h;obtain⟨p,xs,k,j,rfl,rfl,hp,hj,q⟩:=h;cases ro;obtain⟨t,rfl⟩:=ri;obtain⟨mt,n,r,ho,hz⟩:=I.lst hp;obtain⟨h1,h2,h3,h4⟩:=kg hj;have hl:=r.length;have hn:=line63;have I':Inv X dl Z (upd H p (.lst (xs.set j v))) {s with heap:=s.heap.update p (Obj.mapSeq (·.setIfInBounds j u))}:=
  I.lstUpd hp ho (w8 mt n j u) (r.set rv j) (by rw[List.length_set];exact hz) s.toks
 by_cases h0:0<=k
 .have hk:k.toNat=j:=by
   rw[seqIndex_of h0 h4] at h1;exact Option.some.inj h1
  exact PySem.W.ki_setAt ho h0 `l (by rw[size_toArray,<- hl];exact h4) (by rw[hk];exact⟨_,I',q⟩)
 .have hk:(k+(mt.toArray.size:Int)).toNat=j:=by
   rw[seqIndex_neg `l h3] at h1;rw[size_toArray,<- hl];exact Option.some.inj h1
  exact PySem.W.ki_setBack ho `l (by rw[size_toArray,<- hl];exact h3) `l (by rw[hk];exact⟨_,I',q⟩)
theorem wB (lo hi:Option Int)(n:Nat):(sliceBounds lo hi none n).1=((HT.sIx n 0 lo:Nat):Int)/\(sliceBounds lo hi none n).2.1=((HT.sIx n n hi:Nat):Int)/\(sliceBounds lo hi none n).2.2=1:=by
 refine⟨?_,?_,rfl⟩
 .cases lo with
  |none=>simp[sliceBounds,HT.sIx]
  |some i=>
   simp only[sliceBounds,HT.sIx,Option.getD_none,show (1:Int) > 0 by decide,if_true];by_cases h:i < 0
   .simp only[h,if_true] <;> lia
   .simp only[h,if_false] <;> lia
 .cases hi with
  |none=>simp[sliceBounds,HT.sIx]
  |some i=>
   simp only[sliceBounds,HT.sIx,Option.getD_none,show (1:Int) > 0 by decide,if_true];by_cases h:i < 0
   .simp only[h,if_true] <;> lia
   .simp only[h,if_false] <;> lia
theorem wC (its:List Value)(lo hi:Option Int):slicePick its.toArray lo hi none=((its.drop (HT.sIx its.length 0 lo)).take (HT.sIx its.length its.length hi - HT.sIx its.length 0 lo)).toArray:=by obtain⟨h1,h2,h3⟩:=wB lo hi its.toArray.size;unfold slicePick;rw[h1,h2,h3];simp only[sliceRange_one,pick_run,size_toArray] <;> rfl
def rSlL (K:`F):V->Option Int->Option Int->Hp->VK->Prop:=λx lo hi H Q=>∃a xs,x=.ref a/\SqL K H a xs/\∀p,H p=none->Q (.ref p) (upd H p (.lst (cutV xs lo hi)))
theorem ki:SlR X (rSlL X.K):=by
 intro dl s Z H x v vl vu lo hi sl Q I rx hs pl pu h;obtain⟨a,xs,rfl,hx,q⟩:=h;cases rx;obtain⟨BT,r,ht,hz⟩:=I.list hx;have mt:=r.length;refine⟨"list",_,slot_list_getitem.lookup,ht.isList.typeIs,?_⟩;refine wpAny_getItem_list_slice ht.isList hs pl pu .none `s ?_ (by rw[size_toArray] <;> lia)
 rw[wC,<- mt];refine⟨.ref `z,_,I.laid (t':=s.toks) (o:=.lst (cutV xs lo hi)) (λb ob q=>Heap.get?_push_of_some _ q) `n ?_,rfl,q _ (I.hok.fresh `n)⟩;exact⟨Nat.le_trans (kc xs lo hi) hz,_,0,(r.drop (HT.sIx `x 0 lo)).take (HT.sIx `x `x hi - HT.sIx `x 0 lo),Heap.get?_push_size _ rfl⟩
noncomputable def flatV:V->Bool
 |.non=>true
 |.bl _=>true
 |.int _=>true
 |.str _=>true
 |_=>false
noncomputable def eqV:V->V->Bool
 |.non,.non=>true
 |.bl a,.bl b=>a == b
 |.bl a,.int b=>(if a then 1 else 0) == b
 |.int a,.bl b=>a == (if b then 1 else 0)
 |.int a,.int b=>a == b
 |.str a,.str b=>a == b
 |_,_=>false
theorem wD {A:Around}{s:Shared}{y x:V}{u v:Value}(ry:RelV y u)(rx:RelV x v)(fy:flatV y=true)(fx:flatV x=true):SeqAt.EqAt A s u v (eqV y x):=by
 cases y with
 |non=>
  cases ry;cases x with
  |non=>cases rx;exact SeqAt.EqAt.same _
  |bl b=>cases rx;exact SeqAt.EqAt.none_bool b
  |int b=>obtain⟨t,rfl⟩:=rx;exact SeqAt.EqAt.none_int b t
  |str b=>obtain⟨t,rfl⟩:=rx;exact SeqAt.EqAt.none_str b t
  |_=>exact absurd (show false=true from fx) Bool.false_ne_true
 |bl a=>
  cases ry;cases x with
  |non=>cases rx;exact SeqAt.EqAt.bool_none a
  |bl b=>cases rx;exact SeqAt.EqAt.bool_bool a b
  |int b=>obtain⟨t,rfl⟩:=rx;exact SeqAt.EqAt.bool_int a b t
  |str b=>obtain⟨t,rfl⟩:=rx;exact SeqAt.EqAt.bool_str a b t
  |_=>exact absurd (show false=true from fx) Bool.false_ne_true
 |int a=>
  obtain⟨t',rfl⟩:=ry;cases x with
  |non=>cases rx;exact SeqAt.EqAt.int_none a t'
  |bl b=>cases rx;exact SeqAt.EqAt.int_bool a t' b
  |int b=>obtain⟨t,rfl⟩:=rx;exact SeqAt.EqAt.int_int a t' b t
  |str b=>obtain⟨t,rfl⟩:=rx;exact SeqAt.EqAt.int_str a t' b t
  |_=>exact absurd (show false=true from fx) Bool.false_ne_true
 |str a=>
  obtain⟨t',rfl⟩:=ry;cases x with
  |non=>cases rx;exact SeqAt.EqAt.str_none a t'
  |bl b=>cases rx;exact SeqAt.EqAt.str_bool a t' b
  |int b=>obtain⟨t,rfl⟩:=rx;exact SeqAt.EqAt.str_int a t' b t
  |str b=>obtain⟨t,rfl⟩:=rx;exact SeqAt.EqAt.str_str a t' b t
  |_=>exact absurd (show false=true from fx) Bool.false_ne_true
 |_=>exact absurd (show false=true from fy) Bool.false_ne_true
noncomputable def eqU (x:V)(u:Value):Bool:=match u with
 |.none=>eqV .non x
 |.bool b=>eqV (.bl b) x
 |.int i _=>eqV (.int i) x
 |.str z _=>eqV (.str z) x
 |_=>false
theorem kj {x y:V}{u:Value}(r:RelV y u)(f:flatV y=true):eqU x u=eqV y x:=by
 cases y with
 |non=>cases r;rfl
 |bl b=>cases r;rfl
 |int i=>obtain⟨t,rfl⟩:=r;rfl
 |str z=>obtain⟨t,rfl⟩:=r;rfl
 |_=>exact absurd (show false=true from f) Bool.false_ne_true
theorem gw {x:V}:∀{xs:`V}{us:List Value},Vals xs us->xs.all flatV=true->us.any (eqU x)=xs.any λy=>eqV y x
 |_,_,.nil,_=>rfl
 |y::xs,u::us,.cons r t,f=>by rw[all_cons,Bool.and_eq_true] at f;rw[any_cons,any_cons,kj r f.1,gw t f.2]
theorem gx {A:Around}{s:Shared}{x:V}{v:Value}(rx:RelV x v)(fx:flatV x=true):∀{xs:`V}{us:List Value},Vals xs us->xs.all flatV=true->∀u∈us,SeqAt.EqAt A s u v (eqU x u)
 |_,_,.nil,_=>λu hu=>by cases hu
 |y::xs,u::us,.cons r t,f=>λu' hu=>by
  rw[all_cons,Bool.and_eq_true] at f;rcases mem_cons.mp hu with rfl|hu
  .rw[kj r f.1];exact wD r rx f.1 fx
  .exact gx rx fx t f.2 u' hu
noncomputable def inV (x:V)(xs:`V):Bool:=xs.any λy=>eqV y x
def rIn (K:`F)(neg:Bool):R2:=λx y H Q=>∃p xs,y=.ref p/\(SqL K H p xs\/SqT K H p xs)/\flatV x=true/\xs.all flatV=true/\Q (.bl (if neg then !inV x xs else inV x xs)) H
theorem wE:OpR X (compareOp .In) (rIn X.K false):=by
 intro mt s Z H x y v u Q I rx ry h;obtain⟨p,xs,rfl,hq,fx,fs,q⟩:=h;cases ry;rcases hq with hq|hq
 .obtain⟨dl,r,pl,hz⟩:=I.list hq;refine SeqAt.in_listAt (eqU x) pl.isList (λw hw=>gx rx fx r fs w (by simpa using hw)) ⟨.bl _,H,I,rfl,?_⟩;rw[show dl.toArray.any (eqU x)=dl.any (eqU x) by simp,gw r fs];exact q
 .obtain⟨dl,r,pl,hz⟩:=I.tuple hq;refine SeqAt.in_tupleAt (eqU x) pl (λw hw=>gx rx fx r fs w (by simpa using hw)) ⟨.bl _,H,I,rfl,?_⟩;rw[show dl.toArray.any (eqU x)=dl.any (eqU x) by simp,gw r fs];exact q
theorem wF:CallR X (.builtin "len") (λxs H Q=>∃p ys,xs=[.ref p]/\(SqL X.K H p ys\/SqT X.K H p ys)/\Q (.int ys.length) H):=by
 intro mt s Z H xs us Q I r h;obtain⟨p,ys,rfl,hq,q⟩:=h;obtain⟨u,rfl,rx⟩:=vals1 r;cases rx;have hn:=line63;rcases hq with hq|hq
 .obtain⟨BT,r',pl,hz⟩:=I.list hq;have dl:=r'.length;exact Calls.call_len_list pl.isList (by simp only[size_toArray] <;> lia) ⟨.int ys.length,H,I.tok _,⟨s.toks+1,by rw[size_toArray,dl]⟩,q⟩
 .obtain⟨BT,r',pl,hz⟩:=I.tuple hq;have dl:=r'.length;exact len_tuple pl (by simp only[size_toArray] <;> lia) ⟨.int ys.length,H,I.tok _,⟨s.toks+1,by rw[size_toArray,dl]⟩,q⟩
theorem wG:CallR X (.builtin "len") (λxs H Q=>∃z,xs=[.str z]/\z.length<=sizeLine/\Q (.int z.length) H):=by intro pins s Z H xs us Q I r h;obtain⟨z,rfl,hz,q⟩:=h;obtain⟨u,rfl,t,rfl⟩:=vals1 r;have hn:=line63;exact len_str `l ⟨.int z.length,H,I.tok _,`o,q⟩
theorem wH:CallR X (.type "list") (λxs H Q=>∃p ys,xs=[.ref p]/\(SqL X.K H p ys\/SqT X.K H p ys)/\∀l,H l=none->Q (.ref l) (upd H l (.lst ys))):=by
 intro mt s Z H xs us Q I r h;obtain⟨p,ys,rfl,hq,q⟩:=h;obtain⟨u,rfl,rx⟩:=vals1 r;cases rx;have BT:∀(dl:List Value),Vals ys dl->ys.length<=sizeLine->∀(h':Heap) (c':Nat),(∀b o',s.heap.get? b=some o'->h'.get? b=some o') ->
   h'.get? `z=some {cls:=.type "list",dict:=none,data:=.seq dl.toArray c',slots:=#[]}->EP X mt Z Q (.ref `z) {s with heap:=h' }:=λdl r' hz h' c' kp e=>
  ⟨.ref `z,_,I.laid (t':=s.toks) kp `n (show ObjOk X.prog X.w _ h' _ (.lst ys) from ⟨hz,dl,c',r',e⟩),rfl,q _ (I.hok.fresh `n)⟩
 rcases hq with hq|hq
 .obtain⟨dl,r',pl,hz⟩:=I.list hq;have hlen:=r'.length;obtain⟨o,ho,hc,n,hd⟩:=pl.isList;exact call_list_seq p (.inl rfl) ho hc hd (λh' c' kp e=>BT dl r' hz h' c' kp e) (by simp only[size_toArray] <;> lia)
 .obtain⟨dl,r',pl,hz⟩:=I.tuple hq;have hlen:=r'.length;obtain⟨o,ho,hc,n,hd⟩:=pl;exact call_list_seq p (.inr rfl) ho hc hd (λh' c' kp e=>BT dl r' hz h' c' kp e) (by simp only[size_toArray] <;> lia)
theorem kl:CallR X (.type "tuple") (λxs H Q=>∃p ys,xs=[.ref p]/\((SqL X.K H p ys/\∀l,H l=none->Q (.ref l) (upd H l (.tup ys)))\/(SqT X.K H p ys/\Q (.ref p) H))):=by
 intro dl s Z H xs us Q I r h;obtain⟨p,ys,rfl,h⟩:=h;obtain⟨u,rfl,rx⟩:=vals1 r;cases rx;rcases h with⟨hq,q⟩|⟨hq,q⟩
 .obtain⟨mt,r',pl,hz⟩:=I.list hq;have hlen:=r'.length;refine call_tuple_list pl.isList (λh' kp=>?_) (by simp only[size_toArray] <;> lia)
  have I1:Inv X dl Z H {s with heap:=h' }:=I.kept (t':=s.toks) kp;have I2:Inv X dl Z (upd H h'.objs.size (.tup ys)) {s with heap:=h'.push {cls:=.type "tuple",data:=.seq mt.toArray} }:=
   I1.laid (t':=s.toks) (λb o e=>Heap.get?_push_of_some _ e) `n (show ObjOk X.prog X.w _ _ _ (.tup ys) from ⟨hz,mt,r',IsTup.new _ _⟩)
  exact⟨.ref h'.objs.size,_,I2,rfl,q _ (I1.hok.fresh `n)⟩
 .obtain⟨mt,r',pl,hz⟩:=I.tuple hq;exact call_tuple_same pl ⟨.ref p,H,I,rfl,q⟩
def tyV (K:`F)(T:String)(x:V)(H:Hp):Prop:=match x with
 |.str _=>T = "str"
 |.int _=>T = "int"
 |.ref p=>(T = "list"/\∃xs,SqL K H p xs)\/(T = "tuple"/\∃o,K.lookup p=some o/\o.cls=.type "tuple"/\o.dict=none)\/
   (T = "dict"/\((∃kvs,H p=some (.dK kvs))\/∃kvs,H p=some (.dT kvs)))\/(T = "set"/\∃S n,H p=some (.set S n))
 |_=>False
theorem km {pins:`O}{Z:St}{H:Hp}{s:Shared}{T:String}{x:V}{v:Value}(I:Inv X pins Z H s)(r:RelV x v)(ty:tyV X.K T x H) :
  s.TypeIs v T/\∀a,v=.ref a->∃ob,s.heap.get? a=some ob/\ob.dict=none:=by
 cases x with
 |str z=>obtain⟨t,rfl⟩:=r;cases (show T = "str" from ty);exact⟨typeIs_str s z t,λ_ e=>nomatch e⟩
 |int i=>obtain⟨t,rfl⟩:=r;cases (show T = "int" from ty);exact⟨typeIs_int s i t,λ_ e=>nomatch e⟩
 |ref p=>
  cases r;rcases ty with⟨rfl,xs,hq⟩|⟨rfl,o,hk,hc,hd⟩|⟨rfl,hk⟩|⟨rfl,S,n,hk⟩
  .obtain⟨mt,_,pl,_⟩:=I.list hq;refine⟨pl.isList.typeIs,λa e=>?_⟩;cases e;obtain⟨o,n,e,c,hd,_⟩:=pl;exact⟨o,e,hd⟩
  .refine⟨⟨o,I.kIn p o hk,hc⟩,λa e=>?_⟩;cases e;exact⟨o,I.kIn _ o hk,hd⟩
  .have z:∃o,s.heap.get? p=some o/\o.ExactDict:=by
    rcases hk with⟨dl,hk⟩|⟨dl,hk⟩
    .obtain⟨_,_,_,_,o,_,_,e,ex,_⟩:=I.hok p _ hk;exact⟨o,e,ex⟩
    .obtain⟨_,_,_,_,o,_,_,e,ex,_⟩:=I.hok p _ hk;exact⟨o,e,ex⟩
   obtain⟨o,e,ex⟩:=z;refine⟨⟨o,e,ex.1⟩,λa e2=>?_⟩;cases e2;exact⟨o,e,ex.2.1⟩
  .obtain⟨o,_,_,_,e,ex,_⟩:=I.hok p _ hk;refine⟨⟨o,e,ex.1⟩,λa e2=>?_⟩;cases e2;exact⟨o,e,ex.2.1⟩
 |_=>exact False.elim ty
def tBM0 (K:`F)(T:String)(r:V->`V->Hp->VK->Prop)(to:TE):TE:=λZ H Q=>to Z H λx H1=>tyV K T x H1/\r x [] H1 Q
def tBM (K:`F)(T:String)(r:V->`V->Hp->VK->Prop)(to:TE)(t:TA):TE:=λZ H Q=>to Z H λx H1=>tyV K T x H1/\t Z H1 λxs H2=>r x xs H2 Q
variable {o e:Expr}{es:List Expr}{to:TE}{t:TA}{name:Str}{apos cpos:Pos}{T id:String}{r:V->`V->Hp->VK->Prop}
theorem wI (pa:PlainAttrs T)(slot:Slot T name id)(hty:typeOf (.builtin id)=pure (.type "method_descriptor"))(hm:MtR X id r)(ho:PE X o to)
  (hbase:attributeBase o name X.env (eval o X.env)=eval o X.env:=by rfl) (hline:(apos.endLine == cpos.line)=true:=by rfl):PE X (.Call (.Attribute o name apos) [] [] cpos) (tBM0 X.K T r to):=by
 intro pins s Z H Q I h;refine wpAny_Call_method0_late hbase hline (thn (ho pins s Z H _ I h) λv s1 W'=>?_);obtain⟨x,H1,I1,r1,ty,q1⟩:=W';obtain⟨h1,h2⟩:=km I1 r1 ty;exact⟨T,id,pa,slot,hty,h1,h2,Calls.callWith_builtin rfl (PySem.evalArgs_none (hm pins s1 Z H1 x [] v [] Q I1 r1 .nil q1))⟩
theorem wJ (pa:PlainAttrs T)(slot:Slot T name id)(hty:typeOf (.builtin id)=pure (.type "method_descriptor"))(hm:MtR X id r)(ho:PE X o to)(ha:PA X (e::es) t)
  (hbase:attributeBase o name X.env (eval o X.env)=eval o X.env:=by rfl)
  (hfew:((backTo cpos (starEach (e::es) X.env)).all (λx=>!x.1) && (backToKw cpos (keywordEach [] X.env)).all (λx=>x.1.isSome)
   && decide ((e::es).length+([]:List Keyword).length+(if ([]:List Keyword).isEmpty then 0 else 1) < 30))=true:=by rfl)
  (hline:(apos.endLine == cpos.line)=true:=by rfl) (hs:starEach (e::es) X.env=(false,eval e X.env)::starEach es X.env:=by rfl) (hplain:(backTo cpos (starEach es X.env)).any (·.1)=false:=by rfl) :
  PE X (.Call (.Attribute o name apos) (e::es) [] cpos) (tBM X.K T r to t):=by
 intro dl s Z H Q I h;refine wpAny_Call_method_late hbase hfew hline rfl (thn (ho dl s Z H _ I h) λv s1 W'=>?_);obtain⟨x,H1,I1,r1,ty,q1⟩:=W';obtain⟨h1,h2⟩:=km I1 r1 ty;refine⟨T,id,pa,slot,hty,h1,h2,?_⟩;have hA:=ha cpos dl s1 Z H1 _ I1 q1;rw[hs] at hA ⊢;refine Calls.callWith_builtin (by show (false || (backTo cpos (starEach es X.env)).any (·.1))=false;rw[hplain] <;> rfl) (Calls.evalArgs_plain ?_)
 exact thn hA λus s2 ⟨vs,H2,I2,r2,q2⟩=>hm dl s2 Z H2 x vs v us Q I2 r1 r2 q2
end
def MtM (X:Cx)(id:String)(r:V->`V->Hp->VK->Prop):Prop:=
 ∀(pins:`O) (s:Shared) (Z:St) (H:Hp) (x:V) (xs:`V) (v:Value) (us:List Value) (Q:VK),Inv X pins Z H s->RelV x v->Vals xs us->r x xs H Q ->
  wpAny `m X.A (call (.builtin id) (v::us)) (EP X pins Z Q) X.xe s
theorem Vals.one {x:V}{us:List Value}(h:Vals [x] us):∃u,us=[u]/\RelV x u:=by
 cases h with
 |cons r t=>cases t;exact⟨_,rfl,r⟩
theorem Vals.zero:∀{us:List Value},Vals [] us->us=[]
 |_,.nil=>rfl
theorem Vals.dropLast {xs:`V}{us:List Value}(h:Vals xs us):Vals xs.dropLast us.dropLast:=by
 induction h with
 |nil=>exact .nil
 |cons r t ih=>
  cases t with
  |nil=>exact .nil
  |cons q t'=>exact .cons r ih
theorem Vals.rep {xs:`V}{us:List Value}(h:Vals xs us):∀k:Nat,Vals (List.replicate k xs).flatten (List.replicate k us).flatten
 |0=>.nil
 |k+1=>by rw[replicate_succ,replicate_succ,flatten_cons,flatten_cons];exact Vals.append h (Vals.rep h k)
theorem wK {α:Type}(l:List α):l.eraseIdx (`L - 1)=l.dropLast:=by
 induction l with
 |nil=>rfl
 |cons a r ih=>
  cases r with
  |nil=>rfl
  |cons b r=>
   have e:(a::b::r).length - 1=((b::r).length - 1)+1:=by have h1:(a::b::r).length=r.length+2:=rfl;have h2:(b::r).length=r.length+1:=rfl;lia
   rw[e,List.eraseIdx_cons_succ,ih];all_goals rfl
theorem gy (its:List Value):∀(k:Nat) (acc:List Value),
  List.foldl (λx1 x2=>x1++x2) acc.toArray (List.replicate k its.toArray)=(acc++(List.replicate k its).flatten).toArray
 |0,acc=>by simp
 |k+1,acc=>by
  have e:acc.toArray++its.toArray=(acc++its).toArray:=by simp
  have e2:(acc++its)++(List.replicate k its).flatten=acc++(List.replicate (k+1) its).flatten:=by rw[replicate_succ,flatten_cons,append_assoc]
  rw[<- e2,<- gy its k (acc++its),<- e,replicate_succ,foldl_cons]
section
variable {X:Cx}{pins:`O}{Z:St}{H:Hp}{s:Shared}{l b:Addr}{xs ys zs:`V}
theorem Inv.lset {its its':List Value}{n:Nat}{f:Array Value->Array Value}{t':Nat}(I:Inv X pins Z H s)(hH:H l=some (.lst xs))
  (e:s.heap.get? l=some {cls:=.type "list",data:=.seq its.toArray n}) (hf:f its.toArray=its'.toArray) (hv:Vals ys its') (hz:ys.length<=sizeLine) :
  Inv X pins Z (upd H l (.lst ys)) {s with heap:=s.heap.update l (Obj.mapSeq f),toks:=t' }:=by
 have q:=PySem.IsL.update e f;rw[hf] at q;refine I.write (x:=l) (e:=l) (by rw[hH];exact trivial) (.inl rfl) (λb' u hb hu=>(Heap.get?_update_other s.heap (Obj.mapSeq f) (Ne.symm hb)).trans hu) ⟨_,q⟩ ?_;exact⟨hz,its',_,hv,q⟩
theorem Inv.lnew {its:List Value}{t':Nat}(I:Inv X pins Z H s)(hv:Vals ys its)(hz:ys.length<=sizeLine) :
  Inv X pins Z (upd H `z (.lst ys)) {s with heap:=s.heap.push {cls:=.type "list",data:=.seq its.toArray},toks:=t' }:=
 I.laid (λ_ _ q=>Heap.get?_push_of_some _ q) `n ⟨hz,its,0,hv,Heap.get?_push_size _ rfl⟩
theorem Inv.fresh (I:Inv X pins Z H s):H `z=none:=I.hok.fresh `n
theorem Inv.lstM (I:Inv X pins Z H s)(hH:H l=some (.lst xs)):`x<=sizeLine/\∃(its:List Value) (n:Nat),Vals xs its/\`x=its.length/\s.heap.get? l=some {cls:=.type "list",data:=.seq its.toArray n}:=by obtain⟨z,its,n,r,e⟩:=I.hok l _ hH;exact⟨z,its,n,r,r.length,e⟩
end
section
variable {X:Cx}
def rAppend:V->`V->Hp->VK->Prop:=λx vs H Q=>∃l xs y,x=.ref l/\vs=[y]/\H l=some (.lst xs)/\`x < sizeLine/\Q .non (upd H l (.lst (xs++[y])))
theorem dv:MtM X "list.append" rAppend:=by intro mt s Z H x vs v us Q I rx rv h;obtain⟨l,xs,y,rfl,rfl,hH,hz,q⟩:=h;cases rx;obtain⟨u,rfl,ru⟩:=rv.one;obtain⟨z,dl,n,r,hl,e⟩:=I.lstM hH;refine call_meets F.slot_list_append ⟨_,e,rfl⟩ F.entry_list_append (F.args_list_append_2 _ _) (PySem.list_append l dl.toArray n u (by rw[size_toArray];lia)) ⟨e,?_⟩;refine⟨.non,_,I.lset (its':=dl++[u]) hH e `s (r.append (.cons ru .nil)) ?_,rfl,q⟩;rw[length_append,length_singleton];lia
def rPop:V->`V->Hp->VK->Prop:=λx vs H Q=>∃l xs y,x=.ref l/\vs=[]/\H l=some (.lst xs)/\xs[`x - 1]?=some y/\Q y (upd H l (.lst xs.dropLast))
theorem wL:MtM X "list.pop" rPop:=by
 intro mt s Z H x vs v us Q I rx rv h;obtain⟨l,xs,y,rfl,rfl,hH,hy,q⟩:=h;cases rx;have Cl:=rv.zero;subst Cl;obtain⟨z,dl,n,r,hl,e⟩:=I.lstM hH;obtain⟨u,hu,ru⟩:=r.get hy;have BT:dl.toArray[dl.toArray.size - 1]?=some u:=by show dl.toArray[dl.length - 1]?=some u;rw[<- Array.getElem?_toList,<- hl];exact hu
 refine call_meets F.slot_list_pop ⟨_,e,rfl⟩ F.entry_list_pop (F.args_list_pop_1 _) (MeetsSeq.list_pop_last l dl.toArray n u BT (by rw[size_toArray];lia)) ⟨e,?_⟩;refine⟨y,_,I.lset (its':=dl.dropLast) hH e ?_ r.dropLast ?_,ru,q⟩
 .show dl.toArray.eraseIdxIfInBounds (dl.toArray.size - 1)=dl.dropLast.toArray;rw[size_toArray,List.eraseIdxIfInBounds_toArray,wK]
 .rw[length_dropLast];lia
def rCat:R2:=λx y H Q=>∃l b xs zs,x=.ref l/\y=.ref b/\H l=some (.lst xs)/\H b=some (.lst zs)/\`x+zs.length<=sizeLine/\∀p,H p=none->Q (.ref p) (upd H p (.lst (xs++zs)))
theorem wM:OpR X (binaryOp .Add) rCat:=by
 intro BT s Z H x y v u Q I rx ry h;obtain⟨l,b,xs,zs,rfl,rfl,hH,hB,hz,q⟩:=h;cases rx;cases ry;obtain⟨z,mt,n,r,hl,e⟩:=I.lstM hH;obtain⟨z2,dl,n2,r2,Cl,e2⟩:=I.lstM hB;refine PySem.P.add_list e e2 ?_ (by rw[size_toArray,size_toArray];lia);have ea:mt.toArray++dl.toArray=(mt++dl).toArray:=by simp
 rw[ea];exact⟨.ref _,_,I.lnew (t':=s.toks) (r.append r2) (by rw[length_append];lia),rfl,q _ I.fresh⟩
theorem kn {α:Type}(xs:List α)(k:Nat):(List.replicate k xs).flatten.length=k * `x:=by
 induction k with
 |zero=>simp
 |succ k ih=>rw[replicate_succ,flatten_cons,length_append,ih,Nat.succ_mul,Nat.add_comm]
end
section
variable {prog:Program}{w:World}{A:Around}{E:`T}{s:Shared}
set_option maxRecDepth 100000 in
end
section
variable {X:Cx}
end
end L2
namespace Att
open PySem PySem.W PySem.Calls PyProof.Rows
theorem wN {P:Params}{h:Heap}:∀(ns:List Int) (vs:List Value),WellAll P h vs (ns.map WData.int)->IntsAre vs ns:=by
 intro ns;induction ns with
 |nil=>intro vs w;rw[map_nil] at w;cases w;exact .nil
 |cons n ns ih=>
  intro vs w;rw[map_cons] at w;cases w with
  |cons a b=>cases a;exact .cons _ _ (ih _ b)
theorem wP {l:OpenLaw}{n:Nat}(hn:l.most=some n){P:Params}{h:Heap}{args:List WData}{vals:List Value}
  (hpre:l.row.toRowW.claim.pre args=true) (hwl:WellAll P h vals args) :
  ∃a vs ns,vals=[Value.ref a]/\args=[WData.list (ns.map WData.int)]/\h.get? a=some {cls:=.type "list",data:=.seq vs.toArray}/\IntsAre vs ns/\ns.length<=n:=by
 have mt:WShape.hasAll [] args [.list .int]=true:=(pre_splitW hpre).1;have hc:l.pre.holds [] {args:=args}=true:=(pre_splitW hpre).2;obtain⟨d,r,rfl,h1,h2⟩:=hasAllW_cons mt;obtain rfl:=hasAllW_nil h2;obtain⟨xs,rfl,h3⟩:=hasW_list h1;obtain⟨ns,rfl⟩:=items_int h3;have dl:ns.length<=n:=by
  unfold OpenLaw.pre at hc;have h4:(WTm.not (.lt (.lit (.int (n:Int))) (.len (.arg 0)))).holds [] {args:=[.list (ns.map .int)]}=true:=by have h4:=(holds_andW hc).1;rw[hn] at h4;exact h4
  have h5:=condW_of h4 (w_not (w_lt w_lit (w_len_list (w_arg rfl))));rw[length_map] at h5;refine Nat.le_of_not_lt λq=>?_;have q':(n:Int) < ((ns.length:Nat):Int):=by lia
  first
   | (rw[decide_eq_true q'] at h5;exact absurd h5 `d)
   | (simp at h5;lia)
 cases hwl with
 |cons w1 w2=>
  cases w2;cases w1 with
  |list ho hall=>exact⟨_,_,ns,rfl,rfl,ho,wN ns _ hall,dl⟩
theorem wQ (l:OpenLaw)(args:List WData):l.row.toRowW.claim.post args (.bool true) args=true:=
 postW_of (r:=l.row.toRowW) (X:=(true == true))
  (show WShape.has [] (.bool true) .bool=true by first|rfl|decide|simp[WShape.has,WShape.arms,WShape.armsAll])
  (show (WTm.eq .res (.lit (.bool true))).value [] {args:=args,res:=some (.bool true),after:=args}=some (.bool (true == true)) from w_eq_bool (w_res rfl) w_lit) rfl
theorem attach_call {l:OpenLaw}{n:Nat}{q:Program}{loose:List Str}{XP:(Str->Option Value)->Heap->Prop}{YP:World->Heap->Prop}{d:DefRec}
  (hn:l.most=some n) (hdf:d.params.defaults=[])
  (call:∀(w:World) (s₀ s₁:Shared) (mg mb:Str->Option Value) (fa:Addr) (o:Obj) (pm cd doc:Value) (a:Addr) (vs:List Value) (ns:List Int),
   Ground q loose [] XP w s₀ mg mb s₁.heap->YP w s₁.heap ->
   s₁.heap.get? fa=some o->o.data=.func (docDef d.name d.params d.body d.scope pm cd doc)->s₁.heap.CodeRec cd d.name->mg d.name=some (.ref fa) ->
   s₁.heap.get? a=some {cls:=.type "list",data:=.seq vs.toArray}->IntsAre vs ns->ns.length<=n->s₁.gens=#[] ->
   codeAny (model l.prog w) callerA (.call (.ref fa) ⟨[.ref a],[]⟩) (λr s'=>r=.ok (.ret (.bool true))/\OldK s₁.heap s'.heap/\s'.os=s₁.os/\AllBare s'.gens) s₁) :
  WalkO q loose XP YP l.row.toRowW d [] (λf vs=>PySem.call f vs):=by
 intro w s₀ s₁ mg mb G Y fa o pm cd doc dV kV ho hd Gc hD Ga hg Gd Fn as mt Gb Ge Fr Gf;obtain rfl:dV=.none:=Dflts.none hD hdf;obtain rfl:kV=.none:=Dflts.noKw hD;obtain⟨a,vs,ns,rfl,rfl,BT,dl,Cl⟩:=wP hn mt Fr;refine enter_call (codeAny_mono (call w s₀ s₁ mg mb fa o pm cd doc a vs ns G Y ho (fd_plain hd) Gc Ga BT dl Cl hg) λr s' hq=>?_);obtain⟨rfl,h2,h3,h4⟩:=hq;exact⟨.inl ⟨.bool true,.bool true,[],rfl,λ_=>rfl,.bool true,wQ l _,λ_=>⟨List.Pairwise.nil,λ_ hm=>(nomatch hm)⟩⟩,h2,h3,h4⟩
section
variable {prog:Program}{w:World}{A:Around}{E:`T}{s:Shared}{K:Frag}
noncomputable def ledger (h:Heap)(L d:Addr):`O:=(List.range h.objs.size).filterMap λa=>if a=L\/a=d then none else (h.get? a).map λo=>(a,o)
end
end Att
namespace L2
open PySem PySem.Spec PyProof.Rows
theorem ko:∀{vs:List Value}{ns:List Int},IntsAre vs ns->Vals (ns.map V.int) vs
 |_,_,.nil=>.nil
 |_,_,.cons n t h=>.cons ⟨t,rfl⟩ (ko h)
def Only (H:Hp):Prop:=∀b,H b=none\/∃o xs,H b=some (.frz o (.lst xs))
theorem wR {P:Program}{w:World}{K:`F}{mg mb:Str->Option Value}{CX:CXT}{k:Nat}{fa a:Addr}{fd:FuncData}{x:Str}{sp:Sp}{s₁:Shared}{vs:List Value}{ns:List Int}
  (KX:K.In s₁.heap) (hns:s₁.heap.Ns mainGlobals mg) (hb:s₁.heap.Ns builtinsNs mb) (hbb:∀x:Str,x ≠ "__name__" -> mb x=bootBuiltins x) (hlim:s₁.heap.NoLimit) (hg:s₁.gens=#[])
  (ha:s₁.heap.get? a=some {cls:=.type "list",data:=.seq vs.toArray}) (hi:IntsAre vs ns) (hl:ns.length<=sizeLine) (hr:Room k callerA)
  (F:∀base:Heap,K.In base->base.Ns mainGlobals mg->FnOk P w K mg base CX k fa fd [x] sp) (hbind:∀(s:Shared) (u:Value),BindsTo s fd ⟨[u],[]⟩ [(x,u)])
  (hsp:∀H:Hp,Only H->SqL K H a (ns.map V.int)->sp [.ref a] H (λv _=>v=.bl true) λ_ _ _=>False)
  (hCX:∀H e s',CX [] H s₁ (λ_ _ _=>False) e s'->False) :
  codeAny (model P w) callerA (.call (.ref fa) ⟨[.ref a],[]⟩) (λr s'=>r=.ok (.ret (.bool true))/\OldK s₁.heap s'.heap/\s'.os=s₁.os/\AllBare s'.gens) s₁:=by
 have rv:=ko hi;have Gc:=hi.length;have mt:∀H:Hp,Only H->SqL K H a (ns.map V.int)->HOk P w H s₁.heap->(∀b,H b≠none->b=a)->(H a≠none->K.lookup a=none) ->
   codeAny (model P w) callerA (.call (.ref fa) ⟨[.ref a],[]⟩) (λr s'=>r=.ok (.ret (.bool true))/\OldK s₁.heap s'.heap/\s'.os=s₁.os/\AllBare s'.gens) s₁:=by
  intro H hO hS Fr hA hK;have dl:∀{b:Addr}{o:Obj},s₁.heap.get? b=some o->H b=none->(hidT s₁.heap H).get? b=some o:=λe n=>uX e n;have Gb:∀{b:Addr}{o:Obj}{es:Array DictEntry}{ep:Nat},s₁.heap.get? b=some o->o.data=.dict es ep->H b=none:=λ{b o es ep} e d=>by
   cases q:H b with
   |none=>rfl
   |some u=>have e':b=a:=hA b (by rw[q];simp);subst e';rw[ha] at e;cases e;have d':Data.seq vs.toArray _=Data.dict es ep:=d;cases d'
  have BT:∀{b:Addr}{m:Str->Option Value},s₁.heap.Ns b m->(hidT s₁.heap H).Ns b m:=λ{b m} ⟨o,es,ep,e,d,r⟩=>⟨o,es,ep,dl e (Gb e d),d,r⟩;have Ga:K.In (hidT s₁.heap H):=λb o e=>dl (KX b o e) (by
   cases q:H b with
   |none=>rfl
   |some u=>have e':b=a:=hA b (by rw[q];simp);subst e';rw[hK (by rw[q];simp)] at e;cases e)
  have hM:Mod K mg (hidT s₁.heap H):=⟨Ga,BT hns,⟨mb,BT hb,hbb⟩,let ⟨mc,h1,h2⟩:=hlim;⟨mc,BT h1,h2⟩⟩;have e0:Env0 P w K mg (hidT s₁.heap H) callerA [] s₁ H:=⟨rfl,hM,λb o e=>uY e,Nat.le_of_eq (uW _ _),trivial,λb hb=>absurd (show b∈([]:List Addr) from hb) `s,Fr,.of_eq hg⟩;refine codeAny_mono ((F _ Ga (BT hns)).run callerA [] s₁ H ⟨[.ref a],[]⟩ [.ref a] [.ref a] _ _ hr e0 (hbind s₁ (.ref a)) (.cons rfl .nil) (hsp H hO hS)) λr s' h=>?_;cases r with
  |error e=>exact (hCX H e s' h).elim
  |ok fl=>
   cases fl with
   |next=>exact False.elim h
   |brk=>exact False.elim h
   |cont=>exact False.elim h
   |ret u=>
    obtain⟨v,H',os,Fn,un,Cl,r',q⟩:=h;have q':v=.bl true:=q;subst q';obtain rfl:u=Value.bool true:=r';refine⟨rfl,OldK.of_keep λb o e=>?_,os,Fn⟩;cases q:H b with
    |none=>exact un.keep b o e q (by intro z;exact absurd (show b∈([]:List Addr) from z) `s) `s
    |some u=>
     rcases hO b with z|⟨ob,xs,z⟩
     .rw[q] at z;cases z
     .have z2:=un.frzs b ob _ z;obtain⟨e1,_⟩:=Fr b _ z;obtain⟨e2,_⟩:=Cl b _ z2;rw[e] at e1;cases e1;exact e2
 cases hk:K.lookup a with
 |some o=>have e:=KX a o hk;rw[ha] at e;cases e;refine mt (λ_=>none) (λ_=>.inl rfl) (.inr ⟨_,vs.toArray,_,hk,rfl,rfl,rfl,by rw[size_toArray,Gc];exact hl,by simpa using rv⟩) (λb u z=>by have z':(none:Option HO)=some u:=z;cases z') (λb z=>absurd rfl z) λz=>absurd rfl z
 |none=>
  refine mt (λb=>if b=a then some (.frz {cls:=.type "list",data:=.seq vs.toArray} (.lst (ns.map V.int))) else none) (λb=>?_) (.inl (.inr ⟨{cls:=.type "list",data:=.seq vs.toArray},if_pos rfl⟩)) (λb u z=>?_) (λb z=>?_) λ_=>hk
  .by_cases hb:b=a
   .exact .inr ⟨_,_,if_pos hb⟩
   .exact .inl (if_neg hb)
  .by_cases hb:b=a
   .have z':=(if_pos hb).symm.trans z;cases z';subst hb;exact⟨ha,by rw[length_map];exact hl,vs,_,rv,ha⟩
   .have z':=(if_neg hb).symm.trans z;cases z'
  .by_cases hb:b=a
   .exact hb
   .exact absurd (if_neg hb) z
noncomputable abbrev KOf {K:`F}{h:Heap}(_:K.In h):`F:=K
theorem wS {l:PySem.W.OpenLaw}{n k:Nat}{q:Program}{loose:List Str}{XP:(Str->Option Value)->Heap->Prop}{YP:World->Heap->Prop}{d:DefRec}{K:Params->`F}{CX:World->CXT}{sp:World->Sp}{x:Str}
  (hn:l.most=some n) (hn2:n<=sizeLine) (hdf:d.params.defaults=[]) (hr:Room k callerA)
  (hY:∀(w:World) (h:Heap),YP w h->(K w.params).In h)
  (F:∀(w:World) (mg:Str->Option Value) (fa:Addr) (h:Heap),(K w.params).In h->h.Ns mainGlobals mg->mg d.name=some (.ref fa) ->
   ∃fd:FuncData,(∀(s:Shared) (u:Value),BindsTo s fd ⟨[u],[]⟩ [(x,u)])/\
    ∀base:Heap,(K w.params).In base->base.Ns mainGlobals mg->FnOk l.prog w (K w.params) mg base (CX w) k fa fd [x] (sp w))
  (hsp:∀(w:World) (H:Hp) (a:Addr) (ns:List Int),ns.length<=n->Only H->SqL (K w.params) H a (ns.map V.int)->sp w [.ref a] H (λv _=>v=.bl true) λ_ _ _=>False)
  (hCX:∀(w:World) (H:Hp) (s:Shared) (e:Value) (s':Shared),CX w [] H s (λ_ _ _=>False) e s'->False) :
  PySem.W.WalkO q loose XP YP l.row.toRowW d [] (λf vs=>PySem.call f vs):=by
 refine Att.attach_call hn hdf λw s₀ s₁ mg mb fa o pm cd Fr a vs ns G Y ho hd Fn Cl BT mt dl hg=>?_;have KX:=hY w _ Y;obtain⟨fd,hb,hF⟩:=F w mg fa _ KX G.T.g Cl;exact wR KX G.T.g G.T.b G.T.builtins G.T.nolimit hg BT mt (Nat.le_trans dl hn2) hr hF hb (λH hO hS=>hsp w H a ns dl hO hS) λH e s'=>hCX w H s₁ e s'
noncomputable def inClass (s:Stmt)(j:Nat):Stmt:=match s with
 |.ClassDef _ _ _ body _ _ _ _ _ _ _=>body.getD j (.Pass ⟨0,0,0,0⟩)
 |_=>.Pass ⟨0,0,0,0⟩
noncomputable def defArgs (s:Stmt):Arguments:=match s with
 |.FunctionDef _ a _ _ _ _ _ _ _ _=>a
 |_=>{ posonlyargs:=[],args:=[],vararg:=none,kwonlyargs:=[],kw_defaults:=[],kwarg:=none,defaults:=[]}
noncomputable def defBody (s:Stmt):List Stmt:=match s with
 |.FunctionDef _ _ b _ _ _ _ _ _ _=>b
 |_=>[]
noncomputable def defScope (s:Stmt):Scope:=match s with
 |.FunctionDef _ _ _ _ _ _ sc _ _ _=>sc
 |_=>{ kind:=.function,names:=[],isGenerator:=false,isCoroutine:=false}
noncomputable abbrev CX0:CXT:=λ_ _ _ _ _ _=>False
abbrev E0:XK:=λ_ _ _=>False
theorem pass0 {X:Cx}:Passes CX0 X E0:=λ_ _ _ _ _ _ _ h=>h.elim
structure Fun (K:`F)(x qual:Str)(st:Stmt)(f:Addr)(fd:FuncData):Prop where
 ex:∃(oc:Value) (od:Option Addr) (kV doc pm:Value) (an:Option Addr) (cdv ct:Value) (osl:Array (Option Value)),
  fd=PySem.W.fnOf x qual (defArgs st) (defBody st) (defScope st) .none kV doc pm an cdv ct/\K.lookup f=some ⟨oc,od,.func fd,osl⟩/\PySem.W.codeIn K cdv qual=true
 kp:PySem.W.keepIn K (.ref f)=true
section
variable {P:Program}{w:World}{K:`F}{mg:Str->Option Value}{base:Heap}
theorem Fun.ok {x qual:Str}{st:Stmt}{f:Addr}{fd:FuncData}{N ps:List Str}{k:Nat}{sp:Sp}(F:Fun K x qual st f fd)(S:FnScope N ps (defScope st))(len:∀vs H Q E,sp vs H Q E->vs.length=ps.length)
  (hbody:∀(cdv:Value) (A:Around) (outer:List Env) (s:Shared) (H:Hp) (vs:`V) (Q:VK) (E:XK),Room k (A.deeper (envOfC qual (defScope st) `z f cdv))->sp vs H Q E ->
   ∃t,PSs (cxOf CX0 P w K mg base N qual (defScope st) f cdv A outer s H E).nox (defBody st) t/\t {nx:=λ_ H'=>Q .non H',rt:=Q} (start N vs) H):FnOk P w K mg base CX0 (k+1) f fd ps sp:=by
 obtain⟨oc,od,kV,doc,pm,an,cdv,ct,osl,rfl,lk,hcd⟩:=F.ex;refine kW lk hcd S len λA outer s H vs Q E hr hsp=>?_;obtain⟨t,h,q⟩:=hbody cdv A outer s H vs Q E hr hsp;exact⟨t,h.nox,q⟩
theorem Fun.binds {x qual:Str}{st:Stmt}{f:Addr}{fd:FuncData}{ps:List Str}(F:Fun K x qual st f fd)
  (h:∀(kV doc pm:Value) (an:Option Addr) (cdv ct:Value) (us:List Value),us.length=ps.length->bindArgs (PySem.W.fnOf x qual (defArgs st) (defBody st) (defScope st) .none kV doc pm an cdv ct) ⟨us,[]⟩=pure (ps.zip us)):Binds K fd ps []:=by
 obtain⟨oc,od,kV,doc,pm,an,cdv,ct,osl,rfl,lk,hcd⟩:=F.ex;exact .all (h kV doc pm an cdv ct)
theorem aq {x qual:Str}{st:Stmt}{f:Addr}{oc:Value}{od an:Option Addr}{osl:Array (Option Value)}{kV doc pm cdv ct:Value}(l:K.lookup f=some ⟨oc,od,.func (PySem.W.fnOf x qual (defArgs st) (defBody st) (defScope st) .none kV doc pm an cdv ct),osl⟩)
  (c:PySem.W.codeIn K cdv qual=true) (k:PySem.W.keepIn K (.ref f)=true):Fun K x qual st f (PySem.W.fnOf x qual (defArgs st) (defBody st) (defScope st) .none kV doc pm an cdv ct):=⟨⟨oc,od,kV,doc,pm,an,cdv,ct,osl,rfl,l,c⟩,k⟩
end
section
variable {X:Cx}
theorem pv (i:Nat){x:Str}{pos:Pos}(hN:X.N[i]?=some x:=by rfl)(hv:Vis X.env.scope x:=by first|exact Or.inl rfl|exact Or.inr (Or.inl rfl)|exact Or.inr (Or.inr rfl))(hd:(x == ("__debug__" : Str))=false:=by decide)
  (hcd:(x == ("__classdict__" : Str))=false:=by decide):PE X (.Name x pos) (tVar i):=kB hN hv hd hcd
end
theorem ite2 {c A B:Prop}[Decidable c](h1:c->A)(h2:¬ c->B):if c then A else B:=by
 by_cases h:c
 .rw[if_pos h];exact h1 h
 .rw[if_neg h];exact h2 h
def Same (H H':Hp):Prop:=∀b o,H b=some o->H' b=some o
theorem Same.refl (H:Hp):Same H H:=λ_ _ h=>h
theorem Same.trans {H H1 H2:Hp}(a:Same H H1)(b:Same H1 H2):Same H H2:=λc o h=>b c o (a c o h)
theorem Same.seq {K:`F}{H H':Hp}{a:Addr}{xs:`V}(e:Same H H')(h:SqL K H a xs):SqL K H' a xs:=by
 rcases h with (h|⟨o,h⟩)|h
 .exact .inl (.inl (e _ _ h))
 .exact .inl (.inr ⟨o,e _ _ h⟩)
 .exact .inr h
end L2
set_option maxHeartbeats 4000000
namespace L2
open PySem PySem.Spec PyProof.Rows
noncomputable def Its (z:Str):It:=⟨λi _=>i < z.length,λi H x H'=>H'=H/\∃c,z.cps.toList[i]?=some c/\x=.str ⟨#[c]⟩,λi _=>z.length<=i⟩
theorem kq {z:Str}{i:Nat}(h:i < z.length):∃c,z.cps[i]?=some c/\z.cps.toList[i]?=some c:=by have h':i < z.cps.size:=h;exact⟨z.cps[i],by simp[h'],by simp[h']⟩
theorem kr {z:Str}{i:Nat}(h:z.length<=i):z.cps[i]?=none:=by have h':z.cps.size<=i:=h;simp[h']
theorem wU {P:Program}{w:World}{K:`F}{tg:Expr}(it:Addr)(z:Str)(t:Tok):Turn P w K tg (Its z) [it] it (λi h=>h.IsStrIter it "str_ascii_iterator" z t i) where
 mem:=by simp
 obj:=λi h st b hb=>by
  have e:b=it:=by simpa using hb
  subst e;obtain⟨o,e,c,d⟩:=st;exact⟨o,e,λv z=>by rw[d] at z;cases z⟩
 keep:=λi h h' st k=>by obtain⟨o,e,r⟩:=st;exact⟨o,k it `s o e,r⟩
 item:=by intro X hP hw hK hc i dl s Z H E I hf st hg;subst hP hw hK;obtain⟨c,h1,h2⟩:=kq (z:=z) (i:=i) hg;obtain⟨f0,f1,f2,f3,f4,f5⟩:=hf it `s;refine wpAny_pyNext_ascii_item st h1 λh' mt sb=>?_;have I1:Inv X dl Z H {s with heap:=h',toks:=s.toks+1}:=I.turned (t':=s.toks+1) (λb o hb e=>(sb.2 b hb).trans e) f0 f1 f3 f4 f5;obtain⟨o,e,cl,d⟩:=id mt;exact⟨_,rfl,cX (s:={ s with heap:=h',toks:=s.toks+1}) e cl d `d ⟨.str ⟨#[c]⟩,H,I1,`o,⟨rfl,c,h2,rfl⟩,mt,λb hb=>(hf b hb).1⟩⟩
 done:=by intro X hP hw hK hc i dl s Z H E I hf st hg;subst hP hw hK;obtain⟨f0,f1,f2,f3,f4,f5⟩:=hf it `s;exact wpAny_pyNext_ascii_end (I.ok.hd hc) st (kr hg) λh' eb=>⟨rfl,I.turned (t':=s.toks) (λb o hb e=>eb b o hb e) f0 f1 f3 f4 f5⟩
 self:=λ_ _ _ _ _ st h=>wpAny_pyIter_striter_ascii st h
theorem wV {P:Program}{w:World}{K:`F}{tg:Expr}(it:Addr)(z:Str)(t:Tok):Turn P w K tg (Its z) [it] it (λi h=>h.IsStrIter it "str_iterator" z t i) where
 mem:=by simp
 obj:=λi h st b hb=>by
  have e:b=it:=by simpa using hb
  subst e;obtain⟨o,e,c,d⟩:=st;exact⟨o,e,λv z=>by rw[d] at z;cases z⟩
 keep:=λi h h' st k=>by obtain⟨o,e,r⟩:=st;exact⟨o,k it `s o e,r⟩
 item:=by intro X hP hw hK hc i dl s Z H E I hf st hg;subst hP hw hK;obtain⟨c,h1,h2⟩:=kq (z:=z) (i:=i) hg;obtain⟨f0,f1,f2,f3,f4,f5⟩:=hf it `s;refine wpAny_pyNext_wide_item st h1 λh' mt sb=>?_;have I1:Inv X dl Z H {s with heap:=h',toks:=s.toks+1}:=I.turned (t':=s.toks+1) (λb o hb e=>(sb.2 b hb).trans e) f0 f1 f3 f4 f5;obtain⟨o,e,cl,d⟩:=id mt;exact⟨_,rfl,cX (s:={ s with heap:=h',toks:=s.toks+1}) e cl d `d ⟨.str ⟨#[c]⟩,H,I1,`o,⟨rfl,c,h2,rfl⟩,mt,λb hb=>(hf b hb).1⟩⟩
 done:=by intro X hP hw hK hc i dl s Z H E I hf st hg;subst hP hw hK;obtain⟨f0,f1,f2,f3,f4,f5⟩:=hf it `s;exact wpAny_pyNext_wide_end (I.ok.hd hc) st (kr hg) λh' eb=>⟨rfl,I.turned (t':=s.toks) (λb o hb e=>eb b o hb e) f0 f1 f3 f4 f5⟩
 self:=λ_ _ _ _ _ st h=>wpAny_pyIter_striter_wide st h
section
variable {X:Cx}{tg:Expr}
def iStr (tl:TE):TI:=λZ H R=>tl Z H λx H1=>∃z,x=.str z/\R (Its z) H1
theorem cE {l:Expr}{tl:TE}(hl:PE X l tl):PI X tg l (iStr tl):=by
 intro dl s Z H R I h;refine thn (hl dl s Z H _ I h) λv s1 W'=>?_;obtain⟨x,H1,I1,r1,q1⟩:=W';obtain⟨z,rfl,q⟩:=q1;obtain⟨t,rfl⟩:=r1;have fp:∀b∈[`y],FpOk X dl H1 b:=λb hb=>by
  have e:b=`y:=by simpa using hb
  subst e;exact I1.fpOk `n (I1.hok.fresh `n)
 cases ha:z.cps.all (· < 128)
 .refine wpAny_pyIter_wide ha ?_;exact⟨`y,[`y],_,_,H1,rfl,I1.kept (t':=s1.toks) λb o e=>Heap.get?_push_of_some _ e,wV _ z t,⟨_,Heap.get?_push_size _ rfl,rfl,rfl⟩,fp,q⟩
 .refine wpAny_pyIter_ascii ha ?_;exact⟨`y,[`y],_,_,H1,rfl,I1.kept (t':=s1.toks) λb o e=>Heap.get?_push_of_some _ e,wU _ z t,⟨_,Heap.get?_push_size _ rfl,rfl,rfl⟩,fp,q⟩
end
theorem wW {z:Str}{g:TG}{tb:TS}{D:Ends}{Z:St}{H:Hp}(Pv:Nat->St->Hp->Prop)(h0:Pv 0 Z H)
  (hs:∀i c Z H,z.cps.toList[i]?=some c->Pv i Z H->g (.str ⟨#[c]⟩) Z H λZ2 H2=>tb {D with nx:=Pv (i+1),ct:=Pv (i+1),bk:=D.nx} Z2 H2) (hd:∀Z H,Pv z.length Z H->D.nx Z H) :
  ∃W:Nat->Nat->St->Hp->Prop,(∃m,W 0 m Z H)/\∀i m Z H,W i m Z H ->
   ((Its z).stop i H/\D.nx Z H)\/((Its z).go i H/\∃N:St->Hp->Prop,(∀Z' H',N Z' H'->∃m',m' < m/\W (i+1) m' Z' H')/\∀x H',(Its z).yld i H x H'->g x Z H' λZ2 H2=>tb {D with nx:=N,ct:=N,bk:=D.nx} Z2 H2):=by
 refine⟨λi m Z H=>m=z.length - i/\i<=z.length/\Pv i Z H,⟨z.length,`s,Nat.zero_le _,h0⟩,?_⟩;rintro i m Z H ⟨rfl,hi,p⟩;by_cases dl:i < z.length
 .refine .inr ⟨dl,Pv (i+1),λZ' H' p'=>⟨z.length - (i+1),`l,rfl,dl,p'⟩,λx H' y=>?_⟩;obtain⟨e,c,hc,ex⟩:=y;subst e ex;exact hs i c Z _ hc p
 .have e:i=z.length:=by lia
  subst e;exact .inl ⟨Nat.le_refl _,hd Z H p⟩
section
variable {X:Cx}
def rSlS:V->Option Int->Option Int->Hp->VK->Prop:=λx lo hi H Q=>∃z,x=.str z/\z.length<=sizeLine/\Q (.str (Txt.slice z lo hi)) H
theorem wX:SlR X rSlS:=by
 intro dl s Z H x v vl vu lo hi sl Q I rx hs pl pu h;obtain⟨z,rfl,hz,q⟩:=h;obtain⟨t,rfl⟩:=rx;refine⟨"str",_,F.slot_str_getitem.lookup,typeIs_str _ _ _,?_⟩;obtain⟨o,ho,hc,hd⟩:=hs;cases pl with
 |none=>
  cases pu with
  |none=>exact wpAny_getItem_str_slice (l:=none) (u:=none) (st:=none) ⟨o,ho,hc,hd⟩ rfl (post_val_or_str ⟨Nat.le_trans (Txt.slice_le z none none) hz,λt' k=>⟨.str (Txt.slice z none none),H,I.tok k,⟨t',rfl⟩,q⟩⟩)
  |int j uj=>exact wpAny_getItem_str_slice (l:=none) (u:=some (j,uj)) (st:=none) ⟨o,ho,hc,hd⟩ rfl (post_val_or_str ⟨Nat.le_trans (Txt.slice_le z none (some j)) hz,λt' k=>⟨.str (Txt.slice z none (some j)),H,I.tok k,⟨t',rfl⟩,q⟩⟩)
 |int i ui=>
  cases pu with
  |none=>exact wpAny_getItem_str_slice (l:=some (i,ui)) (u:=none) (st:=none) ⟨o,ho,hc,hd⟩ rfl (post_val_or_str ⟨Nat.le_trans (Txt.slice_le z (some i) none) hz,λt' k=>⟨.str (Txt.slice z (some i) none),H,I.tok k,⟨t',rfl⟩,q⟩⟩)
  |int j uj=>exact wpAny_getItem_str_slice (l:=some (i,ui)) (u:=some (j,uj)) (st:=none) ⟨o,ho,hc,hd⟩ rfl (post_val_or_str ⟨Nat.le_trans (Txt.slice_le z (some i) (some j)) hz,λt' k=>⟨.str (Txt.slice z (some i) (some j)),H,I.tok k,⟨t',rfl⟩,q⟩⟩)
def rSl (K:`F):V->Option Int->Option Int->Hp->VK->Prop:=λx lo hi H Q=>rSlL K x lo hi H Q\/rSlS x lo hi H Q
theorem wY:SlR X (rSl X.K):=ki.or wX
def rIndex:V->`V->Hp->VK->Prop:=λx vs H Q=>match x,vs with
 |.str z,[.str y]=>∃i r,Builtin.Str.occurrences z y 0 z.length 1=i::r/\Q (.int (i:Nat)) H
 |_,_=>False
theorem wZ {z y:Str}{H:Hp}{Q:VK}:(rIndex (.str z) [.str y] H Q)=(∃i r,Builtin.Str.occurrences z y 0 z.length 1=i::r/\Q (.int (i:Nat)) H):=rfl
theorem wa:MtR X "str.index" rIndex:=by
 intro pins s Z H x vs v us Q I rx rv h;unfold rIndex at h;split at h
 rotate_left
 .exact h.elim
 rename_i z y;obtain⟨i,r,ho,q⟩:=h;obtain⟨t,rfl⟩:=rx;obtain⟨u,rfl,t',rfl⟩:=vals1 rv;exact SC.index ho ⟨.int (i:Nat),H,I.tok _,`o,q⟩
theorem notTooLong {n:Nat}(h:n<=1000000):Builtin.Str.tooLong n=false:=by unfold Builtin.Str.tooLong;rw[sizeLine_eq];exact decide_eq_false `l
def rUpper:V->`V->Hp->VK->Prop:=λx vs H Q=>match x,vs with
 |.str z,[]=>(∀c∈z.cps.toList,c < 128)/\z.length<=1000000/\Q (.str ⟨z.cps.map up1⟩) H
 |_,_=>False
def rLower:V->`V->Hp->VK->Prop:=λx vs H Q=>match x,vs with
 |.str z,[]=>(∀c∈z.cps.toList,c < 128)/\z.length<=1000000/\Q (.str ⟨z.cps.map lo1⟩) H
 |_,_=>False
theorem wc {z:Str}{H:Hp}{Q:VK}:(rLower (.str z) [] H Q)=((∀c∈z.cps.toList,c < 128)/\z.length<=1000000/\Q (.str ⟨z.cps.map lo1⟩) H):=rfl
theorem ku:MtR X "str.lower" rLower:=by
 intro dl s Z H x vs v us Q I rx rv h;unfold rLower at h;split at h
 rotate_left
 .exact h.elim
 rename_i z;obtain⟨ha,hz,q⟩:=h;obtain⟨t,rfl⟩:=rx;cases rv;have e:=lower_ascii ha;refine SC.lower ?_ ⟨.str ⟨z.cps.map lo1⟩,H,I.tok _,⟨_,by rw[e]⟩,q⟩;rw[e];exact notTooLong (by show (z.cps.map lo1).size<=_;rw[Array.size_map];exact hz)
theorem wd {ys:List Str}:∀{us:List Value},Vals (ys.map V.str) us->StrsAre us ys:=by
 induction ys with
 |nil=>intro us r;rw[map_nil] at r;cases r;exact .nil
 |cons y ys ih=>
  intro us r;rw[map_cons] at r;cases r with
  |cons r1 r2=>obtain⟨t,e⟩:=r1;subst e;exact .cons y t (ih r2)
def rJoin (K:`F):V->`V->Hp->VK->Prop:=λx vs H Q=>∃z p ys,x=.str z/\vs=[.ref p]/\SqL K H p (ys.map V.str)/\(ys.map (·.length)).sum+ys.length * z.length<=16777216/\Q (.str (Txt.join z ys)) H
theorem we:MtR X "str.join" (rJoin X.K):=by intro pins s Z H x vs v us Q I rx rv h;obtain⟨z,p,ys,rfl,rfl,hq,hz,q⟩:=h;obtain⟨t,rfl⟩:=rx;obtain⟨u,rfl,ru⟩:=vals1 rv;cases ru;obtain⟨its,r,pl,hl⟩:=I.list hq;exact join_list pl.isList (by simpa using wd r) hz λt' k=>⟨.str (Txt.join z ys),H,I.tok k,⟨t',rfl⟩,q⟩
def rIsi (K:`F):`V->Hp->VK->Prop:=λvs H Q=>∃x T t b,vs=[x,.ty T]/\TyOf K H x t/\PySem.W.kitOne K t (.type T)=some b/\Q (.bl b) H
theorem wg:CallR X (.builtin "isinstance") (rIsi X.K):=by intro pins s Z H xs us Q I r h;obtain⟨x,T,t,b,rfl,ty,e,q⟩:=h;obtain⟨u,v,rfl,ru,rv⟩:=vals2 r;cases (show v=Value.type T from rv);exact vc I ru ty e λtk=>⟨.bl b,H,I.tok tk,rfl,q⟩
def rCatD:R2:=λx y H Q=>∃a b xs ys,x=.ref a/\y=.ref b/\H a=some (.tup xs)/\H b=some (.tup ys)/\`x+ys.length<=sizeLine/\∀p H',Same H H'->H' p=some (.tup (xs++ys))->Q (.ref p) H'
theorem wj:OpR X (binaryOp .Add) rCatD:=by
 intro dl s Z H x y v u Q I rx ry h;obtain⟨a,b,xs,ys,rfl,rfl,ha,hb,hz,q⟩:=h;by_cases hx:xs=[]
 .subst hx;cases rx;cases ry;obtain⟨Ge,r1,p1,_⟩:=I.tuple (SqT.of ha);obtain⟨mt,r2,p2,_⟩:=I.tuple (SqT.of hb);cases r1;obtain⟨⟨cls,dd,Gc,sl⟩,ho,hc,n,hd⟩:=id p1;obtain⟨⟨Gd,Gb,Fr,Ga⟩,BT,Fn,n2,Cl⟩:=id p2;simp only at hc hd Fn Cl;subst hc hd Fn Cl;exact concat_meets ⟨_,ho,rfl⟩ ⟨_,BT,rfl⟩ noFill_tuple_add seq_tuple_add PySem.F.slot_tuple_add PySem.F.entry_tuple_add (PySem.F.args_tuple_add_2 _ _)
   (tuple_addW0 a b ([]:List Value).toArray mt.toArray n n2 dd Gb sl Ga rfl) ⟨ho,BT,⟨.ref b,H,I,rfl,q b H `r hb⟩⟩
 .refine kf dl s Z H _ _ v u Q I rx ry ⟨a,b,xs,ys,rfl,rfl,SqT.of ha,SqT.of hb,hx,hz,λe=>q a H `r (by rw[e,append_nil];exact ha),λ_ p hp=>q p _ (λb o e=>by rw[aD (aG e hp)];exact e) aB⟩
def rAddU (K:`F):R2:=λx y H Q=>match x,y with
 |.int i,.int j=>Q (.int (i+j)) H
 |.str i,.str j=>i.length+j.length<=sizeLine/\Q (.str (i++j)) H
 |.ref a,.ref b=>(∃xs zs,H a=some (.lst xs)/\H b=some (.lst zs)/\`x+zs.length<=sizeLine/\∀p,H p=none->Q (.ref p) (upd H p (.lst (xs++zs))))\/
   (∃xs ys,H a=some (.tup xs)/\H b=some (.tup ys)/\`x+ys.length<=sizeLine/\∀p H',Same H H'->H' p=some (.tup (xs++ys))->Q (.ref p) H')
 |_,_=>False
theorem ky:OpR X (binaryOp .Add) (rAddU X.K):=by
 intro dl s Z H x y v u Q I rx ry h;cases x with
 |int i=>
  cases y with
  |int j=>exact uy dl s Z H _ _ v u Q I rx ry h
  |_=>exact h.elim
 |str i=>
  cases y with
  |str j=>exact vO dl s Z H _ _ v u Q I rx ry ⟨i,j,rfl,rfl,h.1,h.2⟩
  |_=>exact h.elim
 |ref a=>
  cases y with
  |ref b=>
   rcases h with⟨xs,zs,h1,h2,h3,h4⟩|⟨xs,ys,h1,h2,h3,h4⟩
   .exact wM dl s Z H _ _ v u Q I rx ry ⟨a,b,xs,zs,rfl,rfl,h1,h2,h3,h4⟩
   .exact wj dl s Z H _ _ v u Q I rx ry ⟨a,b,xs,ys,rfl,rfl,h1,h2,h3,h4⟩
  |_=>exact h.elim
 |_=>exact h.elim
theorem wk {K:`F}{i j:Int}{H:Hp}{Q:VK}:(rAddU K (.int i) (.int j) H Q)=(Q (.int (i+j)) H):=rfl
theorem gz {K:`F}{i j:Str}{H:Hp}{Q:VK}:(rAddU K (.str i) (.str j) H Q)=(i.length+j.length<=sizeLine/\Q (.str (i++j)) H):=rfl
end
section
variable {X:Cx}
def rMulU:R2:=λx y H Q=>match x,y with
 |.int i,.int j=>CMul i j/\Q (.int (i * j)) H
 |.str z,.int k=>MulOk z k/\Q (.str (Txt.mul z k)) H
 |_,_=>False
theorem kz:OpR X (binaryOp .Mult) rMulU:=by
 intro dl s Z H x y v u Q I rx ry h;cases x with
 |int i=>
  cases y with
  |int j=>exact vA dl s Z H _ _ v u Q I rx ry h
  |_=>exact h.elim
 |str z=>
  cases y with
  |int k=>obtain⟨t,rfl⟩:=rx;obtain⟨t',rfl⟩:=ry;exact SB.mul h.1 λt' k'=>⟨.str (Txt.mul z k),H,I.tok k',⟨t',rfl⟩,h.2⟩
  |_=>exact h.elim
 |_=>exact h.elim
theorem wm {i j:Int}{H:Hp}{Q:VK}:(rMulU (.int i) (.int j) H Q)=(CMul i j/\Q (.int (i * j)) H):=rfl
def rLenU (K:`F):`V->Hp->VK->Prop:=λxs H Q=>match xs with
 |[.str z]=>z.length<=sizeLine/\Q (.int z.length) H
 |[.ref p]=>∃ys,(SqL K H p ys\/SqT K H p ys)/\Q (.int ys.length) H
 |_=>False
theorem wn:CallR X (.builtin "len") (rLenU X.K):=by
 intro pins s Z H xs us Q I r h;unfold rLenU at h;split at h
 .exact wG pins s Z H _ us Q I r ⟨_,rfl,h.1,h.2⟩
 .obtain⟨ys,h1,h2⟩:=h;exact wF pins s Z H _ us Q I r ⟨_,ys,rfl,h1,h2⟩
 .exact h.elim
theorem wo {K:`F}{z:Str}{H:Hp}{Q:VK}:(rLenU K [.str z] H Q)=(z.length<=sizeLine/\Q (.int z.length) H):=rfl
theorem wp {K:`F}{p:Addr}{H:Hp}{Q:VK}:(rLenU K [.ref p] H Q)=(∃ys,(SqL K H p ys\/SqT K H p ys)/\Q (.int ys.length) H):=rfl
def rOrdU:`V->Hp->VK->Prop:=λxs H Q=>match xs with
 |[.str z]=>z.length=1/\Q (.int (z.cps.getD 0 0:Nat)) H
 |_=>False
theorem wq:CallR X (.builtin "ord") rOrdU:=by
 intro pins s Z H xs us Q I r h;unfold rOrdU at h;split at h
 .exact vQ pins s Z H _ us Q I r ⟨_,rfl,h.1,h.2⟩
 .exact h.elim
theorem wt {c:Nat}{H:Hp}{Q:VK}:rOrdU [.str ⟨#[c]⟩] H Q↔Q (.int (c:Nat)) H:=⟨λh=>h.2,λh=>⟨rfl,h⟩⟩
theorem l7:bootBuiltins "int"=some (.type "int"):=`k
theorem l8:bootBuiltins "str"=some (.type "str"):=`k
theorem wu:bootBuiltins "tuple"=some (.type "tuple"):=`k
theorem wv:bootBuiltins "isinstance"=some (.builtin "isinstance"):=`k
def rIntU:`V->Hp->VK->Prop:=λxs H Q=>match xs with
 |[.int i]=>Q (.int i) H
 |[.bl k]=>Q (.int (if k then 1 else 0)) H
 |_=>False
theorem ww:CallR X (.type "int") rIntU:=by
 intro pins s Z H xs us Q I r h;unfold rIntU at h;split at h
 .exact kL pins s Z H _ us Q I r (.inl ⟨_,rfl,h⟩)
 .exact kL pins s Z H _ us Q I r (.inr ⟨_,rfl,h⟩)
 .exact h.elim
theorem x6 {k:Bool}{H:Hp}{Q:VK}:(rIntU [.bl k] H Q)=(Q (.int (if k then 1 else 0)) H):=rfl
def rInU:R2:=λx y H Q=>match x,y with
 |.str i,.str j=>Q (.bl (!(Builtin.Str.occurrences j i 0 j.length 1).isEmpty)) H
 |_,_=>False
theorem h9:OpR X (compareOp .In) rInU:=by
 intro pins s Z H x y v u Q I rx ry h;cases x with
 |str i=>
  cases y with
  |str j=>exact vI pins s Z H _ _ v u Q I rx ry ⟨i,j,rfl,rfl,h⟩
  |_=>exact h.elim
 |_=>exact h.elim
def rNotInU:R2:=λx y H Q=>match x,y with
 |.str i,.str j=>Q (.bl (!(!(Builtin.Str.occurrences j i 0 j.length 1).isEmpty))) H
 |_,_=>False
theorem hV:OpR X (compareOp .NotIn) rNotInU:=by
 intro pins s Z H x y v u Q I rx ry h;cases x with
 |str i=>
  cases y with
  |str j=>exact vL pins s Z H _ _ v u Q I rx ry ⟨i,j,rfl,rfl,h⟩
  |_=>exact h.elim
 |_=>exact h.elim
theorem x8 {c:Nat}{j:Str}{H:Hp}{Q:VK}:rInU (.str ⟨#[c]⟩) (.str j) H Q↔Q (.bl (decide (c∈j.cps.toList))) H:=by show Q (.bl (!(Builtin.Str.occurrences j ⟨#[c]⟩ 0 j.length 1).isEmpty)) H↔_;rw[StrLaws.found_one]
theorem x9 {c:Nat}{j:Str}{H:Hp}{Q:VK}:rNotInU (.str ⟨#[c]⟩) (.str j) H Q↔Q (.bl (!decide (c∈j.cps.toList))) H:=by show Q (.bl (!(!(Builtin.Str.occurrences j ⟨#[c]⟩ 0 j.length 1).isEmpty))) H↔_;rw[StrLaws.found_one]
def rIsN (neg:Bool):R2:=λx y H Q=>y=.non/\Q (.bl (if neg then !decide (x=.non) else decide (x=.non))) H
theorem xA:OpR X (compareOp .Is) (rIsN false):=λpins s Z H x y v u Q I rx ry h=>vJ pins s Z H x y v u Q I rx ry h
theorem xB:OpR X (compareOp .IsNot) (rIsN true):=λpins s Z H x y v u Q I rx ry h=>vK pins s Z H x y v u Q I rx ry h
theorem xC {x:V}{H:Hp}{Q:VK}:rIsN false x .non H Q↔Q (.bl (decide (x=.non))) H:=⟨λh=>h.2,λh=>⟨rfl,h⟩⟩
theorem xD {x:V}{H:Hp}{Q:VK}:rIsN true x .non H Q↔Q (.bl (!decide (x=.non))) H:=⟨λh=>h.2,λh=>⟨rfl,h⟩⟩
noncomputable def kindV (x:V)(H:Hp):Option String:=match x with
 |.non=>some "NoneType"
 |.bl _=>some "bool"
 |.int _=>some "int"
 |.str _=>some "str"
 |.ref a=>match H a with
  |some (.lst _)=>some "list"
  |some (.tup _)=>some "tuple"
  |some (.dK _)=>some "dict"
  |_=>none
 |_=>none
noncomputable def subT (a b:String):Bool:=a == b || (a == "bool" && b == "int")
theorem xE (K:`F):∀a∈["NoneType","bool","int","str","list","tuple","dict"],∀b∈["bool","int","str","list","tuple"],PySem.W.kitOne K (.type a) (.type b)=some (subT a b):=by intro a ha b hb;simp only[mem_cons,not_mem_nil,or_false] at ha hb;rcases ha with rfl|rfl|rfl|rfl|rfl|rfl|rfl <;> rcases hb with rfl|rfl|rfl|rfl|rfl <;> with_unfolding_all kernel_rfl
def rIsiU:`V->Hp->VK->Prop:=λvs H Q=>match vs with
 |[x,.ty T]=>∃k,kindV x H=some k/\T∈["bool","int","str","list","tuple"]/\Q (.bl (subT k T)) H
 |_=>False
theorem l9:CallR X (.builtin "isinstance") rIsiU:=by
 intro dl s Z H xs us Q I r h;unfold rIsiU at h;split at h
 .rename_i x T;obtain⟨k,hk,hT,q⟩:=h;have mt:TyOf X.K H x (.type k)/\k∈["NoneType","bool","int","str","list","tuple","dict"]:=by
   unfold kindV at hk;split at hk
   .cases hk;exact⟨.non,`d⟩
   .cases hk;exact⟨.bl _,`d⟩
   .cases hk;exact⟨.int _,`d⟩
   .cases hk;exact⟨.str _,`d⟩
   .split at hk
    .rename_i e;cases hk;exact⟨.lst e,`d⟩
    .rename_i e;cases hk;exact⟨.tup e,`d⟩
    .rename_i e;cases hk;exact⟨.dK e,`d⟩
    .cases hk
   .cases hk
  exact wg dl s Z H _ us Q I r ⟨x,T,.type k,subT k T,rfl,mt.1,xE X.K k mt.2 T hT,q⟩
 .exact h.elim
end
section
variable {Z:St}{H:Hp}{Q:VK}{D:Ends}{K:`F}{ta tb te:TE}{tt tu:TT}{t u:TS}{aa ab:TA}{v x y:V}{r r':R2}
theorem xF {i:Nat}:(tVar i Z H Q)=(look i Z λv=>Q v H):=rfl
theorem rd_C:(tC v Z H Q)=(Q v H):=rfl
theorem lA:(tSeq t u D Z H)=(t {D with nx:=u D} Z H):=rfl
theorem xG {g:TG}:(tAsg te g D Z H)=(te Z H λx H1=>g x Z H1 D.nx):=rfl
def putS (i:Nat)(v:V)(Z:St)(k:St->Prop):Prop:=k (Z.set i (some v))
theorem xH {o:Option V}{k:St->Prop}:putS 0 v (o::Z) k=k (some v::Z):=rfl
theorem xI {i:Nat}{o:Option V}{k:St->Prop}:putS (i+1) v (o::Z) k=putS i v Z λl=>k (o::l):=rfl
theorem xJ {i:Nat}{R:St->Hp->Prop}:(gName i v Z H R)=(putS i v Z λl=>R l H):=rfl
theorem xK {b:Bool}{p:Bool->Prop}:(∃k,V.bl b=V.bl k/\p k)=p b:=propext ⟨λ⟨_,e,h⟩=>by cases e;exact h,λh=>⟨_,rfl,h⟩⟩
theorem xL:(tIfS tt t u D Z H)=(tt Z H λb H1=>if b=true then t D Z H1 else u D Z H1):=rfl
theorem xM:(tNext D Z H)=(D.nx Z H):=rfl
theorem xN:(tRet te D Z H)=(te Z H D.rt):=rfl
theorem xO:(tDrop te D Z H)=(te Z H λ_ H1=>D.nx Z H1):=rfl
theorem xP:(tOp r ta tb Z H Q)=(ta Z H λx H1=>tb Z H1 λy H2=>r x y H2 Q):=rfl
theorem xQ {R:Bool->Hp->Prop}:(tTest te Z H R)=(te Z H λx H'=>∃k,x=.bl k/\R k H'):=rfl
theorem rd_B {R:Bool->Hp->Prop}:(tB te Z H R)=(te Z H λx H'=>∃k,x=.bl k/\R k H'):=rfl
theorem xR {R:Bool->Hp->Prop}:(tAnd tt tu Z H R)=(tt Z H λc H1=>if c=true then tu Z H1 R else R false H1):=rfl
theorem xS {R:Bool->Hp->Prop}:(tOr tt tu Z H R)=(tt Z H λc H1=>if c=true then R true H1 else tu Z H1 R):=rfl
theorem xT {R:Bool->Hp->Prop}:(tNot tt Z H R)=(tt Z H λc H1=>R (!c) H1):=rfl
theorem xU:(tAndV ta tb Z H Q)=(ta Z H λx H1=>∃c,x=.bl c/\if c=true then tb Z H1 Q else Q (.bl false) H1):=rfl
theorem xV:(tOrV ta tb Z H Q)=(ta Z H λx H1=>∃c,x=.bl c/\if c=true then Q (.bl true) H1 else tb Z H1 Q):=rfl
theorem xW:(tNotV ta Z H Q)=(ta Z H λx H1=>∃c,x=.bl c/\Q (.bl (!c)) H1):=rfl
theorem xX:(tIf tt ta tb Z H Q)=(tt Z H λc H1=>if c=true then ta Z H1 Q else tb Z H1 Q):=rfl
theorem xY {tc:TE}:(tChain r r' ta tb tc Z H Q)=(ta Z H λx H1=>tb Z H1 λy H2=>r x y H2 λz H3=>∃k,z=.bl k/\(if k=true then tc Z H3 λw' H4=>r' y w' H4 Q else Q (.bl false) H3)):=rfl
theorem xZ {R:`V->Hp->Prop}:(tNil Z H R)=(R [] H):=rfl
theorem xb {R:`V->Hp->Prop}:(tCons te aa Z H R)=(te Z H λx H1=>aa Z H1 λxs H2=>R (x::xs) H2):=rfl
theorem xc:(tLst aa Z H Q)=(aa Z H λxs H1=>`x<=sizeLine/\∀p,H1 p=none->Q (.ref p) (upd H1 p (.lst xs))):=rfl
theorem xf {sp:Sp}{dvs:`V}{E:XK}:(tCall sp dvs E aa Z H Q)=(aa Z H λvs H1=>sp (vs++dvs) H1 Q E):=rfl
theorem xg {c:`V->Hp->VK->Prop}:(tCB c aa Z H Q)=(aa Z H λvs H1=>c vs H1 Q):=rfl
theorem xh {T:String}{m:V->`V->Hp->VK->Prop}:(tBM K T m te aa Z H Q)=(te Z H λx H1=>tyV K T x H1/\aa Z H1 λxs H2=>m x xs H2 Q):=rfl
theorem xi {T:String}{m:V->`V->Hp->VK->Prop}:(tBM0 K T m te Z H Q)=(te Z H λx H1=>tyV K T x H1/\m x [] H1 Q):=rfl
theorem xj {m:V->Option Int->Option Int->Hp->VK->Prop}{tl th:TO}:(tSl m te tl th Z H Q)=(te Z H λx H1=>tl Z H1 λl H2=>th Z H2 λu H3=>m x l u H3 Q):=rfl
theorem xk {R:Option Int->Hp->Prop}:(tNoPart Z H R)=(R none H):=rfl
theorem xl {R:Option Int->Hp->Prop}:(tPart te Z H R)=(te Z H λx H1=>∃i,x=.int i/\R (some i) H1):=rfl
theorem xn {z:Str}:tyV K "str" (.str z) H↔True:=⟨λ_=>trivial,λ_=>rfl⟩
theorem rd_I {C:Int->Int->Prop}{g:Int->Int->V}{i j:Int}:(rI C g (.int i) (.int j) H Q)=(C i j/\Q (g i j) H):=rfl
theorem xo {g:Int->Int->V}{i j:Int}:(rI0 g (.int i) (.int j) H Q)=(Q (g i j) H):=rfl
theorem lB {α β:Type}{f:α->β}{a:α}{l:List α}:List.map f (a::l)=f a::List.map f l:=rfl
theorem lC {α β:Type}{f:α->β}:List.map f []=[]:=rfl
theorem xp {p:Prop}[Decidable p]{a b:Prop}:(if decide p=true then a else b)=(if p then a else b):=by simp only[decide_eq_true_eq]
theorem i6 {i j:Int}:rEq (.int i) (.int j) H Q↔Q (.bl (decide (i=j))) H:=by unfold rEq scal;simp only[true_and,V.int.injEq]
theorem aF {i j:Str}:rEq (.str i) (.str j) H Q↔Q (.bl (decide (i=j))) H:=by unfold rEq scal;simp only[true_and,V.str.injEq]
theorem xr {i j:Int}:rNe (.int i) (.int j) H Q↔Q (.bl (!decide (i=j))) H:=by unfold rNe scal;simp only[true_and,V.int.injEq]
theorem bP {i j:Str}:rNe (.str i) (.str j) H Q↔Q (.bl (!decide (i=j))) H:=by unfold rNe scal;simp only[true_and,V.str.injEq]
theorem i7 {i j:Bool}:rNe (.bl i) (.bl j) H Q↔Q (.bl (!decide (i=j))) H:=by unfold rNe scal;simp only[true_and,V.bl.injEq]
theorem xt {z:Str}{i:Int}:rIx K (.str z) (.int i) H Q↔∃c,z.length<=sizeLine/\atI z.cps.toList i=some c/\Q (.str ⟨#[c]⟩) H:=by
 constructor
 .rintro (⟨p,xs,j,v,h,_⟩|⟨p,xs,j,v,h,_⟩|⟨z',j,c,h1,h2,h3,h4,h5⟩)
  .cases h
  .cases h
  .cases h1;cases h2;exact⟨c,h3,h4,h5⟩
 .rintro⟨c,h3,h4,h5⟩;exact .inr (.inr ⟨z,i,c,rfl,rfl,h3,h4,h5⟩)
theorem lD {z:Str}{lo hi:Option Int}:rSl K (.str z) lo hi H Q↔z.length<=sizeLine/\Q (.str (Txt.slice z lo hi)) H:=by
 constructor
 .rintro (⟨a,xs,h,_⟩|⟨z',h1,h2,h3⟩)
  .cases h
  .cases h1;exact⟨h2,h3⟩
 .rintro⟨h2,h3⟩;exact .inr ⟨z,rfl,h2,h3⟩
end
section
variable {Z:St}{H:Hp}{Q:VK}{K:`F}
theorem xu {a:Addr}{lo hi:Option Int}:rSl K (.ref a) lo hi H Q↔∃xs,SqL K H a xs/\∀p,H p=none->Q (.ref p) (upd H p (.lst (cutV xs lo hi))):=by
 constructor
 .rintro (⟨a',xs,h,h2⟩|⟨z',h1,_⟩)
  .cases h;exact⟨xs,h2⟩
  .cases h1
 .rintro⟨xs,h2⟩;exact .inl ⟨a,xs,rfl,h2⟩
inductive IxE (K:`F)(H:Hp)(p:Addr)(i:Int)(Q:V->Prop):Prop
 |mk (xs:`V) (v:V) (h:SqL K H p xs\/SqT K H p xs) (a:atI xs i=some v) (q:Q v):IxE K H p i Q
theorem xv {p:Addr}{i:Int}:rIx K (.ref p) (.int i) H Q↔IxE K H p i λv=>Q v H:=by
 constructor
 .rintro (⟨p',xs,j,v,h,h2,h3,h4,h5⟩|⟨p',xs,j,v,h,h2,h3,h4,h5⟩|⟨z',j,c,h1,_⟩)
  .cases h;cases h2;exact⟨xs,v,.inl h3,h4,h5⟩
  .cases h;cases h2;exact⟨xs,v,.inr h3,h4,h5⟩
  .cases h1
 .rintro⟨xs,v,h|h,h2,h3⟩
  .exact .inl ⟨p,xs,i,v,rfl,rfl,h,h2,h3⟩
  .exact .inr (.inl ⟨p,xs,i,v,rfl,rfl,h,h2,h3⟩)
def V.ofRS (x:V)(k:Addr->Prop)(m:Str->Prop):Prop:=match x with|.ref p=>k p|.str z=>m z|_=>False
def rIy (K:`F):R2:=λx y H Q=>y.ofI λi=>x.ofRS (λp=>IxE K H p i λv=>Q v H) λz=>∃c,z.length<=sizeLine/\atI z.cps.toList i=some c/\Q (.str ⟨#[c]⟩) H
theorem xw {x y:V}(h:rIy K x y H Q):rIx K x y H Q:=by
 obtain⟨i,rfl,h1⟩:=bp h;cases x with
 |ref p=>exact xv.mpr h1
 |str z=>exact xt.mpr h1
 |_=>exact False.elim h1
theorem i8 {p:Addr}{i:Int}:(rIy K (.ref p) (.int i) H Q)=(IxE K H p i λv=>Q v H):=rfl
theorem xx {z:Str}{i:Int}:(rIy K (.str z) (.int i) H Q)=(∃c,z.length<=sizeLine/\atI z.cps.toList i=some c/\Q (.str ⟨#[c]⟩) H):=rfl
theorem cx_K {CX:CXT}{P:Program}{w:World}{mg:Str->Option Value}{base:Heap}{N:List Str}{qual:Str}{scope:Scope}{f:Addr}{cd:Value}{A:Around}{outer:List Env}{s:Shared}{E:XK} :
  (cxOf CX P w K mg base N qual scope f cd A outer s H E).K=K:=rfl
end
def LoopI (J:It)(g:TG)(tb:TS)(D:Ends)(Z:St)(H:Hp):Prop:=∃W:Nat->Nat->St->Hp->Prop,(∃m,W 0 m Z H)/\∀i m Z H,W i m Z H ->
 (J.stop i H/\D.nx Z H)\/(J.go i H/\∃N:St->Hp->Prop,(∀Z' H',N Z' H'->∃m',m' < m/\W (i+1) m' Z' H')/\∀x H',J.yld i H x H'->g x Z H' λZ2 H2=>tb {D with nx:=N,ct:=N,bk:=D.nx} Z2 H2)
section
variable {Z:St}{H:Hp}{D:Ends}{K:`F}{te:TE}{g:TG}{tb:TS}{aa:TA}
theorem xy:(tFor (iStr te) g tb D Z H)=(te Z H λx H1=>∃z,x=.str z/\LoopI (Its z) g tb D Z H1):=rfl
theorem xz:(tFor (iList K te) g tb D Z H)=(te Z H λx H1=>∃a,x=.ref a/\(∃xs,SqL K H1 a xs)/\LoopI (Itl K a) g tb D Z H1):=rfl
theorem y6:(tFor (iRng1 aa) g tb D Z H)=(aa Z H λvs H1=>∃j:Int,vs=[.int j]/\-(2 ^ 62)<=j/\j < 2 ^ 62/\LoopI (Itr 0 j.toNat) g tb D Z H1):=rfl
theorem y8 {z:Str}(Pv:Nat->St->Hp->Prop)(h0:Pv 0 Z H)
  (hs:∀i c Z H,z.cps.toList[i]?=some c->Pv i Z H->g (.str ⟨#[c]⟩) Z H λZ2 H2=>tb {D with nx:=Pv (i+1),ct:=Pv (i+1),bk:=D.nx} Z2 H2) (hd:∀Z H,Pv z.length Z H->D.nx Z H):LoopI (Its z) g tb D Z H:=wW Pv h0 hs hd
theorem cG {a:Addr}{xs:`V}(Pv:Nat->St->Hp->Prop)(h0:Pv 0 Z H)(hl:∀i Z H,i<=`x->Pv i Z H->SqL K H a xs)
  (hs:∀i x Z H,xs[i]?=some x->Pv i Z H->g x Z H λZ2 H2=>tb {D with nx:=Pv (i+1),ct:=Pv (i+1),bk:=D.nx} Z2 H2) (hd:∀Z H,Pv `x Z H->D.nx Z H):LoopI (Itl K a) g tb D Z H:=ut Pv h0 hl hs hd
theorem br {lo:Int}{n:Nat}(Pv:Nat->St->Hp->Prop)(h0:Pv 0 Z H)
  (hs:∀i Z H,i < n->Pv i Z H->g (.int (lo+i)) Z H λZ2 H2=>tb {D with nx:=Pv (i+1),ct:=Pv (i+1),bk:=D.nx} Z2 H2) (hd:∀Z H,Pv n Z H->D.nx Z H):LoopI (Itr lo n) g tb D Z H:=uv Pv h0 hs hd
end
section
variable {prog:Program}{w:World}{A:Around}{R:Result->Shared->Prop}{s:Shared}
theorem y9 {elt target iter:Expr}{ifs:List Expr}{scope:Scope}{pos:Pos}{it acc:Value}{env:Env}(I:Nat->Shared->Prop)
  (turn:∀n s,I n s->wpAny `M A (pyNext it) (λr s₁=>match r with
   |none=>R (.ok .next) s₁
   |some v=>wpAny `M A (letOwnedTupleGo target it v) (λ_ s₁'=>wpAny `M A (assign target env v) (λ_ s₂=>
     wpAny `M A (forIn ifs true λc r=>if r=true then do let ok <- isTrue c env (eval c env);pure (ForInStep.yield ok) else pure (ForInStep.yield r)) (λok s₃=>
      if ok=true then wpAny `M A (eval elt env) (λx s₄=>
       wpAny `M A (call (.builtin "list.append") [acc,x]) (λ_ s₅=>∃m,m < n/\I m s₅) (λ_ _=>False) s₄) (λ_ _=>False) s₃
      else ∃m,m < n/\I m s₃) (λ_ _=>False) s₂) (λ_ _=>False) s₁') (λ_ _=>False) s₁) (λ_ _=>False) s)
  (n:Nat) (h:I n s):codeAny `M A (.compLoop (.ListComp elt [⟨target,iter,ifs,0⟩] scope pos) 0 it acc env) R s:=by
 refine codeAny_loop rfl I (λn s hI=>?_) n h;show wpAny _ A ((compTurn (.ListComp elt [⟨target,iter,ifs,0⟩] scope pos) 0 it acc env).onRaise (λx=>do noteFrame x env;theTreesLotGoes x)) _ _ s;refine wpAny_noted ?_;rw[compTurn_list];refine wpAny_bind (wpAny_standAt (wpAny_bind (wpAny_mono (turn n s hI) (λr s₁ h₁=>?_) λ_ _ h'=>h'.elim)));cases r with
 |none=>exact wpAny_pure h₁
 |some v=>
  refine wpAny_bind (wpAny_mono h₁ (λ_ s₁' dl=>wpAny_bind (wpAny_mono dl (λ_ s₂ h₂=>wpAny_bind (wpAny_mono h₂ (λok s₃ h₃=>?_) λ_ _ h'=>h'.elim)) λ_ _ h'=>h'.elim)) λ_ _ h'=>h'.elim);cases ok with
  |false=>exact wpAny_pure ⟨rfl,h₃⟩
  |true=>exact wpAny_bind (wpAny_bind (wpAny_mono h₃ (λx s₄ h₄=>wpAny_bind (wpAny_mono h₄ (λ_ s₅ h₅=>wpAny_pure (wpAny_pure ⟨rfl,h₅⟩)) λ_ _ h'=>h'.elim)) λ_ _ h'=>h'.elim))
end
noncomputable def compCx (X:Cx)(N':List Str)(scope:Scope)(cl:List (Str×Addr))(s:Shared)(H:Hp)(fp:List Addr):Cx:=
 { X with N:=N',s₀:=s,H₀:=H,env:=compEnvC scope cl `z X.env,outer:=X.stack,stack:=X.stack,ex:=fp,fn:=λ_=>false,pn:=[],xe:=λ_ _=>False}
inductive Frees (X:Cx)(rs:Scope)(cl:List (Str×Addr)):List Str->Tq->Prop where
 |nil:Frees X rs cl [] []
 |cons {y:Str}{i:Nat}{fx:List Str}{fr:Tq} (h1:X.N[i]?=some y) (h2:X.env.kindOf y=some .cell) (h3:rs.names.lookup y=some .cell) (h4:cl.lookup y=X.env.cells.lookup y) (r:Frees X rs cl fx fr):Frees X rs cl (y::fx) (i::fr)
noncomputable def frV (Z:St)(fr:Tq):St:=fr.map λi=>(Z[i]?).getD none
theorem Frees.len {X:Cx}{rs:Scope}{cl:List (Str×Addr)}{fx:List Str}{fr:Tq}(F:Frees X rs cl fx fr):fr.length=fx.length:=by
 induction F with
 |nil=>rfl
 |cons _ _ _ _ _ ih=>simp[ih]
theorem Frees.at {X:Cx}{rs:Scope}{cl:List (Str×Addr)}{Z:St}{fx:List Str}{fr:Tq}(F:Frees X rs cl fx fr):∀(j:Nat) (y:Str) (v:V),fx[j]?=some y->(frV Z fr)[j]?=some (some v) ->
  ∃i:Nat,X.N[i]?=some y/\Z[i]?=some (some v)/\X.env.kindOf y=some .cell/\rs.names.lookup y=some .cell/\cl.lookup y=X.env.cells.lookup y:=by
 induction F with
 |nil=>intro j y v h _;cases h
 |@cons z i fx fr h1 h2 h3 h4 r ih=>
  intro j y v h hv;cases j with
  |zero=>
   cases h;refine⟨i,h1,?_,h2,h3,h4⟩;have hv:some ((Z[i]?).getD none)=some (some v):=hv;cases e:Z[i]? with
   |none=>rw[e] at hv;cases hv
   |some o=>rw[e] at hv;exact hv
  |succ j=>exact ih j y v h hv
theorem Frees.mem {X:Cx}{rs:Scope}{cl:List (Str×Addr)}{fx:List Str}{fr:Tq}(F:Frees X rs cl fx fr):∀y∈fx,X.env.kindOf y=some .cell/\cl.lookup y=X.env.cells.lookup y:=by
 induction F with
 |nil=>intro y h;cases h
 |cons h1 h2 h3 h4 r ih=>
  intro y h;rcases mem_cons.mp h with rfl|h
  .exact⟨h2,h4⟩
  .exact ih y h
section
variable {X:Cx}{pins:`O}{Z:St}{H1:Hp}{s3:Shared}{x:Str}{fx:List Str}{fr:Tq}{scope:Scope}{cl:List (Str×Addr)}{fp:List Addr}
theorem lE {N':List Str}{pins':`O}{Z':St}{H2:Hp}{s':Shared}{h':Heap}(I:Inv X pins Z H1 s3)(J:Inv (compCx X N' scope cl s3 H1 fp) pins' Z' H2 s')(ffp:∀b∈fp,FpOk X pins H1 b)
  (sb:Heap.SameBut s3.heap.objs.size s'.heap h'):Inv X pins Z H2 {s' with heap:=h' }:=by
 have k:∀b u,b≠s3.heap.objs.size->s'.heap.get? b=some u->h'.get? b=some u:=λb u hb e=>sb.extBut b u hb e;have lt:∀b u,s3.heap.get? b=some u->b≠s3.heap.objs.size:=λb u e=>Nat.ne_of_lt (Heap.lt_size e);have u:Un (frs X.stack) fp H1 H2 s3.heap s'.heap:=J.base;have u':Un (frs X.stack) fp H1 H2 s3.heap h':=
  ⟨λb o q n hb hx=>k b o (lt b o q) (u.keep b o q n hb hx),λb o q n hb hx=>by
    obtain⟨sl,e⟩:=u.slot b o q n hb hx;exact⟨sl,k b _ (lt b o q) e⟩,u.free,λb o q hx=>by
    obtain⟨o',e⟩:=u.there b o q hx;exact⟨o',k b _ (lt b o q) e⟩,u.tups,u.frzs,u.tbls⟩
 have nC:H2 s3.heap.objs.size=none:=J.free;have mt:HOk X.prog X.w H2 h':=λb uo e=>by
  refine (J.hok b uo e).stay (λc v hc q=>k c v ?_ q) (λ_ q=>q) λ_ _ q=>q;rintro rfl;rcases hc with z|z
  .rw[<- z,nC] at e;cases e
  .rw[nC] at z;cases z
 have os:s'.os=s3.os:=J.os;have BT:=J.bare;obtain⟨hh,g,d,t,dl⟩:=s';obtain rfl:dl=s3.os:=os;have Cl:=I.call (h':=h') (g':=g) (d':=d) (t':=t) (ch:=fp) u' mt BT λb hb=>by obtain⟨f0,f1,f2,f3,f4,f5⟩:=ffp b hb;exact⟨f3,f1,f4,f5⟩
 exact Cl
end
def PF (X:Cx)(ifs:List Expr)(t:TT):Prop:=
 ∀(pins:`O) (s:Shared) (Z:St) (H:Hp) (Q:Bool->Hp->Prop),Inv X pins Z H s->t Z H Q ->
  wpAny `m X.A (forIn ifs true λc r=>if r=true then do let ok <- isTrue c X.env (eval c X.env);pure (ForInStep.yield ok) else pure (ForInStep.yield r)) (TP X pins Z Q) X.xe s
def tYes:TT:=λ_ H Q=>Q true H
theorem ae {X:Cx}:PF X [] tYes:=λ_ _ _ H _ I h=>wpAny_tests_nil ⟨H,I,h⟩
theorem bt {X:Cx}{c:Expr}{t:TT}(h:PT X c t):PF X [c] t:=λpins s Z H Q I q=>wpAny_tests_one (h pins s Z H Q I q)
def CompI (J:It)(p:Addr)(fv:St)(tt:TT)(te:TE)(Q:VK)(H1:Hp):Prop:=
 ∃W:Nat->Nat->`V->Hp->Prop,(∃m,W 0 m [] (upd H1 p (.lst [])))/\∀i m ys H2,W i m ys H2->H2 p=some (.lst ys)/\
  ((J.stop i H2/\Q (.ref p) H2)\/(J.go i H2/\ys.length < sizeLine/\∀x H3,J.yld i H2 x H3->tt (some x::fv) H3 λb H4=>
   if b=true then te (some x::fv) H4 λy H5=>H5 p=some (.lst ys)/\∃m',m' < m/\W (i+1) m' (ys++[y]) (upd H5 p (.lst (ys++[y])))
   else ∃m',m' < m/\W (i+1) m' ys H4))
def tComp (wi:TI)(fr:Tq)(tt:TT)(te:TE):TE:=λZ H Q=>wi Z H λJ H1=>∀p,H1 p=none->CompI J p (frV Z fr) tt te Q H1
section
variable {X:Cx}{elt iter:Expr}{x:Str}{px pos:Pos}{ifs:List Expr}{scope:Scope}{cl:List (Str×Addr)}{fx:List Str}{fr:Tq}{wi:TI}{tt:TT}{te:TE}
end
section
variable {p:Addr}{fv:St}{te:TE}{Q:VK}{H1:Hp}
theorem i9 {z:Str}(hz:z.length<=sizeLine)(hp:H1 p=none)(f:Nat->V)
  (he:∀c,c∈z.cps.toList->∀(H':Hp) (R:VK),(∀H'',Same H' H''->R (f c) H'')->te (some (.str ⟨#[c]⟩)::fv) H' R)
  (hQ:∀H',Same H1 H'->H' p=some (.lst (z.cps.toList.map f))->Q (.ref p) H'):CompI (Its z) p fv tYes te Q H1:=by
 have hl:z.cps.toList.length=z.length:=by simp[Str.length]
 refine⟨λi m ys H2=>m=z.length - i/\i<=z.length/\ys=(z.cps.toList.take i).map f/\H2 p=some (.lst ys)/\Same H1 H2,⟨z.length,`s,Nat.zero_le _,`s,aB,λb o e=>by rw[aD (aG e hp)];exact e⟩,?_⟩;rintro i m ys H2 ⟨rfl,hi,rfl,dl,sm⟩;refine⟨dl,?_⟩;by_cases mt:i < z.length
 .refine .inr ⟨mt,?_,λx H3 y=>?_⟩
  .rw[length_map,length_take];lia
  .obtain⟨rfl,c,hc,rfl⟩:=y;unfold tYes;dsimp only;rw[if_pos rfl];refine he c (mem_of_getElem? hc) _ _ λH5 s5=>⟨s5 _ _ dl,z.length - (i+1),`l,rfl,mt,?_,aB,λb o e=>?_⟩
   .rw[take_add_one,hc,map_append];rfl
   .rw[aD (aG e hp)];exact s5 _ _ (sm _ _ e)
 .have e:i=z.length:=by lia
  subst e;refine .inl ⟨Nat.le_refl _,hQ H2 sm ?_⟩;rw[dl,<- hl,take_length]
theorem lF {z:Str}{tt:TT}(hz:z.length<=sizeLine)(hp:H1 p=none)(g:Nat->Bool)(f:Nat->V)
  (ht:∀c,c∈z.cps.toList->∀(H':Hp) (R:Bool->Hp->Prop),(∀H'',Same H' H''->R (g c) H'')->tt (some (.str ⟨#[c]⟩)::fv) H' R)
  (he:∀c,c∈z.cps.toList->∀(H':Hp) (R:VK),(∀H'',Same H' H''->R (f c) H'')->te (some (.str ⟨#[c]⟩)::fv) H' R)
  (hQ:∀H',Same H1 H'->H' p=some (.lst ((z.cps.toList.filter g).map f))->Q (.ref p) H'):CompI (Its z) p fv tt te Q H1:=by
 have hl:z.cps.toList.length=z.length:=by simp[Str.length]
 refine⟨λi m ys H2=>m=z.length - i/\i<=z.length/\ys=((z.cps.toList.take i).filter g).map f/\H2 p=some (.lst ys)/\Same H1 H2,⟨z.length,`s,Nat.zero_le _,`s,aB,λb o e=>by rw[aD (aG e hp)];exact e⟩,?_⟩;rintro i m ys H2 ⟨rfl,hi,rfl,dl,sm⟩;refine⟨dl,?_⟩;by_cases mt:i < z.length
 .refine .inr ⟨mt,?_,λx H3 y=>?_⟩
  .rw[length_map];have:=length_filter_le g (z.cps.toList.take i);rw[length_take] at this;lia
  .obtain⟨rfl,c,hc,rfl⟩:=y;have et:z.cps.toList.take (i+1)=z.cps.toList.take i++[c]:=by rw[take_add_one,hc];rfl
   refine ht c (mem_of_getElem? hc) _ _ λH4 s4=>?_;cases hg:g c with
   |false=>rw[if_neg Bool.false_ne_true];refine⟨z.length - (i+1),`l,rfl,mt,?_,s4 _ _ dl,sm.trans s4⟩;rw[et,filter_append,filter_cons,hg];simp
   |true=>
    rw[if_pos rfl];refine he c (mem_of_getElem? hc) _ _ λH5 s5=>⟨s5 _ _ (s4 _ _ dl),z.length - (i+1),`l,rfl,mt,?_,aB,λb o e=>?_⟩
    .rw[et,filter_append,filter_cons,hg];simp
    .rw[aD (aG e hp)];exact s5 _ _ (s4 _ _ (sm _ _ e))
 .have e:i=z.length:=by lia
  subst e;refine .inl ⟨Nat.le_refl _,hQ H2 sm ?_⟩;rw[dl,<- hl,take_length]
end
section
variable {Z:St}{H:Hp}{Q:VK}{K:`F}{tl te:TE}{tt:TT}{fr:Tq}
theorem yA:frV Z []=[]:=rfl
theorem yB {i:Nat}{r:Tq}:frV Z (i::r)=(Z[i]?).getD none::frV Z r:=rfl
theorem yC {z:Str}{p:Addr}:rJoin K (.str z) [.ref p] H Q↔∃ys:List Str,SqL K H p (ys.map V.str)/\(ys.map (·.length)).sum+ys.length * z.length<=16777216/\Q (.str (Txt.join z ys)) H:=by
 constructor
 .rintro⟨z',p',ys,h1,h2,h3⟩;cases h1;cases h2;exact⟨ys,h3⟩
 .rintro⟨ys,h⟩;exact⟨z,p,ys,rfl,rfl,h⟩
theorem yD:(tComp (iStr tl) fr tt te Z H Q)=(tl Z H λx H1=>∃z,x=.str z/\∀p,H1 p=none->CompI (Its z) p (frV Z fr) tt te Q H1):=rfl
theorem yE:(tComp (iList K tl) fr tt te Z H Q)=(tl Z H λx H1=>∃a,x=.ref a/\(∃xs,SqL K H1 a xs)/\∀p,H1 p=none->CompI (Itl K a) p (frV Z fr) tt te Q H1):=rfl
end
section
variable {X:Cx}{K:`F}
theorem lG (h:X.K=K):OpR X (binaryOp .Add) (rAddU K):=by subst h;exact ky
theorem lH (h:X.K=K):IxR X (rIy K):=by subst h;exact λa b c d e f g i j k l m n o p=>w6 a b c d e f g i j k l m n o (xw p)
theorem lI (h:X.K=K):SlR X (rSl K):=by subst h;exact wY
theorem yF (h:X.K=K):CallR X (.builtin "len") (rLenU K):=by subst h;exact wn
theorem ce (h:X.K=K):MtR X "str.join" (rJoin K):=by subst h;exact we
theorem b9 {tg l:Expr}{tl:TE}(h:X.K=K)(hl:PE X l tl):PI X tg l (iList K tl):=by subst h;exact uh hl
variable {o e:Expr}{es:List Expr}{to:TE}{t:TA}{name:Str}{apos cpos:Pos}{T id:String}{r:V->`V->Hp->VK->Prop}
theorem iA (h:X.K=K)(pa:PlainAttrs T)(slot:Slot T name id)(hty:typeOf (.builtin id)=pure (.type "method_descriptor"))(hm:MtR X id r)(ho:PE X o to)
  (hbase:attributeBase o name X.env (eval o X.env)=eval o X.env:=by rfl) (hline:(apos.endLine == cpos.line)=true:=by rfl):PE X (.Call (.Attribute o name apos) [] [] cpos) (tBM0 K T r to):=by
 subst h;exact wI pa slot hty hm ho hbase hline
theorem aW (h:X.K=K)(pa:PlainAttrs T)(slot:Slot T name id)(hty:typeOf (.builtin id)=pure (.type "method_descriptor"))(hm:MtR X id r)(ho:PE X o to)(ha:PA X (e::es) t)
  (hbase:attributeBase o name X.env (eval o X.env)=eval o X.env:=by rfl)
  (hfew:((backTo cpos (starEach (e::es) X.env)).all (λx=>!x.1) && (backToKw cpos (keywordEach [] X.env)).all (λx=>x.1.isSome)
   && decide ((e::es).length+([]:List Keyword).length+(if ([]:List Keyword).isEmpty then 0 else 1) < 30))=true:=by rfl)
  (hline:(apos.endLine == cpos.line)=true:=by rfl) (hs:starEach (e::es) X.env=(false,eval e X.env)::starEach es X.env:=by rfl) (hplain:(backTo cpos (starEach es X.env)).any (·.1)=false:=by rfl) :
  PE X (.Call (.Attribute o name apos) (e::es) [] cpos) (tBM K T r to t):=by
 subst h;exact wJ pa slot hty hm ho ha hbase hfew hline hs hplain
end
structure FunD (K:`F)(x qual:Str)(st:Stmt)(f:Addr)(fd:FuncData)(T:Addr):Prop where
 ex:∃(oc:Value) (od:Option Addr) (kV doc pm:Value) (an:Option Addr) (cdv ct:Value) (osl:Array (Option Value)),
  fd=PySem.W.fnOf x qual (defArgs st) (defBody st) (defScope st) (.ref T) kV doc pm an cdv ct/\K.lookup f=some ⟨oc,od,.func fd,osl⟩/\PySem.W.codeIn K cdv qual=true
 kp:PySem.W.keepIn K (.ref f)=true
section
variable {P:Program}{w:World}{K:`F}{mg:Str->Option Value}{base:Heap}
theorem FunD.ok {x qual:Str}{st:Stmt}{f T:Addr}{fd:FuncData}{N ps:List Str}{k:Nat}{sp:Sp}(F:FunD K x qual st f fd T)(S:FnScope N ps (defScope st))(len:∀vs H Q E,sp vs H Q E->vs.length=ps.length)
  (hbody:∀(cdv:Value) (A:Around) (outer:List Env) (s:Shared) (H:Hp) (vs:`V) (Q:VK) (E:XK),Room k (A.deeper (envOfC qual (defScope st) `z f cdv))->sp vs H Q E ->
   ∃t,PSs (cxOf CX0 P w K mg base N qual (defScope st) f cdv A outer s H E).nox (defBody st) t/\t {nx:=λ_ H'=>Q .non H',rt:=Q} (start N vs) H):FnOk P w K mg base CX0 (k+1) f fd ps sp:=by
 obtain⟨oc,od,kV,doc,pm,an,cdv,ct,osl,rfl,lk,hcd⟩:=F.ex;refine kW lk hcd S len λA outer s H vs Q E hr hsp=>?_;obtain⟨t,h,q⟩:=hbody cdv A outer s H vs Q E hr hsp;exact⟨t,h.nox,q⟩
theorem FunD.binds {x qual:Str}{st:Stmt}{f T:Addr}{fd:FuncData}{ps:List Str}{ds:List Value}{oc:Value}{od:Option Addr}{items:Array Value}{n:Nat}{sl:Array (Option Value)}(F:FunD K x qual st f fd T)(hT:K.lookup T=some ⟨oc,od,.seq items n,sl⟩)
  (h:∀(kV doc pm:Value) (an:Option Addr) (cdv ct:Value) (us:List Value),(us++ds).length=ps.length->∃k:Option (Array Value)->Sem (List (Str×Value)),
   bindArgs (PySem.W.fnOf x qual (defArgs st) (defBody st) (defScope st) (.ref T) kV doc pm an cdv ct) ⟨us,[]⟩=seqItems? (.ref T) >>= k/\k (some items)=pure (ps.zip (us++ds))):Binds K fd ps ds:=by
 obtain⟨oc',od',kV,doc,pm,an,cdv,ct,osl,rfl,lk,hcd⟩:=F.ex;intro s us X hl;obtain⟨k,h1,h2⟩:=h kV doc pm an cdv ct us hl;exact BindsTo.of_defaults (T:=T) rfl (X T _ hT) rfl h1 h2
theorem iB {x qual:Str}{st:Stmt}{f T:Addr}{oc:Value}{od an:Option Addr}{osl:Array (Option Value)}{kV doc pm cdv ct:Value}(l:K.lookup f=some ⟨oc,od,.func (PySem.W.fnOf x qual (defArgs st) (defBody st) (defScope st) (.ref T) kV doc pm an cdv ct),osl⟩)
  (c:PySem.W.codeIn K cdv qual=true) (k:PySem.W.keepIn K (.ref f)=true):FunD K x qual st f (PySem.W.fnOf x qual (defArgs st) (defBody st) (defScope st) (.ref T) kV doc pm an cdv ct) T:=⟨⟨oc,od,kV,doc,pm,an,cdv,ct,osl,rfl,l,c⟩,k⟩
end
theorem yG {us:List Value}{d:Value}(h:(us++[d]).length=2):∃x,us=[x]:=by
 match us,h with
 |[x],_=>exact⟨x,rfl⟩
 |[],h=>simp at h
 |_::_::_,h=>simp at h
theorem dw {c:TT}{tb:TS}{D:Ends}{Z:St}{H:Hp}(W:Nat->St->Hp->Prop)(m0:Nat)(h0:W m0 Z H)
  (hs:∀m Z H,W m Z H->c Z H λb H1=>if b=true then ∃N:St->Hp->Prop,(∀Z' H',N Z' H'->∃m',m' < m/\W m' Z' H')/\tb {D with nx:=N,ct:=N,bk:=D.nx} Z H1 else D.nx Z H1):tWhile c tb D Z H:=⟨W,⟨m0,h0⟩,hs⟩
section
variable {Z:St}{H:Hp}{Q:VK}
theorem yH {r:V->Hp->VK->Prop}{ta:TE}:(tUn r ta Z H Q)=(ta Z H λx H1=>r x H1 Q):=rfl
theorem rd_U {g:Int->V}{i:Int}:rU g (.int i) H Q↔Q (g i) H:=⟨λ⟨_,h1,h2⟩=>by cases h1;exact h2,λh=>⟨i,rfl,h⟩⟩
theorem yI {l:Addr}{y:V}:rAppend (.ref l) [y] H Q↔∃xs,H l=some (.lst xs)/\`x < sizeLine/\Q .non (upd H l (.lst (xs++[y]))):=by
 constructor
 .rintro⟨l',xs,y',h1,h2,h3⟩;cases h1;cases h2;exact⟨xs,h3⟩
 .rintro⟨xs,h⟩;exact⟨l,xs,y,rfl,rfl,h⟩
theorem yJ {K:`F}{p:Addr}:tyV K "list" (.ref p) H↔∃xs,SqL K H p xs:=by
 constructor
 .rintro (⟨_,h⟩|⟨h,_⟩|⟨h,_⟩|⟨h,_⟩)
  .exact h
  .exact absurd h `d
  .exact absurd h `d
  .exact absurd h `d
 .intro h;exact .inl ⟨rfl,h⟩
end
mutual
inductive Is (H:Hp):PyData->V->Prop
 |non:Is H .none .non
 |bl (b:Bool):Is H (.bool b) (.bl b)
 |int (i:Int):Is H (.int i) (.int i)
 |str (x:Str):Is H (.str x) (.str x)
 |lst {p:Addr}{xs:`V}{ds:List PyData}:H p=some (.lst xs)->IsAll H ds xs->Is H (.list ds) (.ref p)
 |tup {p:Addr}{xs:`V}{ds:List PyData}:H p=some (.tup xs)->IsAll H ds xs->Is H (.tuple ds) (.ref p)
 |dic {p:Addr}:H p=some (.dK [])->Is H (.dict []) (.ref p)
inductive IsAll (H:Hp):List PyData->`V->Prop
 |nil:IsAll H [] []
 |cons {d:PyData}{x:V}{ds:List PyData}{xs:`V}:Is H d x->IsAll H ds xs->IsAll H (d::ds) (x::xs)
end
mutual
theorem Is.mono {H H':Hp}(sm:Same H H'):∀{d:PyData}{x:V},Is H d x->Is H' d x
 |_,_,.non=>.non
 |_,_,.bl b=>.bl b
 |_,_,.int i=>.int i
 |_,_,.str x=>.str x
 |_,_,.lst h r=>.lst (sm _ _ h) (IsAll.mono sm r)
 |_,_,.tup h r=>.tup (sm _ _ h) (IsAll.mono sm r)
 |_,_,.dic h=>.dic (sm _ _ h)
theorem IsAll.mono {H H':Hp}(sm:Same H H'):∀{ds:List PyData}{xs:`V},IsAll H ds xs->IsAll H' ds xs
 |_,_,.nil=>.nil
 |_,_,.cons h r=>.cons (Is.mono sm h) (IsAll.mono sm r)
end
theorem IsAll.length {H:Hp}:∀{ds:List PyData}{xs:`V},IsAll H ds xs->ds.length=`x
 |_,_,.nil=>rfl
 |_,_,.cons _ r=>by rw[length_cons,length_cons,IsAll.length r]
theorem IsAll.append {H:Hp}:∀{ds es:List PyData}{xs ys:`V},IsAll H ds xs->IsAll H es ys->IsAll H (ds++es) (xs++ys)
 |_,_,_,_,.nil,r=>r
 |_,_,_,_,.cons h t,r=>.cons h (t.append r)
section
variable {X:Cx}{pins:`O}{Z:St}{H:Hp}{s:Shared}
mutual
theorem Is.reads (I:Inv X pins Z H s):∀{d:PyData}{x:V}{v:Value},Is H d x->RelV x v->∃as,Reads s.heap v d as
 |_,_,_,.non,r=>by cases r;exact⟨_,.none⟩
 |_,_,_,.bl b,r=>by cases r;exact⟨_,.bool b⟩
 |_,_,_,.int i,r=>by obtain⟨t,rfl⟩:=r;exact⟨_,.int i t⟩
 |_,_,_,.str x,r=>by obtain⟨t,rfl⟩:=r;exact⟨_,.str x t⟩
 |_,_,_,.lst h q,r=>by cases r;obtain⟨its,vs,⟨o,n,e,c,_,dt⟩,_⟩:=I.list (SqL.of h);obtain⟨as,ra⟩:=IsAll.reads I q vs;exact⟨_,.list e c dt (by simpa using ra)⟩
 |_,_,_,.tup h q,r=>by cases r;obtain⟨its,vs,⟨o,e,c,n,dt⟩,_⟩:=I.tuple (SqT.of h);obtain⟨as,ra⟩:=IsAll.reads I q vs;exact⟨_,.tuple e c dt (by simpa using ra)⟩
 |_,_,_,.dic h,r=>by
  cases r;obtain⟨_,_,vs,kv,o,es,ep,e,c,dt,_,hp,_⟩:=I.hok _ _ h;cases kv;have hes:es.toList=[]:=by generalize es.toList=l at hp;cases hp;rfl
  exact⟨_,.dict (kvs:=[]) e c.1 dt (by rw[hes];exact .nil) (by rw[hes];exact .nil)⟩
theorem IsAll.reads (I:Inv X pins Z H s):∀{ds:List PyData}{xs:`V}{vs:List Value},IsAll H ds xs->Vals xs vs->∃as,ReadsAll s.heap vs ds as
 |_,_,_,.nil,r=>by cases r;exact⟨_,.nil⟩
 |_,_,_,.cons q t,r=>by
  cases r with
  |cons r1 r2=>obtain⟨as,h1⟩:=Is.reads I q r1;obtain⟨bs,h2⟩:=IsAll.reads I t r2;exact⟨_,.cons h1 h2⟩
end
def rEqD:R2:=λx y H Q=>∃d e,Is H d x/\Is H e y/\SeqAt.shaped d=true/\SeqAt.shaped e=true/\Q (.bl (PyData.eqv d e)) H
def rNeD:R2:=λx y H Q=>∃d e,Is H d x/\Is H e y/\SeqAt.shaped d=true/\SeqAt.shaped e=true/\Q (.bl (!PyData.eqv d e)) H
theorem dy (hu:X.A.units+64 < cLine):OpR X (compareOp .Eq) rEqD:=by intro pins s Z H x y v u Q I rx ry h;obtain⟨d,e,hx,hy,sx,sy,q⟩:=h;obtain⟨as,ra⟩:=hx.reads I rx;obtain⟨bs,rb⟩:=hy.reads I ry;exact eq_dataH ra rb sx sy hu ⟨.bl _,H,I,rfl,q⟩
theorem iC (hu:X.A.units+64 < cLine):OpR X (compareOp .NotEq) rNeD:=by intro pins s Z H x y v u Q I rx ry h;obtain⟨d,e,hx,hy,sx,sy,q⟩:=h;obtain⟨as,ra⟩:=hx.reads I rx;obtain⟨bs,rb⟩:=hy.reads I ry;exact ne_dataH ra rb sx sy hu ⟨.bl _,H,I,rfl,q⟩
end
mutual
inductive IsT (H:Hp):PyData->V->Prop
 |non:IsT H .none .non
 |bl (b:Bool):IsT H (.bool b) (.bl b)
 |int (i:Int):IsT H (.int i) (.int i)
 |str (x:Str):IsT H (.str x) (.str x)
 |tup {p:Addr}{xs:`V}{ds:List PyData}:H p=some (.tup xs)->IsTAll H ds xs->IsT H (.tuple ds) (.ref p)
inductive IsTAll (H:Hp):List PyData->`V->Prop
 |nil:IsTAll H [] []
 |cons {d:PyData}{x:V}{ds:List PyData}{xs:`V}:IsT H d x->IsTAll H ds xs->IsTAll H (d::ds) (x::xs)
end
def SameT (H H':Hp):Prop:=∀b xs,H b=some (.tup xs)->H' b=some (.tup xs)
theorem Same.toT {H H':Hp}(h:Same H H'):SameT H H':=λb xs e=>h b _ e
theorem dz {H:Hp}{p:Addr}{xs:`V}{o:HO}(h:H p=some (.lst xs)):SameT H (upd H p o):=λb ys e=>by rw[aD (aY e h (by intro z;cases z))];exact e
mutual
theorem IsT.mono {H H':Hp}(sm:SameT H H'):∀{d:PyData}{x:V},IsT H d x->IsT H' d x
 |_,_,.non=>.non
 |_,_,.bl b=>.bl b
 |_,_,.int i=>.int i
 |_,_,.str x=>.str x
 |_,_,.tup h r=>.tup (sm _ _ h) (IsTAll.mono sm r)
theorem IsTAll.mono {H H':Hp}(sm:SameT H H'):∀{ds:List PyData}{xs:`V},IsTAll H ds xs->IsTAll H' ds xs
 |_,_,.nil=>.nil
 |_,_,.cons h r=>.cons (IsT.mono sm h) (IsTAll.mono sm r)
end
mutual
theorem IsT.is {H:Hp}:∀{d:PyData}{x:V},IsT H d x->Is H d x
 |_,_,.non=>.non
 |_,_,.bl b=>.bl b
 |_,_,.int i=>.int i
 |_,_,.str x=>.str x
 |_,_,.tup h r=>.tup h (IsTAll.is r)
theorem IsTAll.is {H:Hp}:∀{ds:List PyData}{xs:`V},IsTAll H ds xs->IsAll H ds xs
 |_,_,.nil=>.nil
 |_,_,.cons h r=>.cons (IsT.is h) (IsTAll.is r)
end
theorem IsTAll.append {H:Hp}:∀{ds es:List PyData}{xs ys:`V},IsTAll H ds xs->IsTAll H es ys->IsTAll H (ds++es) (xs++ys)
 |_,_,_,_,.nil,r=>r
 |_,_,_,_,.cons h t,r=>.cons h (t.append r)
theorem IsTAll.length {H:Hp}{ds:List PyData}{xs:`V}(h:IsTAll H ds xs):ds.length=`x:=h.is.length
section
variable {p:Addr}{fv:St}{te:TE}{Q:VK}{H1:Hp}
inductive All2 (R:V->V->Hp->Prop)(H:Hp):`V->`V->Prop
 |nil:All2 R H [] []
 |cons {x y:V}{xs ys:`V}:R x y H->All2 R H xs ys->All2 R H (x::xs) (y::ys)
theorem All2.mono {R:V->V->Hp->Prop}(hm:∀x y H H',SameT H H'->R x y H->R x y H'){H H':Hp}(sm:SameT H H'){xs ys:`V}(hh:All2 R H xs ys):All2 R H' xs ys:=by
 induction hh with
 |nil=>exact .nil
 |cons h t ih=>exact .cons (hm _ _ _ _ sm h) ih
theorem All2.snoc {R:V->V->Hp->Prop}{H:Hp}{x y:V}(h:R x y H){xs ys:`V}(hh:All2 R H xs ys):All2 R H (xs++[x]) (ys++[y]):=by
 induction hh with
 |nil=>exact .cons h .nil
 |cons q t ih=>exact .cons q ih
theorem All2.length {R:V->V->Hp->Prop}{H:Hp}{xs ys:`V}(hh:All2 R H xs ys):`x=ys.length:=by
 induction hh with
 |nil=>exact rfl
 |cons _ t ih=>rw[length_cons,length_cons,ih]
theorem yK {K:`F}{a:Addr}{xs:`V}(hxs:SqL K H1 a xs)(hlen:`x<=sizeLine)(hp:H1 p=none)(R:V->V->Hp->Prop)(hm:∀x y H H',SameT H H'->R x y H->R x y H')
  (he:∀x,x∈xs->∀(H':Hp) (T:VK),Same H1 H'->(∀y H'',Same H' H''->R x y H''->T y H'')->te (some x::fv) H' T)
  (hQ:∀ys H',Same H1 H'->All2 R H' xs ys->H' p=some (.lst ys)->Q (.ref p) H'):CompI (Itl K a) p fv tYes te Q H1:=by
 refine⟨λi m ys H2=>m=`x - i/\i<=`x/\All2 R H2 (xs.take i) ys/\H2 p=some (.lst ys)/\Same H1 H2,⟨`x,`s,Nat.zero_le _,by rw[take_zero];exact .nil,aB,λb o e=>by rw[aD (aG e hp)];exact e⟩,?_⟩;rintro i m ys H2 ⟨rfl,hi,dl,mt,sm⟩;refine⟨mt,?_⟩;have q:=sm.seq hxs;have hl:=dl.length;rw[length_take] at hl;by_cases BT:i < `x
 .refine .inr ⟨⟨xs,xs[i],q,by simp[BT]⟩,`l,λx H3 y=>?_⟩;obtain⟨rfl,y⟩:=y;have hc:=y xs q;unfold tYes;dsimp only;rw[if_pos rfl];refine he x (mem_of_getElem? hc) _ _ sm λy H5 s5 hr=>⟨s5 _ _ mt,`x - (i+1),`l,rfl,BT,?_,aB,λb o e=>?_⟩
  .rw[take_add_one,hc];exact ((dl.mono hm s5.toT).snoc hr).mono hm (dz (s5 _ _ mt))
  .rw[aD (aG e hp)];exact s5 _ _ (sm _ _ e)
 .have e:i=`x:=by lia
  subst e;refine .inl ⟨⟨xs,q,Nat.le_refl _⟩,hQ ys H2 sm ?_ mt⟩;rw[take_length] at dl;exact dl
end
section
variable {X:Cx}
def rAllB (K:`F):`V->Hp->VK->Prop:=λvs H Q=>∃(p:Addr) (bs:List Bool),vs=[.ref p]/\SqL K H p (bs.map V.bl)/\Q (.bl (bs.all id)) H
theorem yL {bs:List Bool}:∀{us:List Value},Vals (bs.map V.bl) us->∀(i:Nat) (v:Value),us[i]?=some v->∃b,bs[i]?=some b/\v=.bool b:=by
 induction bs with
 |nil=>intro us r i v h;rw[map_nil] at r;cases r;simp at h
 |cons b bs ih=>
  intro us r i v h;rw[map_cons] at r;cases r with
  |cons r1 r2=>
   cases i with
   |zero=>simp at h;subst h;exact⟨b,rfl,r1⟩
   |succ i=>obtain⟨c,h1,h2⟩:=ih r2 i v (by simpa using h);exact⟨c,by simpa using h1,h2⟩
theorem yM (hc:X.calm=true):CallR X (.builtin "all") (rAllB X.K):=by
 intro mt s Z H xs us Q I r h;obtain⟨p,bs,rfl,hq,q⟩:=h;obtain⟨u,rfl,ru⟩:=vals1 r;cases ru;obtain⟨dl,vs,pl,hl⟩:=I.list hq;have hI:=pl.isList;have BT:p < `z:=by obtain⟨_,e,_⟩:=hI;exact Heap.lt_size e
 refine call_all_walk (wpAny_pyIter_list hI ?_);refine⟨`z,[`z,p],[`z],dl.toArray.size,_,_,λi=>(bs[i]?).getD true,rfl,Walks.list (A:=X.A.in1) (I.ok.hd hc) _ p (Nat.ne_of_lt BT) dl.toArray,
  ⟨⟨_,Heap.get?_push_size _ rfl,rfl,rfl⟩,hI.push _⟩,λi v s' Q' E' hP hQ=>?_,λh' tk hk=>?_⟩
 .obtain⟨b,e,rfl⟩:=yL vs i v (by simpa using hP);simp only[e,Option.getD_some] at hQ;exact wpAny_truthy_bool hQ
 .have Cl:=vs.length;rw[length_map] at Cl;have e:((List.range dl.toArray.size).all λi=>(bs[i]?).getD true)=bs.all id:=by rw[size_toArray,<- Cl];exact PyProof.Rows.LSm.range_all bs
  exact⟨.bl _,H,I.kept (t':=tk) (PyProof.Rows.LSm.kept_iter hk),rfl,by rw[e];exact q⟩
variable {K:`F}
theorem cf (h:X.K=K)(hc:X.calm=true):CallR X (.builtin "all") (rAllB K):=by subst h;exact yM hc
theorem bu {tg l:Expr}{tl:TE}(h:X.K=K)(hl:PE X l tl):PI X tg l (iTup K tl):=by subst h;exact uk hl
end
section
variable {H:Hp}{Q:VK}{K:`F}
theorem yN {x:V}{T:String}:(rIsiU [x,.ty T] H Q)=(∃k,kindV x H=some k/\T∈["bool","int","str","list","tuple"]/\Q (.bl (subT k T)) H):=rfl
theorem yO:kindV .non H=some "NoneType" := rfl
theorem lJ {b:Bool}:kindV (.bl b) H=some "bool" := rfl
theorem iE {i:Int}:kindV (.int i) H=some "int" := rfl
theorem cg {x:Str}:kindV (.str x) H=some "str" := rfl
theorem ci {p:Addr}{xs:`V}(h:H p=some (.lst xs)):kindV (.ref p) H=some "list" := by simp only[kindV,h]
theorem cj {p:Addr}{xs:`V}(h:H p=some (.tup xs)):kindV (.ref p) H=some "tuple" := by simp only[kindV,h]
theorem yP {p:Addr}{kvs:List (Key×V)}(h:H p=some (.dK kvs)):kindV (.ref p) H=some "dict" := by simp only[kindV,h]
theorem yQ:("bool" ∈ ["bool","int","str","list","tuple"])=True:=`s
theorem yR:("int" ∈ ["bool","int","str","list","tuple"])=True:=`s
theorem yS:("str" ∈ ["bool","int","str","list","tuple"])=True:=`s
theorem yT:("list" ∈ ["bool","int","str","list","tuple"])=True:=`s
theorem yU:("tuple" ∈ ["bool","int","str","list","tuple"])=True:=`s
theorem yV:subT "NoneType" "bool"=false:=`d
theorem yW:subT "NoneType" "int"=false:=`d
theorem yX:subT "NoneType" "str"=false:=`d
theorem yY:subT "NoneType" "tuple"=false:=`d
theorem yZ:subT "bool" "bool"=true:=`d
theorem ya:subT "bool" "int"=true:=`d
theorem yb:subT "bool" "str"=false:=`d
theorem yc:subT "bool" "tuple"=false:=`d
theorem yd:subT "int" "bool"=false:=`d
theorem ye:subT "int" "int"=true:=`d
theorem yf:subT "int" "str"=false:=`d
theorem yg:subT "int" "list"=false:=`d
theorem yh:subT "int" "tuple"=false:=`d
theorem yi:subT "str" "bool"=false:=`d
theorem yj:subT "str" "int"=false:=`d
theorem yk:subT "str" "str"=true:=`d
theorem yl:subT "str" "list"=false:=`d
theorem ym:subT "str" "tuple"=false:=`d
theorem yn:subT "list" "bool"=false:=`d
theorem yo:subT "list" "int"=false:=`d
theorem yp:subT "list" "str"=false:=`d
theorem yq:subT "list" "tuple"=false:=`d
theorem yr:subT "tuple" "bool"=false:=`d
theorem yt:subT "tuple" "int"=false:=`d
theorem yu:subT "tuple" "str"=false:=`d
theorem sub_tuple_tuple:subT "tuple" "tuple"=true:=`d
theorem yv {n:Nat}{t:TGs}{v:V}{Z:St}{R:St->Hp->Prop}:(gTup K n t v Z H R)=(∃a xs,v=.ref a/\SqT K H a xs/\`x=n/\t xs Z H R):=rfl
theorem yw {t:TG}{u:TGs}{vs:`V}{Z:St}{R:St->Hp->Prop}:(gCons t u vs Z H R)=(∃v r,vs=v::r/\t v Z H λZ' H'=>u r Z' H' R):=rfl
theorem yx {vs:`V}{Z:St}{R:St->Hp->Prop}:(gNil vs Z H R)=(vs=[]/\R Z H):=rfl
theorem yy {to ti:TE}{t:TSet}{v:V}{Z:St}{R:St->Hp->Prop}:(gSub to ti t v Z H R)=(to Z H λo H1=>ti Z H1 λi H2=>t o i v H2 λH3=>R Z H3):=rfl
theorem yz {p:Addr}{k:Int}{v:V}{R:Hp->Prop}:rSetL (.ref p) (.int k) v H R↔∃xs j,H p=some (.lst xs)/\ixN `x k=some j/\R (upd H p (.lst (xs.set j v))):=by
 constructor
 .rintro⟨p',xs,k',j,h1,h2,h3⟩;cases h1;cases h2;exact⟨xs,j,h3⟩
 .rintro⟨xs,j,h⟩;exact⟨p,xs,k,j,rfl,rfl,h⟩
end
section
variable {X:Cx}{K:`F}
theorem ck {es:List Expr}{k:Nat}{t:TGs}{n:Nat}{pos:Pos}(h:X.K=K)(hc:X.calm=true)(hg:PGs X es t)
  (hn:(assignEach es X.env).length=n:=by rfl) (hst:(assignEach es X.env).findIdx? (·.1)=none:=by rfl):PG X (.Tuple es k pos) (gTup K n t):=by
 subst h;exact kF hc hg hn hst
end
def SameBut (p:Addr)(H H':Hp):Prop:=∀b o,b≠p->H b=some o->H' b=some o
theorem SameBut.refl (p:Addr)(H:Hp):SameBut p H H:=λ_ _ _ e=>e
theorem SameBut.trans {p:Addr}{H H' H'':Hp}(h:SameBut p H H')(h':SameBut p H' H''):SameBut p H H'':=λb o n e=>h' b o n (h b o n e)
theorem Same.but {p:Addr}{H H':Hp}(h:Same H H'):SameBut p H H':=λb o _ e=>h b o e
theorem ag {p:Addr}{H:Hp}{o:HO}:SameBut p H (upd H p o):=λb u n e=>by rw[aD n];exact e
theorem SameBut.same {p:Addr}{H H':Hp}(h:SameBut p H H')(hp:H p=none):Same H H':=λb o e=>h b o (aG e hp) e
section
variable {p:Addr}{fv:St}{te:TE}{Q:VK}{H1:Hp}{K:`F}
theorem Same.tup {H H':Hp}{a:Addr}{xs:`V}(e:Same H H')(h:SqT K H a xs):SqT K H' a xs:=by
 rcases h with (h|⟨o,h⟩)|h
 .exact .inl (.inl (e _ _ h))
 .exact .inl (.inr ⟨o,e _ _ h⟩)
 .exact .inr h
theorem lK {a:Addr}{xs zs:`V}(hxs:SqT K H1 a xs)(hlen:`x<=sizeLine)(hp:H1 p=none)(hz:zs.length=`x)
  (he:∀(i:Nat) (x z:V),xs[i]?=some x->zs[i]?=some z->∀(H':Hp) (T:VK),Same H1 H'->(∀H'',Same H' H''->T z H'')->te (some x::fv) H' T)
  (hQ:∀H',Same H1 H'->H' p=some (.lst zs)->Q (.ref p) H'):CompI (Itt K a) p fv tYes te Q H1:=by
 refine⟨λi m ys H2=>m=`x - i/\i<=`x/\ys=zs.take i/\H2 p=some (.lst ys)/\Same H1 H2,⟨`x,`s,Nat.zero_le _,`s,aB,λb o e=>by rw[aD (aG e hp)];exact e⟩,?_⟩;rintro i m ys H2 ⟨rfl,hi,rfl,dl,sm⟩;refine⟨dl,?_⟩;have q:=sm.tup hxs;by_cases BT:i < `x
 .refine .inr ⟨⟨xs,xs[i],q,by simp[BT]⟩,?_,λx H3 y=>?_⟩
  .rw[length_take];lia
  .obtain⟨rfl,y⟩:=y;have hc:=y xs q;have mt:zs[i]?=some zs[i]:=List.getElem?_eq_getElem `l;unfold tYes;dsimp only;rw[if_pos rfl];refine he i x _ hc mt _ _ sm λH5 s5=>⟨s5 _ _ dl,`x - (i+1),`l,rfl,BT,?_,aB,λb o e=>?_⟩
   .rw[take_add_one,mt];rfl
   .rw[aD (aG e hp)];exact s5 _ _ (sm _ _ e)
 .have e:i=`x:=by lia
  subst e;refine .inl ⟨⟨xs,q,Nat.le_refl _⟩,hQ H2 sm ?_⟩;rw[dl,<- hz,take_length]
theorem e9 {a:Addr}{xs zs:`V}(hxs:SqL K H1 a xs)(hlen:`x<=sizeLine)(hp:H1 p=none)(hz:zs.length=`x)
  (he:∀(i:Nat) (x z:V),xs[i]?=some x->zs[i]?=some z->∀(H':Hp) (T:VK),Same H1 H'->(∀H'',Same H' H''->T z H'')->te (some x::fv) H' T)
  (hQ:∀H',Same H1 H'->H' p=some (.lst zs)->Q (.ref p) H'):CompI (Itl K a) p fv tYes te Q H1:=by
 refine⟨λi m ys H2=>m=`x - i/\i<=`x/\ys=zs.take i/\H2 p=some (.lst ys)/\Same H1 H2,⟨`x,`s,Nat.zero_le _,`s,aB,λb o e=>by rw[aD (aG e hp)];exact e⟩,?_⟩;rintro i m ys H2 ⟨rfl,hi,rfl,dl,sm⟩;refine⟨dl,?_⟩;have q:=sm.seq hxs;by_cases BT:i < `x
 .refine .inr ⟨⟨xs,xs[i],q,by simp[BT]⟩,?_,λx H3 y=>?_⟩
  .rw[length_take];lia
  .obtain⟨rfl,y⟩:=y;have hc:=y xs q;have mt:zs[i]?=some zs[i]:=List.getElem?_eq_getElem `l;unfold tYes;dsimp only;rw[if_pos rfl];refine he i x _ hc mt _ _ sm λH5 s5=>⟨s5 _ _ dl,`x - (i+1),`l,rfl,BT,?_,aB,λb o e=>?_⟩
   .rw[take_add_one,mt];rfl
   .rw[aD (aG e hp)];exact s5 _ _ (sm _ _ e)
 .have e:i=`x:=by lia
  subst e;refine .inl ⟨⟨xs,q,Nat.le_refl _⟩,hQ H2 sm ?_⟩;rw[dl,<- hz,take_length]
variable {Z:St}{H:Hp}{tl:TE}{tt:TT}{fr:Tq}{g:TG}{tb:TS}{D:Ends}
theorem z5:(tComp (iTup K tl) fr tt te Z H Q)=(tl Z H λx H1=>∃a,x=.ref a/\(∃xs,SqT K H1 a xs)/\∀p,H1 p=none->CompI (Itt K a) p (frV Z fr) tt te Q H1):=rfl
theorem z6:(tFor (iTup K te) g tb D Z H)=(te Z H λx H1=>∃a,x=.ref a/\(∃xs,SqT K H1 a xs)/\LoopI (Itt K a) g tb D Z H1):=rfl
theorem z7 {a:Addr}{xs:`V}(Pv:Nat->St->Hp->Prop)(h0:Pv 0 Z H)(hl:∀i Z H,i<=`x->Pv i Z H->SqT K H a xs)
  (hs:∀i x Z H,xs[i]?=some x->Pv i Z H->g x Z H λZ2 H2=>tb {D with nx:=Pv (i+1),ct:=Pv (i+1),bk:=D.nx} Z2 H2) (hd:∀Z H,Pv `x Z H->D.nx Z H):LoopI (Itt K a) g tb D Z H:=uu Pv h0 hl hs hd
theorem lL {a:Addr}:rAllB K [.ref a] H Q↔∃bs:List Bool,SqL K H a (bs.map V.bl)/\Q (.bl (bs.all id)) H:=by
 constructor
 .rintro⟨p,bs,h1,h2⟩;cases h1;exact⟨bs,h2⟩
 .rintro⟨bs,h⟩;exact⟨a,bs,rfl,h⟩
end
def tCut (t u:TS):TS:=λD Z H=>∃P:St->Hp->Prop,t {D with nx:=P} Z H/\∀Z' H',P Z' H'->u D Z' H'
section
variable {X:Cx}{st:Stmt}{rest:List Stmt}{t u:TS}
theorem ac (h1:PS X st t)(h2:PSs X rest u):PSs X (st::rest) (tCut t u):=by
 intro pins s Z H D I h;obtain⟨P,h,hu⟩:=h;refine wpAny_execs_cons (thn (h1 pins s Z H {D with nx:=P} I h) λf s1 q=>?_);cases f with
 |next=>obtain⟨Z',H',I',q⟩:=q;exact h2 pins s1 Z' H' D I' (hu _ _ q)
 |ret v=>exact q
 |brk=>exact q
 |cont=>exact q
def Later (u:TS)(D:Ends)(Z:St)(H:Hp):Prop:=u D Z H
theorem z8 {D:Ends}{x:Option V}{Z:St}{H:Hp}:(Later u D (x::Z) H)=(u D (x::Z) H):=rfl
theorem z9 {D:Ends}{Z:St}{H:Hp}:(tCut t u D Z H)=(∃P:St->Hp->Prop,t {D with nx:=P} Z H/\∀Z' H',P Z' H'->Later u D Z' H'):=rfl
end
theorem SameBut.free {p q:Addr}{H H':Hp}(sb:SameBut p H H')(hq:H' q=none)(hne:q≠p):H q=none:=by
 cases e:H q with
 |none=>rfl
 |some o=>rw[sb q o hne e] at hq;cases hq
theorem SameBut.upd {p q:Addr}{H H':Hp}{o:HO}(sb:SameBut p H H')(hq:H q=none):SameBut p H (upd H' q o):=λb u n e=>by rw[aD (aG e hq)];exact sb b u n e
theorem IsTAll.snoc {H:Hp}{ds:List PyData}{xs:`V}{d:PyData}{x:V}(h:IsTAll H ds xs)(hd:IsT H d x):IsTAll H (ds++[d]) (xs++[x]):=h.append (.cons hd .nil)
theorem aM {H:Hp}{p:Addr}{o:HO}(hp:H p=none):Same H (upd H p o):=λb u e=>by rw[aD (aG e hp)];exact e
def tTupS (t:TA):TE:=λZ H Q=>t Z H λxs H1=>`x<=sizeLine/\∀p H',H1 p=none->Same H1 H'->H' p=some (.tup xs)->Q (.ref p) H'
def tLstS (t:TA):TE:=λZ H Q=>t Z H λxs H1=>`x<=sizeLine/\∀p H',H1 p=none->Same H1 H'->H' p=some (.lst xs)->Q (.ref p) H'
section
variable {X:Cx}{es:List Expr}{t:TA}{pos:Pos}{K:`F}
theorem bZ {x1}(h:PA X es t):PE X (.Tuple es x1 pos) (tTupS t):=by intro dl s Z H Q I hq;refine wpAny_Tuple_spliced (thn (h pos dl s Z H _ I hq) λus s1 ⟨xs,H1,I1,r,z,q⟩=>⟨by rw[<- r.length];exact z,?_⟩);have hf:H1 `y=none:=I1.hok.fresh `n;refine⟨.ref `y,upd H1 `y (.tup xs),I1.laid (t':=s1.toks) (λb u e=>Heap.get?_push_of_some _ e) `n ?_,rfl,q _ _ hf (aM hf) aB⟩;exact⟨z,us,r,⟨_,Heap.get?_push_size _ rfl,rfl,_,rfl⟩⟩
theorem lM (h:PA X es t):PE X (.List es pos) (tLstS t):=by intro dl s Z H Q I hq;refine wpAny_List_spliced (thn (h pos dl s Z H _ I hq) λus s1 ⟨xs,H1,I1,r,z,q⟩=>⟨by rw[<- r.length];exact z,?_⟩);have hf:H1 `y=none:=I1.hok.fresh `n;refine⟨.ref `y,upd H1 `y (.lst xs),I1.laid (t':=s1.toks) (λb u e=>Heap.get?_push_of_some _ e) `n ?_,rfl,q _ _ hf (aM hf) aB⟩;exact⟨z,us,0,r,Heap.get?_push_size _ rfl⟩
def rAddS (K:`F):R2:=λx y H Q=>match x,y with
 |.int i,.int j=>Q (.int (i+j)) H
 |.str i,.str j=>i.length+j.length<=sizeLine/\Q (.str (i++j)) H
 |.ref a,.ref b=>(∃xs zs,H a=some (.lst xs)/\H b=some (.lst zs)/\`x+zs.length<=sizeLine/\∀p H',H p=none->Same H H'->H' p=some (.lst (xs++zs))->Q (.ref p) H')\/
   (∃xs ys,H a=some (.tup xs)/\H b=some (.tup ys)/\`x+ys.length<=sizeLine/\∀p H',Same H H'->H' p=some (.tup (xs++ys))->Q (.ref p) H')
 |_,_=>False
theorem al:OpR X (binaryOp .Add) (rAddS K):=by
 intro dl s Z H x y v u Q I rx ry h;refine ky dl s Z H x y v u Q I rx ry ?_;cases x with
 |int i=>
  cases y with
  |int j=>exact h
  |_=>exact h.elim
 |str i=>
  cases y with
  |str j=>exact h
  |_=>exact h.elim
 |ref a=>
  cases y with
  |ref b=>
   rcases h with⟨xs,zs,h1,h2,h3,h4⟩|h
   .exact .inl ⟨xs,zs,h1,h2,h3,λp hp=>h4 p _ hp (aM hp) aB⟩
   .exact .inr h
  |_=>exact h.elim
 |_=>exact h.elim
def rListS (K:`F):`V->Hp->VK->Prop:=λxs H Q=>∃p ys,xs=[.ref p]/\(SqL K H p ys\/SqT K H p ys)/\∀l H',H l=none->Same H H'->H' l=some (.lst ys)->Q (.ref l) H'
def rTupleS (K:`F):`V->Hp->VK->Prop:=λxs H Q=>∃p ys,xs=[.ref p]/\(SqL K H p ys\/H p=some (.tup ys))/\∀l H',Same H H'->H' l=some (.tup ys)->Q (.ref l) H'
theorem zF (h:X.K=K):CallR X (.type "list") (rListS K):=by subst h;intro pins s Z H xs us Q I r h;obtain⟨p,ys,h1,h2,h3⟩:=h;exact wH pins s Z H xs us Q I r ⟨p,ys,h1,h2,λl hl=>h3 l _ hl (aM hl) aB⟩
theorem lN (h:X.K=K):CallR X (.type "tuple") (rTupleS K):=by
 subst h;intro pins s Z H xs us Q I r h;obtain⟨p,ys,h1,h2,h3⟩:=h;rcases h2 with h2|h2
 .exact kl pins s Z H xs us Q I r ⟨p,ys,h1,.inl ⟨h2,λl hl=>h3 l _ (aM hl) aB⟩⟩
 .exact kl pins s Z H xs us Q I r ⟨p,ys,h1,.inr ⟨SqT.of h2,h3 p H `r h2⟩⟩
end
section
variable {Z:St}{H:Hp}{Q:VK}{K:`F}{aa:TA}
theorem zG:(tTupS aa Z H Q)=(aa Z H λxs H1=>`x<=sizeLine/\∀p H',H1 p=none->Same H1 H'->H' p=some (.tup xs)->Q (.ref p) H'):=rfl
theorem zH:(tLstS aa Z H Q)=(aa Z H λxs H1=>`x<=sizeLine/\∀p H',H1 p=none->Same H1 H'->H' p=some (.lst xs)->Q (.ref p) H'):=rfl
theorem zI {i j:Int}:(rAddS K (.int i) (.int j) H Q)=(Q (.int (i+j)) H):=rfl
theorem bQ {i j:Str}:(rAddS K (.str i) (.str j) H Q)=(i.length+j.length<=sizeLine/\Q (.str (i++j)) H):=rfl
theorem zJ {a:Addr}:rListS K [.ref a] H Q↔∃ys,(SqL K H a ys\/SqT K H a ys)/\∀l H',H l=none->Same H H'->H' l=some (.lst ys)->Q (.ref l) H':=by
 constructor
 .rintro⟨p,bs,h1,h2⟩;cases h1;exact⟨bs,h2⟩
 .rintro⟨bs,h⟩;exact⟨a,bs,rfl,h⟩
theorem zK {a:Addr}:rTupleS K [.ref a] H Q↔∃ys,(SqL K H a ys\/H a=some (.tup ys))/\∀l H',Same H H'->H' l=some (.tup ys)->Q (.ref l) H':=by
 constructor
 .rintro⟨p,bs,h1,h2⟩;cases h1;exact⟨bs,h2⟩
 .rintro⟨bs,h⟩;exact⟨a,bs,rfl,h⟩
end
def rSlLS (K:`F):V->Option Int->Option Int->Hp->VK->Prop:=λx lo hi H Q=>∃a xs,x=.ref a/\SqL K H a xs/\∀p H',H p=none->Same H H'->H' p=some (.lst (cutV xs lo hi))->Q (.ref p) H'
theorem zL {X:Cx}{K:`F}(h:X.K=K):SlR X (rSlLS K):=by subst h;intro pins s Z H x v vl vu lo hi sl Q I rx hs pl pu h;obtain⟨a,xs,h1,h2,h3⟩:=h;exact ki pins s Z H x v vl vu lo hi sl Q I rx hs pl pu ⟨a,xs,h1,h2,λp hp=>h3 p _ hp (aM hp) aB⟩
theorem zM {K:`F}{H:Hp}{Q:VK}{a:Addr}{lo hi:Option Int}:rSlLS K (.ref a) lo hi H Q↔∃xs,SqL K H a xs/\∀p H',H p=none->Same H H'->H' p=some (.lst (cutV xs lo hi))->Q (.ref p) H':=by
 constructor
 .rintro⟨p,bs,h1,h2⟩;cases h1;exact⟨bs,h2⟩
 .rintro⟨bs,h⟩;exact⟨a,bs,rfl,h⟩
end L2
namespace Wm
open PySem L2
noncomputable def isSg (c:Nat):Bool:=decide (32<=c) && decide (c<=126) && !decide (c=37)
noncomputable def SG:Tq:=(List.range 127).filter isSg
noncomputable def hexd (n:Nat):Nat:=if n < 10 then 48+n else 87+n
noncomputable def fig (a:Nat):Option Nat:=if 48<=a/\a<=57 then some (a - 48) else if 97<=a/\a<=102 then some (a - 87) else if 65<=a/\a<=70 then some (a - 55) else none
noncomputable def figV (a:Nat):V:=match fig a with|some n=>.int (n:Nat)|none=>.non
noncomputable abbrev one (c:Nat):V:=.str ⟨#[c]⟩
noncomputable def sgV (n:Nat):V:=if isSg n then one n else .non
noncomputable def signOf (a b:Nat):V:=match fig a,fig b with|some h,some l=>sgV (h * 16+l)|_,_=>.non
noncomputable def signOfL:Tq->V
 |[a,b]=>signOf a b
 |_=>.non
theorem lO {c:Nat}:c∈SG↔isSg c=true:=by
 unfold SG;rw[mem_filter,mem_range];constructor
 .exact λh=>h.2
 .intro h;refine⟨?_,h⟩;simp only[isSg,Bool.and_eq_true,decide_eq_true_eq] at h;lia
theorem bA {c:Nat}(h:isSg c=true):32<=c/\c<=126/\c≠37:=by simp only[isSg,Bool.and_eq_true,decide_eq_true_eq,Bool.not_eq_true',decide_eq_false_iff_not] at h;lia
theorem zN:∀n,n < 16->(ofString "0123456789abcdef").cps.toList[n]?=some (hexd n):=`k
theorem eC {i:Int}{n:Nat}(e:i=(n:Int))(h:n < 16):atI (ofString "0123456789abcdef").cps.toList i=some (hexd n):=by rw[e];exact a7 (zN n h)
theorem lP:(ofString "0123456789abcdef").length<=sizeLine:=`k
theorem zO:∀a,a < 128->a∈(ofString "0123456789abcdef").cps.toList ->
  Builtin.Str.occurrences (ofString "0123456789abcdef") ⟨#[a]⟩ 0 (ofString "0123456789abcdef").length 1=[(fig a).getD 0]/\(fig a).isSome=true:=by fail "k"
theorem zP:∀a,a < 128->¬ a∈(ofString "0123456789abcdef").cps.toList->a∈(ofString "0123456789ABCDEF").cps.toList ->
  Builtin.Str.occurrences (ofString "0123456789ABCDEF") ⟨#[a]⟩ 0 (ofString "0123456789ABCDEF").length 1=[(fig a).getD 0]/\(fig a).isSome=true:=by fail "k"
theorem zQ:∀a,a < 128->¬ a∈(ofString "0123456789abcdef").cps.toList->¬ a∈(ofString "0123456789ABCDEF").cps.toList->fig a=none:=`k
theorem zR:∀n,n < 127->isSg n=true->(ofString " !\"#$&'()*+,-./0123456789:;<=>?@ABCDEFGHIJKLMNOPQRSTUVWXYZ[\\]^_`abcdefghijklmnopqrstuvwxyz{|}~").cps.toList[n - 32 - (if 37 < n then 1 else 0)]?=some n:=`k
theorem lQ:(ofString " !\"#$&'()*+,-./0123456789:;<=>?@ABCDEFGHIJKLMNOPQRSTUVWXYZ[\\]^_`abcdefghijklmnopqrstuvwxyz{|}~").length<=sizeLine:=`k
theorem lR (l:Tq)(a:Nat):∀k,((List.range k).map λj=>a+j).filterMap (λi=>l[i]?)=(l.drop a).take k
 |0=>by simp
 |k+1=>by
  rw[range_succ,map_append,List.filterMap_append,lR l a k,take_add_one,List.getElem?_drop];simp only[map_cons,map_nil];cases e:l[a+k]? with
  |none=>simp[e]
  |some c=>simp[e]
noncomputable def clipI (n:Nat)(v:Int):Nat:=(max 0 (min (if v < 0 then v+n else v) n)).toNat
theorem zS (a b:Nat):sliceRange (a:Int) (b:Int) 1=(List.range (b - a)).map λj=>a+j:=by
 unfold sliceRange;have h1:(1:Int) > 0:=by decide
 simp only[h1,if_true,Int.one_mul,Int.ediv_one];have e:(if (a:Int) < (b:Int) then (b:Int) - (a:Int)+1 - 1 else 0).toNat=b - a:=by split <;> lia
 rw[e];apply map_congr_left;intro j _;lia
theorem zT (lo hi:Option Int)(n:Nat):Builtin.Str.strSliceIndices lo hi 1 n=(List.range ((hi.elim n (clipI n)) - (lo.elim 0 (clipI n)))).map λj=>(lo.elim 0 (clipI n))+j:=by
 unfold Builtin.Str.strSliceIndices;have h1:(1:Int) > 0:=by decide
 simp only[h1,if_true];rw[<- zS]
 congr 1
 .cases lo with
  |none=>rfl
  |some v=>simp only[Option.elim_some,clipI];lia
 .cases hi with
  |none=>rfl
  |some v=>simp only[Option.elim_some,clipI];lia
theorem iF (l:Tq)(lo hi:Option Int):Txt.slice (⟨l.toArray⟩:Str) lo hi=⟨((l.drop (lo.elim 0 (clipI `L))).take ((hi.elim `L (clipI `L)) - (lo.elim 0 (clipI `L)))).toArray⟩:=by
 have hl:(⟨l.toArray⟩:Str).length=`L:=by simp[Str.length]
 have hb:hi.elim `L (clipI `L)<=`L:=by
  cases hi with
  |none=>exact Nat.le_refl _
  |some v=>simp only[Option.elim_some,clipI];lia
 have dl:lo.elim 0 (clipI `L)<=`L:=by
  cases lo with
  |none=>exact Nat.zero_le _
  |some v=>simp only[Option.elim_some,clipI];lia
 have ef:(λi:Nat=>(⟨l.toArray⟩:Str).cps[i]?)=λi=>l[i]?:=by funext i;simp
 unfold Txt.slice;rw[hl,zT,ef];split
 .rename_i h;simp only[length_map,length_range,beq_self_eq_true,Bool.true_and,beq_iff_eq] at h;have e1:lo.elim 0 (clipI `L)=0:=by lia
  have e2:hi.elim `L (clipI `L)=`L:=by lia
  rw[e1,e2];simp
 .rw[lR l (lo.elim 0 (clipI `L)) ((hi.elim `L (clipI `L)) - (lo.elim 0 (clipI `L)))]
theorem iG (n k:Nat):clipI n (k:Int)=min k n:=by unfold clipI;split <;> lia
theorem lS (l:Tq)(k:Nat):Txt.slice (⟨l.toArray⟩:Str) (some (k:Int)) none=⟨(l.drop k).toArray⟩:=by
 rw[iF];simp only[Option.elim_some,Option.elim_none,iG];by_cases h:k<=`L
 .rw[Nat.min_eq_left h,take_of_length_le `s]
 .rw[Nat.min_eq_right `l,drop_eq_nil_of_le `n,drop_eq_nil_of_le `l];simp
theorem lT (l:Tq)(k:Nat):Txt.slice (⟨l.toArray⟩:Str) none (some (k:Int))=⟨(l.take k).toArray⟩:=by
 rw[iF];simp only[Option.elim_some,Option.elim_none,iG,drop_zero,Nat.sub_zero];by_cases h:k<=`L
 .rw[Nat.min_eq_left h]
 .rw[Nat.min_eq_right `l,take_length,take_of_length_le `l]
theorem eG (l:Tq)(i j:Nat):Txt.slice (⟨l.toArray⟩:Str) (some (i:Int)) (some (j:Int))=⟨((l.drop i).take (j - i)).toArray⟩:=by
 rw[iF];simp only[Option.elim_some,iG];by_cases h:i<=`L
 .rw[Nat.min_eq_left h];by_cases h2:j<=`L
  .rw[Nat.min_eq_left h2]
  .rw[Nat.min_eq_right (by lia:`L<=j),take_of_length_le `s,take_of_length_le (by simp;lia)]
 .rw[Nat.min_eq_right (by lia:`L<=i),drop_eq_nil_of_le `n,drop_eq_nil_of_le `l];simp
theorem zU:ofString ""=⟨([]:Tq).toArray⟩:=`k
theorem iH (ys:List Str):Txt.join (⟨([]:Tq).toArray⟩:Str) ys=⟨(ys.flatMap λy=>y.cps.toList).toArray⟩:=by
 show Builtin.Str.glued _ _=_;rw[StrLaws.glued_eq_join];induction ys with
 |nil=>rfl
 |cons y r ih=>
  cases r with
  |nil=>show y=_;simp
  |cons z r=>show y++(⟨#[]⟩:Str)++Str.join ⟨#[]⟩ (z::r)=_;rw[ih];show Str.mk (y.cps++#[]++_)=_;simp[flatMap_cons]
theorem ah (l m:Tq):((⟨l.toArray⟩:Str)++(⟨m.toArray⟩:Str))=⟨(l++m).toArray⟩:=by show Str.mk (l.toArray++m.toArray)=_;simp
theorem aH {l m:Tq}:((⟨l.toArray⟩:Str)=⟨m.toArray⟩)↔l=m:=by
 constructor
 .intro h;injection h with h;injection h
 .rintro rfl;rfl
theorem aE (l:Tq):(⟨l.toArray⟩:Str).length=`L:=by simp[Str.length]
theorem zV:ofString "~"=⟨[126].toArray⟩:=`k
theorem zW (l:Tq):Txt.slice (⟨l.toArray⟩:Str) (some 1) none=⟨(l.drop 1).toArray⟩:=lS l 1
theorem cm {a n:Nat}(h:fig a=some n):figV a=.int (n:Nat):=by unfold figV;rw[h]
theorem iI {a:Nat}(h:fig a=none):figV a=.non:=by unfold figV;rw[h]
theorem zX {n:Nat}(h:isSg n=true):sgV n=one n:=by unfold sgV;rw[if_pos h]
theorem iJ {n:Nat}(h:¬ isSg n=true):sgV n=.non:=by unfold sgV;rw[if_neg h]
theorem zY {n:Nat}(h1:32<=n)(h2:n<=126)(h3:n≠37):isSg n=true:=by simp only[isSg,Bool.and_eq_true,decide_eq_true_eq,Bool.not_eq_true',decide_eq_false_iff_not];lia
theorem lU {l:Tq}(h:`L≠2):signOfL l=.non:=by
 match l with
 |[]=>rfl
 |[_]=>rfl
 |[_,_]=>exact absurd rfl h
 |_::_::_::_=>rfl
theorem zZ {l:Tq}(h:`L=2):∃a b,l=[a,b]:=by
 match l,h with
 |[a,b],_=>exact⟨a,b,rfl⟩
theorem lV (l:Tq)(m k:Int)(h0:0 < k)(h:k<=`L):∃a,a∈l/\atI l (m % k)=some a:=by
 have h1:=Int.emod_nonneg m (show k≠0 by lia);have h2:=Int.emod_lt_of_pos m h0;have h3:(m % k).toNat < `L:=by lia
 refine⟨l[(m % k).toNat],getElem_mem _,?_⟩;have:=a7 (xs:=l) (j:=(m % k).toNat) (v:=l[(m % k).toNat]) (by simp[h3]);rw[Int.toNat_of_nonneg h1] at this;exact this
noncomputable def isPl (c:Nat):Bool:=decide (48<=c/\c<=57) || decide (65<=c/\c<=90) || decide (97<=c/\c<=122) || decide (c=45) || decide (c=46) || decide (c=95)
theorem iK:∀c,c < 128->(decide (c∈(ofString "abcdefghijklmnopqrstuvwxyzABCDEFGHIJKLMNOPQRSTUVWXYZ0123456789-_.").cps.toList))=isPl c:=`k
noncomputable def wr1 (c:Nat):Tq:=if isPl c then [c] else [126,hexd (c / 16),hexd (c % 16)]
noncomputable def wr (l:Tq):Tq:=l.flatMap wr1
theorem zc (l m:Tq):wr (l++m)=wr l++wr m:=by unfold wr;rw[List.flatMap_append]
theorem lW (c:Nat):(wr1 c).length<=3:=by unfold wr1;split <;> simp
theorem au (l:Tq):(wr l).length<=3 * `L:=by
 induction l with
 |nil=>simp[wr]
 |cons c r ih=>have:=lW c;unfold wr at ih ⊢;rw[flatMap_cons,length_append,length_cons];lia
noncomputable def sgO (a b:Nat):Option Nat:=match fig a,fig b with
 |some h,some l=>if isSg (h * 16+l) then some (h * 16+l) else none
 |_,_=>none
noncomputable def oV:Option Nat->V
 |some c=>one c
 |none=>.non
theorem lX (a b:Nat):signOf a b=oV (sgO a b):=by
 unfold signOf sgO;cases fig a with
 |none=>rfl
 |some h=>
  cases fig b with
  |none=>rfl
  |some l=>simp only[sgV];split <;> rfl
noncomputable def und (fr:Tq):Tq->Option Tq
 |[]=>some []
 |c::r=>if c=126 then match r with
   |a::b::r'=>match sgO a b with
    |some d=>(und fr r').map (d::·)
    |none=>none
   |_=>none
  else if isPl c || decide (c∈fr) then (und fr r).map (c::·) else none
theorem lY (fr:Tq):und fr []=some []:=by unfold und;rfl
theorem lZ {fr:Tq}{a b d:Nat}{r:Tq}(h:sgO a b=some d):und fr (126::a::b::r)=(und fr r).map (d::·):=by rw[und];simp only[if_true,h]
theorem zi {fr:Tq}{a b:Nat}{r:Tq}(h:sgO a b=none):und fr (126::a::b::r)=none:=by rw[und];simp only[if_true,h]
theorem zj {fr:Tq}{r:Tq}(h:r.length < 2):und fr (126::r)=none:=by
 match r,h with
 |[],_=>rw[und.eq_def];rfl
 |[a],_=>rw[und.eq_def];rfl
theorem lc {fr:Tq}{c:Nat}{r:Tq}(h:c≠126)(h2:(isPl c || decide (c∈fr))=true):und fr (c::r)=(und fr r).map (c::·):=by rw[und.eq_def];simp only[if_neg h,h2,if_true]
theorem zk {fr:Tq}{c:Nat}{r:Tq}(h:c≠126)(h2:¬ (isPl c || decide (c∈fr))=true):und fr (c::r)=none:=by rw[und.eq_def];simp only[if_neg h,h2,if_false];rfl
theorem zm {c:Nat}(hc:isSg c=true):sgO (hexd (c / 16)) (hexd (c % 16))=some c:=by
 have l:=bA hc;have key:∀h,h < 16->fig (hexd h)=some h:=by fail "k"
 unfold sgO;rw[key _ `l,key _ `l];have e:c / 16 * 16+c % 16=c:=by lia
 simp only[e,hc,if_true]
theorem zn {ns:List Int}{k:Nat}(h:k < ns.length):atI (ns.map V.int) (k:Int)=some (.int (ns.getD k 0)):=by refine a7 ?_;rw[List.getElem?_map,List.getElem?_eq_getElem h,List.getD_eq_getElem?_getD,List.getElem?_eq_getElem h];rfl
theorem a9 {n:Nat}(h:n<=100000):n<=sizeLine:=Nat.le_trans h `d
theorem zo (f:Nat->Nat)(l:Tq):(l.toArray).map f=(l.map f).toArray:=`s
theorem zp (l:Tq):(⟨l.toArray⟩:Str).cps.toList=l:=rfl
theorem zr {H:Hp}{p:Addr}{o:HO}(hp:H p=none):Same H (upd H p o):=λb u e=>by rw[aD (aG e hp)];exact e
noncomputable def undV:Option Tq->V
 |some d=>.str ⟨d.toArray⟩
 |none=>.non
noncomputable def swV (fr:Tq):Tq->V
 |[]=>.non
 |c::r=>if c=126 then signOfL r else if (isPl c || decide (c∈fr))=true then one c else .non
theorem lf (fr r:Tq):swV fr (126::r)=signOfL r:=by simp only[swV,if_true]
theorem lh {fr:Tq}{c:Nat}(h:c≠126):swV fr [c]=if (isPl c || decide (c∈fr))=true then one c else .non:=by simp only[swV,if_neg h]
theorem zt {c:Nat}(h:c≠126):¬ ((⟨#[c]⟩:Str)=⟨#[126]⟩):=λe=>h (by have:=aH.mp e;injection this)
theorem zu {l:Tq}{p c:Nat}(h:l[p]?=some c):l.drop p=c::l.drop (p+1):=by obtain⟨hl,e⟩:=List.getElem?_eq_some_iff.mp h;rw[<- e];exact drop_eq_getElem_cons hl
theorem li (dn:Tq):((dn.map λc=>(⟨[c].toArray⟩:Str)).flatMap λy=>y.cps.toList)=dn:=by
 induction dn with
 |nil=>rfl
 |cons c r ih=>rw[map_cons,flatMap_cons,ih];rfl
theorem lj (dn:Tq):((dn.map λc=>(⟨[c].toArray⟩:Str)).map (·.length)).sum=dn.length:=by
 induction dn with
 |nil=>rfl
 |cons c r ih=>rw[map_cons,map_cons,sum_cons,ih,length_cons];show 1+_=_;lia
theorem lm (dn:Tq)(d:Nat):dn.map one++[V.str ⟨#[d]⟩]=(dn++[d]).map one:=by rw[map_append];rfl
theorem zv {fr l dn:Tq}{p a b d:Nat}{r:Tq}(hu:und fr l=(und fr (l.drop p)).map (dn++·))(hd:l.drop p=126::a::b::r)(h:sgO a b=some d) :
  und fr l=(und fr (l.drop (p+3))).map ((dn++[d])++·):=by
 have e:l.drop (p+3)=r:=by rw[<- drop_drop,hd];rfl
 rw[hu,hd,lZ h,e,Option.map_map]
 congr 1
 funext x
 simp
theorem zw {fr l dn:Tq}{p c:Nat}{r:Tq}(hu:und fr l=(und fr (l.drop p)).map (dn++·))(hd:l.drop p=c::r)(hc:c≠126)(h2:(isPl c || decide (c∈fr))=true) :
  und fr l=(und fr (l.drop (p+1))).map ((dn++[c])++·):=by
 have e:l.drop (p+1)=r:=by rw[<- drop_drop,hd];rfl
 rw[hu,hd,lc hc h2,e,Option.map_map]
 congr 1
 funext x
 simp
theorem zx (xs:`V)(m k:Int)(h0:0 < k)(h:k<=`x):∃a,a∈xs/\atI xs (m % k)=some a:=by
 have h1:=Int.emod_nonneg m (show k≠0 by lia);have h2:=Int.emod_lt_of_pos m h0;have h3:(m % k).toNat < `x:=by lia
 refine⟨xs[(m % k).toNat],getElem_mem _,?_⟩;have:=a7 (xs:=xs) (j:=(m % k).toNat) (v:=xs[(m % k).toNat]) (by simp[h3]);rw[Int.toNat_of_nonneg h1] at this;exact this
noncomputable def hit (a b c:Nat):Bool:=decide ([hexd (c / 16),hexd (c % 16)]=[PyProof.Rows.lo1 a,PyProof.Rows.lo1 b])
mutual
noncomputable def smallD:PyData->Bool
 |.str x=>decide (x.length<=100000)
 |.list xs=>decide (`x<=100000) && smallAll xs
 |.tuple xs=>decide (`x<=100000) && smallAll xs
 |.dict _=>true
 |.none=>true
 |.bool _=>true
 |.int _=>true
noncomputable def smallAll:List PyData->Bool
 |[]=>true
 |d::ds=>smallD d && smallAll ds
end
theorem iL {x:Str}(h:smallD (.str x)=true):x.length<=100000:=by simpa [smallD] using h
noncomputable def isLet (c:Nat):Bool:=decide (65<=c/\c<=90) || decide (97<=c/\c<=122)
noncomputable def isAln (c:Nat):Bool:=isLet c || decide (48<=c/\c<=57)
theorem zy:∀c,c < 128->(decide (c∈(ofString "abcdefghijklmnopqrstuvwxyzABCDEFGHIJKLMNOPQRSTUVWXYZ").cps.toList))=isLet c:=`k
theorem zz:∀c,c < 128->(decide (c∈(ofString "abcdefghijklmnopqrstuvwxyzABCDEFGHIJKLMNOPQRSTUVWXYZ0123456789").cps.toList))=isAln c:=`k
theorem A0:(ofString " !\"#$&'()*+,-./0123456789:;<=>?@ABCDEFGHIJKLMNOPQRSTUVWXYZ[\\]^_`abcdefghijklmnopqrstuvwxyz{|}~").cps.toList=SG:=`k
theorem A1 (c:Nat):(decide (c∈(ofString " !\"#$&'()*+,-./0123456789:;<=>?@ABCDEFGHIJKLMNOPQRSTUVWXYZ[\\]^_`abcdefghijklmnopqrstuvwxyz{|}~").cps.toList))=isSg c:=by rw[A0,Bool.eq_iff_iff,decide_eq_true_eq,lO]
noncomputable def tx:PyData->Bool
 |.str x=>x.cps.toList.all isSg
 |_=>false
noncomputable def ftx:PyData->Bool
 |.str x=>x.cps.toList.all isSg && decide (0 < x.length)
 |_=>false
noncomputable def schD:PyData->Bool
 |.str x=>x.cps.toList.all isSg && decide (x.length<=8) && (x.cps.toList.take 1).all isLet && x.cps.toList.all isAln
 |_=>false
noncomputable def stpD:PyData->Bool
 |.tuple ds=>ds.all ftx
 |_=>false
noncomputable def tupN (n:Int):PyData->Bool
 |.tuple ds=>decide ((ds.length:Int)=n)
 |_=>false
noncomputable abbrev st (l:Tq):PyData:=.str `A
noncomputable def oD:Option Tq->PyData
 |none=>.none
 |some l=>st l
noncomputable def otV:Option Tq->V
 |none=>.non
 |some l=>.str `A
theorem iM {H:Hp}(o:Option Tq):IsT H (oD o) (otV o):=by
 cases o with
 |none=>exact .non
 |some x=>exact .str _
noncomputable def iD:Option Int->PyData
 |none=>.none
 |some i=>.int i
noncomputable def qD:Option (List (Tq×Option Tq))->PyData
 |none=>.none
 |some ps=>.tuple (ps.map λp=>.tuple [st p.1,oD p.2])
structure Ad where
 scheme:Tq
 house:Option Tq
 door:Option Int
 rooted:Bool
 steps:List Tq
 ends:Bool
 quest:Option (List (Tq×Option Tq))
 mark:Option Tq
noncomputable def Ad.way (x:Ad):PyData:=.tuple [.bool x.rooted,.tuple (x.steps.map st),.bool x.ends]
noncomputable def Ad.data (x:Ad):PyData:=.tuple [st x.scheme,oD x.house,iD x.door,x.way,qD x.quest,oD x.mark]
def Tx (n:Nat)(l:Tq):Prop:=`L<=n/\∀c∈l,isSg c=true
structure Ad.Ok (x:Ad):Prop where
 sch:x.scheme.length<=8/\(∀c∈x.scheme,isAln c=true)/\∀c∈x.scheme.take 1,isLet c=true
 hou:∀l,x.house=some l->0 < `L/\Tx 60 l
 doo:∀i,x.door=some i->(0<=i/\i<=65535)/\x.house≠none
 stp:x.steps.length<=50/\∀l∈x.steps,0 < `L/\Tx 60 l
 roo:x.scheme≠[]\/x.house≠none->x.rooted=true
 end_:x.steps=[]->x.ends=x.rooted
 que:∀ps,x.quest=some ps->ps.length<=20/\∀p∈ps,(0 < p.1.length/\Tx 6 p.1)/\∀v,p.2=some v->Tx 6 v
 mar:∀l,x.mark=some l->Tx 60 l
theorem lp {c:Nat}(h:isAln c=true):isSg c=true:=by simp only[isAln,isLet,Bool.or_eq_true,decide_eq_true_eq] at h;simp only[isSg,Bool.and_eq_true,decide_eq_true_eq,Bool.not_eq_true',decide_eq_false_iff_not];lia
noncomputable def itV:Option Int->V
 |none=>.non
 |some i=>.int i
theorem lq {H:Hp}(o:Option Int):IsT H (iD o) (itV o):=by
 cases o with
 |none=>exact .non
 |some x=>exact .int _
theorem lu:∀{ss:List Tq},(∀l∈ss,∀c∈l,isSg c=true)->PyData.canLayAll0 (ss.map st)=true/\PyData.depthAll (ss.map st)=0
 |[],_=>`R
 |l::r,h=>by
  obtain⟨h1,h2⟩:=lu (ss:=r) λl' hl'=>h l' (mem_cons_of_mem _ hl');have hc:PyData.strOk `A=true:=by simp only[PyData.strOk,List.all_toArray,all_eq_true,decide_eq_true_eq];intro c hc;have:=bA (h l mem_cons_self c hc);lia
  refine⟨?_,?_⟩
  .simp only[map_cons,PyData.canLayAll0,PyData.canLay0,hc,h1];rfl
  .simp only[map_cons,PyData.depthAll,PyData.depth,h2];rfl
theorem A2 {ss:List Tq}(h:∀l∈ss,∀c∈l,isSg c=true):SeqAt.shaped (.tuple (ss.map st))=true:=by obtain⟨h1,h2⟩:=lu h;unfold SeqAt.shaped;simp only[PyData.canLay0,PyData.depth,h1,h2];decide
theorem bg {l:Tq}:((⟨l.toArray⟩:Str)=⟨#[]⟩)↔l=[]:=aH (m:=[])
def Bad (f:PyData->Bool)(H:Hp)(v:V):Prop:=∃d,Is H d v/\smallD d=true/\f d=false
def Bads (f:PyData->Bool)(H:Hp)(vs:`V):Prop:=∀v∈vs,Bad f H v
theorem Bads.cons {f:PyData->Bool}{H:Hp}{v:V}{vs:`V}(h:Bad f H v)(r:Bads f H vs):Bads f H (v::vs):=λw hw=>by
 rcases mem_cons.mp hw with rfl|hw
 .exact h
 .exact r w hw
theorem bv {q:Addr}{H H':Hp}{o:HO}(hq:H q=none)(sm:Same H H'):Same H (upd H' q o):=λb u e=>by rw[aD (aG e hq)];exact sm _ _ e
noncomputable def dg (i:Int):Tq:=(ofString (toString i)).cps.toList
theorem iN {i:Int}(hi:0<=i):∀c∈dg i,48<=c/\c<=57:=by intro c hc;obtain⟨n,rfl⟩:=Int.eq_ofNat_of_zero_le hi;unfold dg at hc;rw[PySem.W.KIN.signs_num,mem_map] at hc;obtain⟨d,hd,rfl⟩:=hc;have:=Nat.isDigit_of_mem_toDigits `d `d hd;simp only[Char.isDigit,Bool.and_eq_true,decide_eq_true_eq] at this;exact⟨this.1,this.2⟩
theorem A3 {i:Int}(hi:0<=i)(hi':i<=65535):(dg i).length<=5:=by have:=PyProof.Rows.toString_length_le hi (k:=5) `d `l;simpa [dg,Str.length] using this
def Hd (p:Nat->Bool)(r:Tq):Prop:=∀c r',r=c::r'->p c=true
theorem Hd.nil {p:Nat->Bool}:Hd p []:=λc r' h=>by cases h
theorem Hd.cons {p:Nat->Bool}{c:Nat}{r:Tq}(h:p c=true):Hd p (c::r):=λd r' e=>by injection e with e;exact e▸h
theorem cutL {p:Nat->Bool}:∀{u u' r r':Tq},(∀c∈u,p c=false)->(∀c∈u',p c=false)->Hd p r->Hd p r'->u++r=u'++r'->u=u'/\r=r'
 |[],[],r,r',_,_,_,_,e=>⟨rfl,e⟩
 |[],c::u',r,r',_,h',hr,_,e=>by have:=hr c (u'++r') e;rw[h' c `f] at this;cases this
 |c::u,[],r,r',h,_,_,hr',e=>by have:=hr' c (u++r) e.symm;rw[h c `f] at this;cases this
 |c::u,d::u',r,r',h,h',hr,hr',e=>by simp only[cons_append,List.cons.injEq] at e;obtain⟨e1,e2⟩:=cutL (λx hx=>h x (mem_cons_of_mem _ hx)) (λx hx=>h' x (mem_cons_of_mem _ hx)) hr hr' e.2;exact⟨by rw[e.1,e1],e2⟩
noncomputable def wch (c:Nat):Bool:=isPl c || decide (c=126)
theorem lv:∀n,n < 16->isPl (hexd n)=true:=`k
theorem eH {l:Tq}(h:∀c∈l,isSg c=true):∀c∈wr l,wch c=true:=by
 intro c hc;unfold wr at hc;obtain⟨d,hd,hc⟩:=List.mem_flatMap.mp hc;have:=bA (h d hd);unfold wr1 at hc;split at hc
 .next hp=>rw[mem_singleton] at hc;rw[hc,wch,hp];rfl
 .simp only[mem_cons,not_mem_nil,or_false] at hc;rcases hc with rfl|rfl|rfl
  .rfl
  .rw[wch,lv _ `l];rfl
  .rw[wch,lv _ `l];rfl
theorem eI {c:Nat}(h:wch c=true):c≠35/\c≠38/\c≠47/\c≠58/\c≠61/\c≠63:=by refine⟨?_,?_,?_,?_,?_,?_⟩ <;> (rintro rfl;revert h;fail "k")
theorem lw {c:Nat}(h:isAln c=true):wch c=true:=by simp only[isAln,isLet,Bool.or_eq_true,decide_eq_true_eq] at h;simp only[wch,isPl,Bool.or_eq_true,decide_eq_true_eq];lia
noncomputable def tlT (sep:Nat):List Tq->Tq
 |[]=>[]
 |s::r=>sep::(s++tlT sep r)
noncomputable def joinT (sep:Nat):List Tq->Tq
 |[]=>[]
 |s::r=>s++tlT sep r
theorem eJ (sep:Nat)(r:List Tq):Hd (λc=>decide (c=sep)) (tlT sep r):=by
 cases r with
 |nil=>exact .nil
 |cons s r=>exact .cons `s
def Free (sep:Nat)(ss:List Tq):Prop:=∀s∈ss,∀c∈s,c≠sep
theorem Free.hd {sep:Nat}{s:Tq}{ss:List Tq}(h:Free sep (s::ss)):∀c∈s,(λc=>decide (c=sep)) c=false:=λc hc=>decide_eq_false (h s `f c hc)
theorem Free.tl {sep:Nat}{s:Tq}{ss:List Tq}(h:Free sep (s::ss)):Free sep ss:=λt ht=>h t (mem_cons_of_mem _ ht)
theorem lx {sep:Nat}:∀{a b:List Tq},Free sep a->Free sep b->tlT sep a=tlT sep b->a=b
 |[],[],_,_,_=>rfl
 |[],t::b,_,_,e=>by simp[tlT] at e
 |s::a,[],_,_,e=>by simp[tlT] at e
 |s::a,t::b,ha,hb,e=>by simp only[tlT,List.cons.injEq,true_and] at e;obtain⟨e1,e2⟩:=cutL ha.hd hb.hd (eJ sep a) (eJ sep b) e;rw[e1,lx ha.tl hb.tl e2]
theorem A4 {sep:Nat}{a b:List Tq}(ha:Free sep a)(hb:Free sep b)(na:a≠[])(nb:b≠[])(e:joinT sep a=joinT sep b):a=b:=by
 match a,b,na,nb with
 |s::a,t::b,_,_=>simp only[joinT] at e;obtain⟨e1,e2⟩:=cutL ha.hd hb.hd (eJ sep a) (eJ sep b) e;rw[e1,lx ha.tl hb.tl e2]
theorem ly (sep:Nat):∀(a:List Tq) (s:Tq),tlT sep (a++[s])=tlT sep a++sep::s
 |[],s=>by simp[tlT]
 |t::a,s=>by simp[tlT,ly sep a s]
theorem A5 (sep:Nat){a:List Tq}(s:Tq)(h:a≠[]):joinT sep (a++[s])=joinT sep a++sep::s:=by
 match a,h with
 |t::a,_=>simp[joinT,ly]
theorem lz {sep:Nat}{P:Nat->Prop}(hs:P sep):∀{a:List Tq},(∀s∈a,∀c∈s,P c)->∀c∈tlT sep a,P c
 |[],_,c,hc=>by cases hc
 |s::a,h,c,hc=>by
  simp only[tlT,mem_cons,mem_append] at hc;rcases hc with rfl|hc|hc
  .exact hs
  .exact h s `f c hc
  .exact lz hs (λt ht=>h t (mem_cons_of_mem _ ht)) c hc
theorem m6 {sep:Nat}{P:Nat->Prop}(hs:P sep){a:List Tq}(h:∀s∈a,∀c∈s,P c):∀c∈joinT sep a,P c:=by
 intro c hc;match a with
 |[]=>cases hc
 |s::a=>
  simp only[joinT,mem_append] at hc;rcases hc with hc|hc
  .exact h s `f c hc
  .exact lz hs (λt ht=>h t (mem_cons_of_mem _ ht)) c hc
noncomputable def oT (sep:Nat):Option Tq->Tq
 |none=>[]
 |some l=>sep::wr l
noncomputable def pairT (p:Tq×Option Tq):Tq:=wr p.1++oT 61 p.2
noncomputable def queT:Option (List (Tq×Option Tq))->Tq
 |none=>[]
 |some ps=>63::joinT 38 (ps.map pairT)
noncomputable def wayT (r:Bool)(ss:List Tq)(e:Bool):Tq:=(if r then [47] else [])++(joinT 47 (ss.map wr)++(if e && !ss.isEmpty then [47] else []))
noncomputable def dooT:Option Int->Tq
 |none=>[]
 |some i=>58::dg i
noncomputable def houT:Option Tq->Tq
 |none=>[]
 |some l=>47::47::wr l
noncomputable def schT (s:Tq):Tq:=if s=[] then [] else s++[58]
noncomputable def Ad.wayT (x:Ad):Tq:=Wm.wayT x.rooted x.steps x.ends
noncomputable def Ad.shw (x:Ad):Tq:=schT x.scheme++(houT x.house++(dooT x.door++(x.wayT++(queT x.quest++oT 35 x.mark))))
theorem iO {sep:Nat}{P:Nat->Prop}(hs:P sep)(hw:∀c,wch c=true->P c){o:Option Tq}(h:∀l,o=some l->∀c∈l,isSg c=true):∀c∈oT sep o,P c:=by
 intro c hc;cases o with
 |none=>cases hc
 |some l=>
  simp only[oT,mem_cons] at hc;rcases hc with rfl|hc
  .exact hs
  .exact hw c (eH (h l rfl) c hc)
def PairOk (p:Tq×Option Tq):Prop:=(0 < p.1.length/\∀c∈p.1,isSg c=true)/\∀v,p.2=some v->∀c∈v,isSg c=true
theorem A6 {P:Nat->Prop}(hs:P 61)(hw:∀c,wch c=true->P c){p:Tq×Option Tq}(h:PairOk p):∀c∈pairT p,P c:=by
 intro c hc;rcases mem_append.mp hc with hc|hc
 .exact hw c (eH h.1.2 c hc)
 .exact iO hs hw h.2 c hc
def StepOk (s:Tq):Prop:=0 < s.length/\∀c∈s,isSg c=true
noncomputable def stpT (ss:List Tq)(e:Bool):Tq:=joinT 47 (ss.map wr)++(if e && !ss.isEmpty then [47] else [])
theorem A7 (e:Bool):stpT [] e=[]:=by simp[stpT,joinT]
theorem m7 (r:Bool)(ss:List Tq)(e:Bool):wayT r ss e=(if r then [47] else [])++stpT ss e:=rfl
structure Ad.Wf (x:Ad):Prop where
 sch:x.scheme.length<=8/\(∀c∈x.scheme,isAln c=true)/\∀c∈x.scheme.take 1,isLet c=true
 hou:∀l,x.house=some l->(0 < `L/\`L<=60)/\∀c∈l,isSg c=true
 doo:∀i,x.door=some i->(0<=i/\i<=65535)/\x.house≠none
 stp:∀s∈x.steps,StepOk s
 roo:x.scheme≠[]\/x.house≠none->x.rooted=true
 end_:x.steps=[]->x.ends=x.rooted
 que:∀ps,x.quest=some ps->∀p∈ps,PairOk p
 mar:∀l,x.mark=some l->∀c∈l,isSg c=true
noncomputable def Ad.mid (x:Ad):Tq:=houT x.house++(dooT x.door++x.wayT)
noncomputable def Ad.pre (x:Ad):Tq:=schT x.scheme++x.mid
theorem Ad.shw_eq (x:Ad):x.shw=(x.pre++queT x.quest)++oT 35 x.mark:=by simp[Ad.shw,Ad.pre,Ad.mid]
theorem A8 {P:Nat->Prop}(hs:P 47)(hw:∀c,wch c=true->P c){ss:List Tq}{e:Bool}(h:∀s∈ss,StepOk s):∀c∈stpT ss e,P c:=by
 intro c hc;rcases mem_append.mp hc with hc|hc
 .refine m6 hs (λs hs' d hd=>?_) c hc;obtain⟨t,ht,rfl⟩:=mem_map.mp hs';exact hw d (eH (h t ht).2 d hd)
 .split at hc
  .rw[mem_singleton.mp hc];exact hs
  .cases hc
theorem m9 {P:Nat->Prop}(hs:P 47)(hw:∀c,wch c=true->P c){r:Bool}{ss:List Tq}{e:Bool}(h:∀s∈ss,StepOk s):∀c∈wayT r ss e,P c:=by
 intro c hc;rw[m7] at hc;rcases mem_append.mp hc with hc|hc
 .split at hc
  .rw[mem_singleton.mp hc];exact hs
  .cases hc
 .exact A8 hs hw h c hc
theorem A9 {c:Nat}(h:48<=c/\c<=57):wch c=true:=by simp only[wch,isPl,Bool.or_eq_true,decide_eq_true_eq];lia
theorem Ad.Wf.pre_all {P:Nat->Prop}{x:Ad}(h:x.Wf)(h1:P 47)(h2:P 58)(hw:∀c,wch c=true->P c):∀c∈x.pre,P c:=by
 intro c hc;rcases mem_append.mp hc with hc|hc
 .unfold schT at hc;split at hc
  .cases hc
  .rcases mem_append.mp hc with hc|hc
   .exact hw c (lw (h.sch.2.1 c hc))
   .rw[mem_singleton.mp hc];exact h2
 rcases mem_append.mp hc with hc|hc
 .cases hh:x.house with
  |none=>rw[hh] at hc;cases hc
  |some l=>
   rw[hh] at hc;simp only[houT,mem_cons] at hc;rcases hc with rfl|rfl|hc
   .exact h1
   .exact h1
   .exact hw c (eH (h.hou l hh).2 c hc)
 rcases mem_append.mp hc with hc|hc
 .cases hd:x.door with
  |none=>rw[hd] at hc;cases hc
  |some i=>
   rw[hd] at hc;simp only[dooT,mem_cons] at hc;rcases hc with rfl|hc
   .exact h2
   .exact hw c (A9 (iN (h.doo i hd).1.1 c hc))
 .exact m9 h1 hw h.stp c hc
theorem mB (l m:Tq):PyData.eqv (st l) (st m)=true↔l=m:=by simp only[PyData.eqv,beq_iff_eq];exact aH
theorem eK {α:Type}{f:α->PyData}(hf:∀a b,PyData.eqv (f a) (f b)=true↔a=b):∀(l m:List α),PyData.eqvAll (l.map f) (m.map f)=true↔l=m
 |[],[]=>by simp[PyData.eqvAll]
 |[],b::m=>by simp[PyData.eqvAll]
 |a::l,[]=>by simp[PyData.eqvAll]
 |a::l,b::m=>by simp only[map_cons,PyData.eqvAll,Bool.and_eq_true,List.cons.injEq];rw[hf a b,eK hf l m]
def LayAt (n:Nat)(d:PyData):Prop:=d.canLay0=true/\d.depth<=n
theorem LayAt.shaped {n:Nat}{d:PyData}(h:LayAt n d)(hn:n<=64):SeqAt.shaped d=true:=by unfold SeqAt.shaped;rw[h.1,decide_eq_true (Nat.le_trans h.2 hn)];rfl
theorem LayAt.le {n m:Nat}{d:PyData}(h:LayAt n d)(hn:n<=m):LayAt m d:=⟨h.1,Nat.le_trans h.2 hn⟩
theorem layAll {n:Nat}:∀{ds:List PyData},(∀d∈ds,LayAt n d)->PyData.canLayAll0 ds=true/\PyData.depthAll ds<=n
 |[],_=>⟨rfl,Nat.zero_le _⟩
 |d::ds,h=>by obtain⟨h1,h2⟩:=layAll (ds:=ds) λe he=>h e (mem_cons_of_mem _ he);have:=h d `f;simp only[PyData.canLayAll0,PyData.depthAll,this.1,h1,Bool.and_self,true_and];exact Nat.max_le.mpr ⟨this.2,h2⟩
theorem LayAt.tup {n:Nat}{ds:List PyData}(h:∀d∈ds,LayAt n d):LayAt (n+1) (.tuple ds):=by obtain⟨h1,h2⟩:=layAll h;exact⟨by simp only[PyData.canLay0,h1],by simp only[PyData.depth];lia⟩
theorem LayAt.st {l:Tq}(h:∀c∈l,isSg c=true):LayAt 0 (st l):=by refine⟨?_,Nat.le_refl _⟩;simp only[PyData.canLay0,PyData.strOk,List.all_toArray,all_eq_true,decide_eq_true_eq];intro c hc;have:=bA (h c hc);lia
theorem LayAt.bool {b:Bool}:LayAt 0 (.bool b):=⟨rfl,Nat.le_refl _⟩
theorem iP {H:Hp}{l:Tq}{v:V}(h:IsT H (st l) v):v=.str ⟨l.toArray⟩:=by cases h;rfl
theorem mC {H:Hp}{o:Option Tq}{v:V}(h:IsT H (oD o) v):v=otV o:=by
 cases o with
 |none=>cases h;rfl
 |some l=>exact iP h
theorem Aa {H:Hp}{o:Option Int}{v:V}(h:IsT H (iD o) v):v=itV o:=by
 cases o with
 |none=>cases h;rfl
 |some l=>cases h;rfl
theorem mD {H:Hp}{b:Bool}{v:V}(h:IsT H (.bool b) v):v=.bl b:=by cases h;rfl
theorem bw {H:Hp}{ds:List PyData}{v:V}(h:IsT H (.tuple ds) v):∃p xs,v=.ref p/\H p=some (.tup xs)/\IsTAll H ds xs:=by
 cases h with
 |tup h1 h2=>exact⟨_,_,rfl,h1,h2⟩
theorem isT2 {H:Hp}{a b:PyData}{v:V}(h:IsT H (.tuple [a,b]) v):∃p x y,v=.ref p/\H p=some (.tup [x,y])/\IsT H a x/\IsT H b y:=by
 obtain⟨p,xs,rfl,hp,r⟩:=bw h;cases r with
 |cons h1 r=>cases r with
  |cons h2 r=>cases r;exact⟨p,_,_,rfl,hp,h1,h2⟩
theorem isT3 {H:Hp}{a b c:PyData}{v:V}(h:IsT H (.tuple [a,b,c]) v):∃p x y z,v=.ref p/\H p=some (.tup [x,y,z])/\IsT H a x/\IsT H b y/\IsT H c z:=by
 obtain⟨p,xs,rfl,hp,r⟩:=bw h;cases r with
 |cons h1 r=>cases r with
  |cons h2 r=>cases r with
   |cons h3 r=>cases r;exact⟨p,_,_,_,rfl,hp,h1,h2,h3⟩
theorem isT6 {H:Hp}{a b c d e f:PyData}{v:V}(h:IsT H (.tuple [a,b,c,d,e,f]) v):∃p x0 x1 x2 x3 x4 x5,v=.ref p/\H p=some (.tup [x0,x1,x2,x3,x4,x5])/\IsT H a x0/\IsT H b x1/\IsT H c x2/\IsT H d x3/\IsT H e x4/\IsT H f x5:=by
 obtain⟨p,xs,rfl,hp,r⟩:=bw h;cases r with
 |cons h1 r=>cases r with
  |cons h2 r=>cases r with
   |cons h3 r=>cases r with
    |cons h4 r=>cases r with
     |cons h5 r=>cases r with
      |cons h6 r=>cases r;exact⟨p,_,_,_,_,_,_,rfl,hp,h1,h2,h3,h4,h5,h6⟩
theorem mE {H:Hp}:∀{ss:List Tq}{xs:`V},IsTAll H (ss.map st) xs->xs=ss.map λl=>V.str `A
 |[],_,h=>by cases h;rfl
 |s::ss,_,h=>by
  cases h with
  |cons h1 h2=>rw[iP h1,mE h2];rfl
end Wm
namespace Wm
structure Ad.Sz (x:Ad):Prop where
 stp:∀s∈x.steps,s.length<=2000
 que:∀ps,x.quest=some ps->ps.length<=2000/\∀p∈ps,p.1.length<=2000/\∀v,p.2=some v->v.length<=2000
 mar:∀l,x.mark=some l->`L<=2000
 num:x.steps.length<=2000
 all:x.shw.length<=90000
theorem lg {i:Int}(h:0<=i)(h':i<=65535):i.natAbs.log2 < 1920:=by
 by_cases h0:i.natAbs=0
 .rw[h0];simp
 .refine (Nat.log2_lt h0).mpr (Nat.lt_of_lt_of_le (show i.natAbs < 2 ^ 16 by lia) (Nat.pow_le_pow_right `d `d))
theorem mF (i:Int):PySem.Str.ofString (toString i)=⟨(dg i).toArray⟩:=rfl
end Wm
namespace Wm
open PySem L2
theorem eN (sep:Nat)(ys:List Tq):Txt.join (⟨[sep].toArray⟩:Str) (ys.map λl=>(⟨l.toArray⟩:Str))=⟨(joinT sep ys).toArray⟩:=by
 show Builtin.Str.glued _ _=_;rw[StrLaws.glued_eq_join];induction ys with
 |nil=>rfl
 |cons y r ih=>
  cases r with
  |nil=>show (⟨y.toArray⟩:Str)=_;simp[joinT,tlT]
  |cons z r=>show (⟨y.toArray⟩:Str)++(⟨[sep].toArray⟩:Str)++Str.join ⟨[sep].toArray⟩ ((z::r).map λl=>(⟨l.toArray⟩:Str))=_;rw[ih,ah,ah];simp[joinT,tlT]
theorem mG {sep:Nat}:∀(ys:List Tq),(tlT sep ys).length=(ys.map (·.length)).sum+ys.length
 |[]=>rfl
 |y::r=>by simp only[tlT,length_cons,length_append,map_cons,sum_cons,mG r];lia
theorem Ab {sep:Nat}(ys:List Tq):(ys.map (·.length)).sum+ys.length<=(joinT sep ys).length+1:=by
 cases ys with
 |nil=>simp[joinT]
 |cons y r=>simp only[joinT,length_append,map_cons,sum_cons,length_cons,mG];lia
theorem Ac (ts:List Tq):(ts.map λl=>(⟨l.toArray⟩:Str)).map (·.length)=ts.map List.length:=by rw[map_map];apply map_congr_left;intro l _;exact aE l
theorem iQ {a:V}{r:`V}:atI (a::r) 0=some a:=by unfold atI ixN;simp
noncomputable def slT (r:Bool)(ts:List Tq)(e:Bool):Tq:=(if r then [47] else [])++(joinT 47 ts++(if e && !ts.isEmpty then [47] else []))
theorem Ae (r:Bool)(ss:List Tq)(e:Bool):wayT r ss e=slT r (ss.map wr) e:=by unfold wayT slT;simp
end Wm
namespace L2
open PySem
end L2
namespace Wm
open PySem L2
noncomputable abbrev Stp:=Tq
noncomputable def sUp:Stp:=[46,46]
noncomputable def sStay:Stp:=[46]
noncomputable def isDot (s:Stp):Bool:=decide (s=sUp) || decide (s=sStay)
theorem iR:sUp≠sStay:=`d
theorem bx {s:Stp}:isDot s=false↔s≠sUp/\s≠sStay:=by simp[isDot]
noncomputable def fwd (r:Bool)(q:Nat×List Stp)(s:Stp):Nat×List Stp:=
 if s=sUp then (match q.2 with|[]=>(if r then q.1 else q.1+1,[])|_::t=>(q.1,t))
 else if s=sStay then q else (q.1,s::q.2)
noncomputable def goneS (r:Bool)(ss:List Stp):List Stp:=List.replicate (ss.foldl (fwd r) (0,[])).1 sUp++(ss.foldl (fwd r) (0,[])).2.reverse
noncomputable def bwd1 (s:Stp)(q:Nat×List Stp):Nat×List Stp:=
 if s=sUp then (q.1+1,q.2) else if s≠sStay/\0 < q.1 then (q.1 - 1,q.2) else if s≠sStay then (q.1,s::q.2) else q
noncomputable def bwd (ss:List Stp):Nat×List Stp:=ss.foldr bwd1 (0,[])
theorem eO (s:Stp)(ss:List Stp):bwd (s::ss)=bwd1 s (bwd ss):=rfl
theorem cn (r:Bool):∀(ss:List Stp) (u:Nat) (ns:List Stp),
  ss.foldl (fwd r) (u,ns)=(if r then u else u+((bwd ss).1 - ns.length),(bwd ss).2.reverse++ns.drop (bwd ss).1)
 |[],u,ns=>by simp[bwd]
 |s::ss,u,ns=>by
  rw[foldl_cons,eO];by_cases h1:s=sUp
  .cases ns with
   |nil=>
    rw[show fwd r (u,[]) s=(if r then u else u+1,[]) by simp[fwd,h1],cn r ss];cases r <;> simp[bwd1,h1]
    lia
   |cons a t=>rw[show fwd r (u,a::t) s=(u,t) by simp[fwd,h1],cn r ss];simp[bwd1,h1]
  .by_cases h2:s=sStay
   .rw[show fwd r (u,ns) s=(u,ns) by simp[fwd,h1,h2,iR.symm],cn r ss];simp[bwd1,h2,iR.symm]
   .rw[show fwd r (u,ns) s=(u,s::ns) by simp[fwd,h1,h2],cn r ss];by_cases h3:0 < (bwd ss).1
    .obtain⟨k,hk⟩:∃k,(bwd ss).1=k+1:=⟨(bwd ss).1 - 1,`l⟩;simp[bwd1,h1,h2,hk]
    .have h0:(bwd ss).1=0:=by lia
     simp[bwd1,h1,h2,h0]
theorem eQ (r:Bool)(ss:List Stp):goneS r ss=(if r then [] else List.replicate (bwd ss).1 sUp)++(bwd ss).2:=by unfold goneS;rw[cn];cases r <;> simp
theorem iS {ss:List Stp}:∀s∈(bwd ss).2,s∈ss/\isDot s=false:=by
 induction ss with
 |nil=>simp[bwd]
 |cons t ss ih=>
  intro s hs;rw[eO] at hs;unfold bwd1 at hs;split at hs
  .exact⟨mem_cons_of_mem _ (ih s hs).1,(ih s hs).2⟩
  .next h1=>
   split at hs
   .exact⟨mem_cons_of_mem _ (ih s hs).1,(ih s hs).2⟩
   .split at hs
    .next h2=>
     rcases mem_cons.mp hs with rfl|hs
     .exact⟨mem_cons_self ..,bx.mpr ⟨h1,h2⟩⟩
     .exact⟨mem_cons_of_mem _ (ih s hs).1,(ih s hs).2⟩
    .exact⟨mem_cons_of_mem _ (ih s hs).1,(ih s hs).2⟩
theorem Af (ss:List Stp):(bwd ss).1+(bwd ss).2.length<=ss.length:=by
 induction ss with
 |nil=>simp[bwd]
 |cons t ss ih=>
  rw[eO];unfold bwd1;split
  .simp;lia
  .split
   .simp;lia
   .split <;> simp <;> lia
theorem gone_len (r:Bool)(ss:List Stp):(goneS r ss).length<=ss.length:=by rw[eQ];have:=Af ss;cases r <;> simp <;> lia
theorem Ag {r:Bool}{ss:List Stp}:∀s∈goneS r ss,s∈ss/\isDot s=false\/r=false/\s=sUp:=by
 intro s hs;rw[eQ] at hs;rcases mem_append.mp hs with hs|hs
 .cases r with
  |true=>cases hs
  |false=>exact .inr ⟨rfl,(List.mem_replicate.mp (by simpa using hs)).2⟩
 .exact .inl (iS s hs)
theorem eR (r:Bool):∀(ns:List Stp) (u:Nat) (t:List Stp),(∀s∈ns,isDot s=false)->ns.foldl (fwd r) (u,t)=(u,ns.reverse++t)
 |[],u,t,_=>by simp
 |s::ns,u,t,h=>by have:=bx.mp (h s `f);rw[foldl_cons,show fwd r (u,t) s=(u,s::t) by simp[fwd,this.1,this.2],eR r ns u _ λx hx=>h x (mem_cons_of_mem _ hx)];simp
theorem mH:∀(n u:Nat),(List.replicate n sUp).foldl (fwd false) (u,[])=(u+n,[])
 |0,u=>by simp
 |n+1,u=>by
  rw[replicate_succ,foldl_cons,show fwd false (u,[]) sUp=(u+1,[]) by simp[fwd],mH n (u+1)]
  congr 1;lia
theorem gone_again (r:Bool)(ss:List Stp):goneS r (goneS r ss)=goneS r ss:=by
 rw[eQ r ss];have hn:∀s∈(bwd ss).2,isDot s=false:=λs hs=>(iS s hs).2;cases r with
 |true=>simp only[if_true,nil_append];unfold goneS;rw[eR true _ _ _ hn];simp
 |false=>simp only[Bool.false_eq_true,if_false];unfold goneS;rw[foldl_append,mH,eR false _ _ _ hn];simp
noncomputable def lastDot (ss:List Stp):Bool:=match ss.getLast? with|some s=>isDot s|none=>false
noncomputable def goneW (r:Bool)(ss:List Stp)(e:Bool):Bool×List Stp×Bool:=
 if ss=[] then (r,[],e) else if goneS r ss=[] then (r,if r then [] else [sStay],true) else (r,goneS r ss,e || lastDot ss)
theorem Ah (r:Bool)(ss:List Stp)(e:Bool):(goneW r ss e).1=r:=by unfold goneW;split;rfl;split <;> rfl
theorem Ai {a b:List Stp}(h:b≠[]):lastDot (a++b)=lastDot b:=by
 unfold lastDot;rw[List.getLast?_append];cases hb:b.getLast? with
 |none=>exact absurd (List.getLast?_eq_none_iff.mp hb) h
 |some s=>rfl
theorem Aj {ss:List Stp}(h:∀s∈ss,isDot s=false):lastDot ss=false:=by
 unfold lastDot;cases hl:ss.getLast? with
 |none=>rfl
 |some s=>exact h s (mem_of_getLast? hl)
theorem Ak {r:Bool}{ss:List Stp}(h:lastDot (goneS r ss)=true):lastDot ss=true:=by
 rw[eQ] at h;have hn:∀s∈(bwd ss).2,isDot s=false:=λs hs=>(iS s hs).2;by_cases h2:(bwd ss).2=[]
 .rw[h2] at h;cases r with
  |true=>simp[lastDot] at h
  |false=>
   have hu:0 < (bwd ss).1:=by
    by_cases h0:(bwd ss).1=0
    .simp[h0,lastDot] at h
    .lia
   cases hl:ss.getLast? with
   |none=>rw[List.getLast?_eq_none_iff.mp hl] at hu;simp[bwd] at hu
   |some s=>
    unfold lastDot;rw[hl];show isDot s=true;cases hd:isDot s with
    |true=>rfl
    |false=>
     exfalso;obtain⟨pre,hp⟩:∃pre,ss=pre++[s]:=List.getLast?_eq_some_iff.mp hl;have dl:∀(pre:List Stp),s∈(bwd (pre++[s])).2:=by
      intro pre;have hs:=bx.mp hd;induction pre with
      |nil=>simp[bwd,bwd1,hs.1,hs.2]
      |cons t pre ih=>
       rw[cons_append,eO];unfold bwd1;split
       .exact ih
       .split
        .exact ih
        .split
         .exact mem_cons_of_mem _ ih
         .exact ih
     have:=dl pre;rw[<- hp,h2] at this;cases this
 .rw[Ai h2,Aj hn] at h;cases h
theorem Al (r:Bool)(ss:List Stp)(e:Bool):goneW (goneW r ss e).1 (goneW r ss e).2.1 (goneW r ss e).2.2=goneW r ss e:=by
 by_cases h1:ss=[]
 .simp[goneW,h1]
 .by_cases h2:goneS r ss=[]
  .cases r with
   |true=>simp[goneW,h1,h2]
   |false=>
    have:goneS false [sStay]=[]:=by decide
    simp[goneW,h1,h2,this]
  .have h3:goneW r ss e=(r,goneS r ss,e || lastDot ss):=by simp[goneW,h1,h2]
   rw[h3];show goneW r (goneS r ss) (e || lastDot ss)=_;have:goneW r (goneS r ss) (e || lastDot ss)=(r,goneS r (goneS r ss),(e || lastDot ss) || lastDot (goneS r ss)):=by unfold goneW;rw[if_neg h2,gone_again,if_neg h2]
   rw[this,gone_again];cases hl:lastDot (goneS r ss) with
   |false=>simp
   |true=>rw[Ak hl];simp
noncomputable def stk (q:Nat×List Stp):List Stp:=List.replicate q.1 sUp++q.2.reverse
noncomputable def goUp (r:Bool)(L:List Stp):List Stp:=
 match L.getLast? with
 |some s=>if s=sUp then (if r then L else L++[sUp]) else L.dropLast
 |none=>if r then L else L++[sUp]
def StkOk (r:Bool)(q:Nat×List Stp):Prop:=(r=true->q.1=0)/\∀s∈q.2,s≠sUp
theorem Am {r:Bool}{q:Nat×List Stp}(h:StkOk r q):goUp r (stk q)=stk (fwd r q sUp):=by
 obtain⟨u,t⟩:=q;obtain⟨h1,h2⟩:=h;dsimp only at h1 h2;unfold fwd stk;rw[if_pos rfl];cases t with
 |cons a t=>have ha:=h2 a `f;simp only[List.reverse_cons];rw[<- append_assoc];unfold goUp;rw[List.getLast?_concat];simp only[if_neg ha,List.dropLast_concat]
 |nil=>
  cases r with
  |true=>have e:=h1 rfl;subst e;simp[goUp]
  |false=>
   simp only[List.reverse_nil,append_nil,Bool.false_eq_true,if_false];cases u with
   |zero=>simp[goUp]
   |succ u=>have e:List.replicate (u+1) sUp=List.replicate u sUp++[sUp]:=replicate_succ';have e2:List.replicate (u+1+1) sUp=List.replicate (u+1) sUp++[sUp]:=replicate_succ';rw[e2];unfold goUp;rw[e,List.getLast?_concat];simp
theorem StkOk.fwd {r:Bool}{q:Nat×List Stp}(h:StkOk r q)(s:Stp):StkOk r (fwd r q s):=by
 obtain⟨u,t⟩:=q;obtain⟨h1,h2⟩:=h;dsimp only at h1 h2;unfold Wm.fwd;by_cases e:s=sUp
 .rw[if_pos e];cases t with
  |nil=>exact⟨λz=>by simp[z,h1 z],λs hs=>absurd hs `s⟩
  |cons a t=>exact⟨h1,λs hs=>h2 s (mem_cons_of_mem _ hs)⟩
 .rw[if_neg e];by_cases e2:s=sStay
  .rw[if_pos e2];exact⟨h1,h2⟩
  .rw[if_neg e2];refine⟨h1,λx hx=>?_⟩;rcases mem_cons.mp hx with rfl|hx
   .exact e
   .exact h2 x hx
theorem An (r:Bool)(q:Nat×List Stp)(s:Stp):(stk (fwd r q s)).length<=(stk q).length+1:=by
 obtain⟨u,t⟩:=q;unfold fwd stk;by_cases e:s=sUp
 .rw[if_pos e];cases t with
  |nil=>cases r <;> simp
  |cons a t=>simp;lia
 .rw[if_neg e];by_cases e2:s=sStay
  .rw[if_pos e2];simp
  .rw[if_neg e2];simp;lia
theorem Ao {r:Bool}{q:Nat×List Stp}{s:Stp}(h1:s≠sUp)(h2:s≠sStay):stk (fwd r q s)=stk q++[s]:=by unfold fwd stk;rw[if_neg h1,if_neg h2];simp
theorem Ap {r:Bool}{q:Nat×List Stp}:fwd r q sStay=q:=by unfold fwd;rw[if_neg iR.symm,if_pos rfl]
noncomputable def sofar (r:Bool)(ss:List Stp)(i:Nat):Nat×List Stp:=(ss.take i).foldl (fwd r) (0,[])
theorem mI (r:Bool)(ss:List Stp):∀i,StkOk r (sofar r ss i)/\(stk (sofar r ss i)).length<=i
 |0=>by simp[sofar,StkOk,stk]
 |i+1=>by
  obtain⟨h1,h2⟩:=mI r ss i;unfold sofar at *
  rw[take_add_one];cases e:ss[i]? with
  |none=>simpa using ⟨h1,`l⟩
  |some s=>rw[foldl_append];simp only[Option.toList_some,foldl_cons,List.foldl_nil];have:=An r (List.foldl (fwd r) (0,[]) (List.take i ss)) s;exact⟨h1.fwd s,`l⟩
theorem Aq {r:Bool}{ss:List Stp}{i:Nat}{s:Stp}(h:ss[i]?=some s):sofar r ss (i+1)=fwd r (sofar r ss i) s:=by unfold sofar;rw[take_add_one,h,foldl_append];rfl
theorem Ar (r:Bool)(ss:List Stp):stk (sofar r ss ss.length)=goneS r ss:=by unfold sofar;rw[take_length];rfl
end Wm
namespace L2
open PySem PySem.Spec PyProof.Rows HT
section
variable {prog:Program}{w:World}{A:Around}{E:`T}{s:Shared}
theorem mJ {t sl:Addr}{items:Array Value}{vl vu:Value}{lo hi:Option Int}{Q:`T}(ht:IsTup s.heap t items)(hs:s.heap.IsSliceOf sl vl vu .none)(pl:IsPart vl lo)(pu:IsPart vu hi)
  (hw:sIx items.size 0 lo=0/\sIx items.size items.size hi=items.size) (h:Q (.ref t) s):wpAny `M A (getItem (.ref t) (.ref sl)) Q E s:=by
 obtain⟨os,dl,mt,Cl⟩:=id hs;have BT:s.TypeIs (.ref sl) "slice" := ⟨os,dl,mt⟩;unfold getItem;try with_reducible refine wpAny_holding ?_
 first|refine wpAny_bind (wpAny_pure ?_)|skip
 refine wpAny_bind (wpAny_sequenceKey ht.typeIs `d ?_);refine wpAny_bind (wpAny_callSpecial?_slot (name:=ofString "__getitem__") ht.typeIs PyProof.Rows.slot_tuple_getitem
  (wpAny_call_entry PyProof.Rows.slot_tuple_getitem ht.typeIs entry_tuple_getitem ?_ (args_tuple_getitem _ _)))
 show wpAny _ _ (Builtin.Tuple.tupleItemsOf (.ref t) >>= _) _ _ s;refine wpAny_bind (tupleItemsOf_ ht ?_);refine wpAny_bind (wpAny_typeOf BT ?_);rw[if_pos `d];refine wpAny_bind (kZ hs pl pu ?_);show wpAny _ _ (if (((sIx items.size 0 lo:Nat):Int) == 0 && (1:Int) == 1 && (sIx items.size items.size hi - sIx items.size 0 lo) == items.size)=true then _ else _) _ _ s;rw[if_pos (by rw[hw.1,hw.2];simp)];refine wpAny_bind ?_;show wpAny _ _ (typeOf (.ref t) >>= _) _ _ s;refine wpAny_bind (wpAny_typeOf ht.typeIs (wpAny_pure ?_));rw[if_pos `d];exact wpAny_bind (wpAny_rule (wpAny_pure ⟨_,rfl,wpAny_pure h⟩))
end
section
variable {X:Cx}{K:`F}
def rSlTA:V->Option Int->Option Int->Hp->VK->Prop:=λx lo hi H Q=>∃a xs,x=.ref a/\H a=some (.tup xs)/\∀p H',Same H H'->H' p=some (.tup (cutV xs lo hi))->Q (.ref p) H'
theorem mK {xs:`V}{lo hi:Option Int}(h:sIx `x 0 lo=0/\sIx `x `x hi=`x):cutV xs lo hi=xs:=by unfold cutV;rw[h.1,h.2,drop_zero,Nat.sub_zero,take_length]
theorem As:SlR X rSlTA:=by
 intro dl s Z H x v vl vu lo hi sl Q I rx hs pl pu h;obtain⟨a,xs,rfl,hx,q⟩:=h;by_cases hw:sIx `x 0 lo=0/\sIx `x `x hi=`x
 .cases rx;obtain⟨BT,r,ht,hz⟩:=I.tuple (SqT.of hx);have mt:BT.toArray.size=`x:=by rw[size_toArray];exact r.length.symm
  refine⟨"tuple",_,PyProof.Rows.slot_tuple_getitem.lookup,ht.typeIs,?_⟩;exact mJ ht hs pl pu (by rw[mt];exact hw) ⟨.ref a,H,I,rfl,q a H `r (by rw[mK hw];exact hx)⟩
 .exact kd dl s Z H _ v vl vu lo hi sl Q I rx hs pl pu ⟨a,xs,rfl,SqT.of hx,hw,λp hp=>q p _ (aM hp) aB⟩
theorem At {a:Addr}{lo hi:Option Int}{H:Hp}{Q:VK}:rSlTA (.ref a) lo hi H Q↔∃xs,H a=some (.tup xs)/\∀p H',Same H H'->H' p=some (.tup (cutV xs lo hi))->Q (.ref p) H':=by
 constructor
 .rintro⟨p,bs,h1,h2⟩;cases h1;exact⟨bs,h2⟩
 .rintro⟨bs,h⟩;exact⟨a,bs,rfl,h⟩
end
mutual
inductive IsK (K:`F)(H:Hp):PyData->V->Prop
 |non:IsK K H .none .non
 |bl (b:Bool):IsK K H (.bool b) (.bl b)
 |int (i:Int):IsK K H (.int i) (.int i)
 |str (x:Str):IsK K H (.str x) (.str x)
 |tup {p:Addr}{xs:`V}{ds:List PyData}:SqT K H p xs->IsKAll K H ds xs->IsK K H (.tuple ds) (.ref p)
inductive IsKAll (K:`F)(H:Hp):List PyData->`V->Prop
 |nil:IsKAll K H [] []
 |cons {d:PyData}{x:V}{ds:List PyData}{xs:`V}:IsK K H d x->IsKAll K H ds xs->IsKAll K H (d::ds) (x::xs)
end
section
variable {K:`F}{H H':Hp}
mutual
theorem IsK.mono (sm:Same H H'):∀{d:PyData}{x:V},IsK K H d x->IsK K H' d x
 |_,_,.non=>.non
 |_,_,.bl b=>.bl b
 |_,_,.int i=>.int i
 |_,_,.str x=>.str x
 |_,_,.tup h r=>.tup (sm.tup h) (IsKAll.mono sm r)
theorem IsKAll.mono (sm:Same H H'):∀{ds:List PyData}{xs:`V},IsKAll K H ds xs->IsKAll K H' ds xs
 |_,_,.nil=>.nil
 |_,_,.cons h r=>.cons (IsK.mono sm h) (IsKAll.mono sm r)
end
mutual
theorem IsT.k:∀{d:PyData}{x:V},IsT H d x->IsK K H d x
 |_,_,.non=>.non
 |_,_,.bl b=>.bl b
 |_,_,.int i=>.int i
 |_,_,.str x=>.str x
 |_,_,.tup h r=>.tup (SqT.of h) (IsTAll.k r)
theorem IsTAll.k:∀{ds:List PyData}{xs:`V},IsTAll H ds xs->IsKAll K H ds xs
 |_,_,.nil=>.nil
 |_,_,.cons h r=>.cons (IsT.k h) (IsTAll.k r)
end
end
section
variable {X:Cx}{pins:`O}{Z:St}{H:Hp}{s:Shared}
mutual
theorem IsK.reads (I:Inv X pins Z H s):∀{d:PyData}{x:V}{v:Value},IsK X.K H d x->RelV x v->∃as,Reads s.heap v d as
 |_,_,_,.non,r=>by cases r;exact⟨_,.none⟩
 |_,_,_,.bl b,r=>by cases r;exact⟨_,.bool b⟩
 |_,_,_,.int i,r=>by obtain⟨t,rfl⟩:=r;exact⟨_,.int i t⟩
 |_,_,_,.str x,r=>by obtain⟨t,rfl⟩:=r;exact⟨_,.str x t⟩
 |_,_,_,.tup h q,r=>by cases r;obtain⟨its,vs,⟨o,e,c,n,dt⟩,_⟩:=I.tuple h;obtain⟨as,ra⟩:=IsKAll.reads I q vs;exact⟨_,.tuple e c dt (by simpa using ra)⟩
theorem IsKAll.reads (I:Inv X pins Z H s):∀{ds:List PyData}{xs:`V}{vs:List Value},IsKAll X.K H ds xs->Vals xs vs->∃as,ReadsAll s.heap vs ds as
 |_,_,_,.nil,r=>by cases r;exact⟨_,.nil⟩
 |_,_,_,.cons q t,r=>by
  cases r with
  |cons r1 r2=>obtain⟨as,h1⟩:=IsK.reads I q r1;obtain⟨bs,h2⟩:=IsKAll.reads I t r2;exact⟨_,.cons h1 h2⟩
end
variable {K:`F}
def rEqX (K:`F):R2:=λx y H Q=>∃d e,IsK K H d x/\IsK K H e y/\SeqAt.shaped d=true/\SeqAt.shaped e=true/\Q (.bl (PyData.eqv d e)) H
def rNeX (K:`F):R2:=λx y H Q=>∃d e,IsK K H d x/\IsK K H e y/\SeqAt.shaped d=true/\SeqAt.shaped e=true/\Q (.bl (!PyData.eqv d e)) H
theorem mL (hk:X.K=K)(hu:X.A.units+64 < cLine):OpR X (compareOp .Eq) (rEqX K):=by subst hk;intro pins s Z H x y v u Q I rx ry h;obtain⟨d,e,hx,hy,sx,sy,q⟩:=h;obtain⟨as,ra⟩:=hx.reads I rx;obtain⟨bs,rb⟩:=hy.reads I ry;exact eq_dataH ra rb sx sy hu ⟨.bl _,H,I,rfl,q⟩
theorem mM (hk:X.K=K)(hu:X.A.units+64 < cLine):OpR X (compareOp .NotEq) (rNeX K):=by subst hk;intro pins s Z H x y v u Q I rx ry h;obtain⟨d,e,hx,hy,sx,sy,q⟩:=h;obtain⟨as,ra⟩:=hx.reads I rx;obtain⟨bs,rb⟩:=hy.reads I ry;exact ne_dataH ra rb sx sy hu ⟨.bl _,H,I,rfl,q⟩
def rSlX (K:`F):V->Option Int->Option Int->Hp->VK->Prop:=λx lo hi H Q=>∃a xs,x=.ref a/\SqT K H a xs/\∀p H',Same H H'->SqT K H' p (cutV xs lo hi)->Q (.ref p) H'
theorem ba (hk:X.K=K):SlR X (rSlX K):=by
 subst hk;intro dl s Z H x v vl vu lo hi sl Q I rx hs pl pu h;obtain⟨a,xs,rfl,hx,q⟩:=h;by_cases hw:sIx `x 0 lo=0/\sIx `x `x hi=`x
 .cases rx;obtain⟨BT,r,ht,hz⟩:=I.tuple hx;have mt:BT.toArray.size=`x:=by rw[size_toArray];exact r.length.symm
  refine⟨"tuple",_,PyProof.Rows.slot_tuple_getitem.lookup,ht.typeIs,?_⟩;exact mJ ht hs pl pu (by rw[mt];exact hw) ⟨.ref a,H,I,rfl,q a H `r (by rw[mK hw];exact hx)⟩
 .exact kd dl s Z H _ v vl vu lo hi sl Q I rx hs pl pu ⟨a,xs,rfl,hx,hw,λp hp=>q p _ (aM hp) (SqT.of aB)⟩
theorem Au {a:Addr}{lo hi:Option Int}{H:Hp}{Q:VK}:rSlX K (.ref a) lo hi H Q↔∃xs,SqT K H a xs/\∀p H',Same H H'->SqT K H' p (cutV xs lo hi)->Q (.ref p) H':=by
 constructor
 .rintro⟨p,bs,h1,h2⟩;cases h1;exact⟨bs,h2⟩
 .rintro⟨bs,h⟩;exact⟨a,bs,rfl,h⟩
def rCatX (K:`F):R2:=λx y H Q=>∃a b xs ys,x=.ref a/\y=.ref b/\SqT K H a xs/\SqT K H b ys/\`x+ys.length<=sizeLine/\∀p H',Same H H'->SqT K H' p (xs++ys)->Q (.ref p) H'
theorem cH (hk:X.K=K):OpR X (binaryOp .Add) (rCatX K):=by
 subst hk;intro dl s Z H x y v u Q I rx ry h;obtain⟨a,b,xs,ys,rfl,rfl,ha,hb,hz,q⟩:=h;by_cases hx:xs=[]
 .subst hx;cases rx;cases ry;obtain⟨Ge,r1,p1,_⟩:=I.tuple ha;obtain⟨mt,r2,p2,_⟩:=I.tuple hb;cases r1;obtain⟨⟨cls,dd,Gc,sl⟩,ho,hc,n,hd⟩:=id p1;obtain⟨⟨Gd,Gb,Fr,Ga⟩,BT,Fn,n2,Cl⟩:=id p2;simp only at hc hd Fn Cl;subst hc hd Fn Cl;exact concat_meets ⟨_,ho,rfl⟩ ⟨_,BT,rfl⟩ noFill_tuple_add seq_tuple_add PySem.F.slot_tuple_add PySem.F.entry_tuple_add (PySem.F.args_tuple_add_2 _ _)
   (tuple_addW0 a b ([]:List Value).toArray mt.toArray n n2 dd Gb sl Ga rfl) ⟨ho,BT,⟨.ref b,H,I,rfl,q b H `r hb⟩⟩
 .refine kf dl s Z H _ _ v u Q I rx ry ⟨a,b,xs,ys,rfl,rfl,ha,hb,hx,hz,λe=>q a H `r (by rw[e,append_nil];exact ha),λ_ p hp=>q p _ (aM hp) (SqT.of aB)⟩
theorem Av {a b:Addr}{H:Hp}{Q:VK}:rCatX K (.ref a) (.ref b) H Q↔∃xs ys,SqT K H a xs/\SqT K H b ys/\`x+ys.length<=sizeLine/\∀p H',Same H H'->SqT K H' p (xs++ys)->Q (.ref p) H':=by
 constructor
 .rintro⟨p,p',xs,ys,h1,h2,h3⟩;cases h1;cases h2;exact⟨xs,ys,h3⟩
 .rintro⟨xs,ys,h⟩;exact⟨a,b,xs,ys,rfl,rfl,h⟩
def KindK (K:`F)(H:Hp)(x:V)(k:String):Prop:=kindV x H=some k\/∃a xs,x=.ref a/\SqT K H a xs/\k = "tuple"
theorem KindK.tup {K:`F}{H:Hp}{a:Addr}{xs:`V}(h:SqT K H a xs):KindK K H (.ref a) "tuple" := .inr ⟨a,xs,rfl,h,rfl⟩
end
end L2
namespace Wm
open PySem L2
section
variable {K:`F}{H:Hp}
theorem iT {l:Tq}{v:V}(h:IsK K H (st l) v):v=.str ⟨l.toArray⟩:=by cases h;rfl
theorem mN {o:Option Tq}{v:V}(h:IsK K H (oD o) v):v=otV o:=by
 cases o with
 |none=>cases h;rfl
 |some l=>exact iT h
theorem Aw {o:Option Int}{v:V}(h:IsK K H (iD o) v):v=itV o:=by
 cases o with
 |none=>cases h;rfl
 |some l=>cases h;rfl
theorem mO {b:Bool}{v:V}(h:IsK K H (.bool b) v):v=.bl b:=by cases h;rfl
theorem eV {ds:List PyData}{v:V}(h:IsK K H (.tuple ds) v):∃p xs,v=.ref p/\SqT K H p xs/\IsKAll K H ds xs:=by
 cases h with
 |tup h1 h2=>exact⟨_,_,rfl,h1,h2⟩
theorem isK3 {a b c:PyData}{v:V}(h:IsK K H (.tuple [a,b,c]) v):∃p x y z,v=.ref p/\SqT K H p [x,y,z]/\IsK K H a x/\IsK K H b y/\IsK K H c z:=by
 obtain⟨p,xs,rfl,hp,r⟩:=eV h;cases r with
 |cons h1 r=>cases r with
  |cons h2 r=>cases r with
   |cons h3 r=>cases r;exact⟨p,_,_,_,rfl,hp,h1,h2,h3⟩
theorem isK6 {a b c d e f:PyData}{v:V}(h:IsK K H (.tuple [a,b,c,d,e,f]) v):∃p x0 x1 x2 x3 x4 x5,v=.ref p/\SqT K H p [x0,x1,x2,x3,x4,x5]/\IsK K H a x0/\IsK K H b x1/\IsK K H c x2/\IsK K H d x3/\IsK K H e x4/\IsK K H f x5:=by
 obtain⟨p,xs,rfl,hp,r⟩:=eV h;cases r with
 |cons h1 r=>cases r with
  |cons h2 r=>cases r with
   |cons h3 r=>cases r with
    |cons h4 r=>cases r with
     |cons h5 r=>cases r with
      |cons h6 r=>cases r;exact⟨p,_,_,_,_,_,_,rfl,hp,h1,h2,h3,h4,h5,h6⟩
theorem mP:∀{ss:List Tq}{xs:`V},IsKAll K H (ss.map st) xs->xs=ss.map λl=>V.str `A
 |[],_,h=>by cases h;rfl
 |s::ss,_,h=>by
  cases h with
  |cons h1 h2=>rw[iT h1,mP h2];rfl
theorem mQ:∀(ss:List Tq),IsKAll K H (ss.map st) (ss.map λl=>V.str `A)
 |[]=>.nil
 |s::ss=>.cons (.str _) (mQ ss)
theorem mR (o:Option Tq):IsK K H (oD o) (otV o):=(iM o).k
theorem Ax (o:Option Int):IsK K H (iD o) (itV o):=(lq o).k
theorem cq {r e:Bool}{ss:List Tq}{v:V}(h:IsK K H (.tuple [.bool r,.tuple (ss.map st),.bool e]) v):∃p q,v=.ref p/\SqT K H p [.bl r,.ref q,.bl e]/\SqT K H q (ss.map λl=>V.str `A):=by obtain⟨p,x,y,z,rfl,hp,h1,h2,h3⟩:=isK3 h;cases mO h1;cases mO h3;obtain⟨q,xs,rfl,hq,r⟩:=eV h2;cases mP r;exact⟨p,q,rfl,hp,hq⟩
theorem wayK {r e:Bool}{ss:List Tq}{p q:Addr}(hp:SqT K H p [.bl r,.ref q,.bl e])(hq:SqT K H q (ss.map λl=>V.str `A)):IsK K H (.tuple [.bool r,.tuple (ss.map st),.bool e]) (.ref p):=
 .tup hp (.cons (.bl _) (.cons (.tup hq (mQ _)) (.cons (.bl _) .nil)))
theorem bR {x:Ad}{v:V}(h:IsK K H x.data v):∃p w q,v=.ref p/\SqT K H p [.str ⟨x.scheme.toArray⟩,otV x.house,itV x.door,w,q,otV x.mark]/\IsK K H x.way w/\IsK K H (qD x.quest) q:=by obtain⟨p,x0,x1,x2,x3,x4,x5,rfl,hp,i0,i1,i2,i3,i4,i5⟩:=isK6 (show IsK K H (.tuple [st x.scheme,oD x.house,iD x.door,x.way,qD x.quest,oD x.mark]) v from h);cases iT i0;cases mN i1;cases Aw i2;cases mN i5;exact⟨p,x3,x4,rfl,hp,i3,i4⟩
theorem adK {x:Ad}{p:Addr}{w q:V}(hp:SqT K H p [.str ⟨x.scheme.toArray⟩,otV x.house,itV x.door,w,q,otV x.mark])(hw:IsK K H x.way w)(hq:IsK K H (qD x.quest) q):IsK K H x.data (.ref p):=
 .tup hp (.cons (.str _) (.cons (mR _) (.cons (Ax _) (.cons hw (.cons hq (.cons (mR _) .nil))))))
end
end Wm
namespace L2
open PySem PySem.Spec PyProof.Rows
section
variable {X:Cx}
end
end L2
namespace Wm
open PySem L2
noncomputable abbrev Way:=Bool×List Stp×Bool
noncomputable def Ad.w (x:Ad):Way:=(x.rooted,x.steps,x.ends)
noncomputable def Ad.withWay (x:Ad)(w:Way):Ad:={ x with rooted:=w.1,steps:=w.2.1,ends:=w.2.2}
noncomputable def goneV (w:Way):Way:=goneW w.1 w.2.1 w.2.2
noncomputable def Ad.gone (x:Ad):Ad:=x.withWay (goneV x.w)
theorem Ay (w:Way):goneV (goneV w)=goneV w:=Al w.1 w.2.1 w.2.2
theorem Ad.gone_again (x:Ad):x.gone.gone=x.gone:=by show (x.withWay (goneV x.w)).withWay (goneV (x.withWay (goneV x.w)).w)=_;rw[show (x.withWay (goneV x.w)).w=goneV x.w from rfl,Ay];rfl
noncomputable def holder (w:Way):List Stp:=if (goneV w).2.2 then (goneV w).2.1 else (goneV w).2.1.dropLast
noncomputable def resM (b x:Ad):Ad:=
 if x.scheme≠[] then x.gone
 else if x.house≠none then ({x with scheme:=b.scheme}:Ad).gone
 else if x.rooted=true then ({x with scheme:=b.scheme,house:=b.house,door:=b.door}:Ad).gone
 else if x.steps≠[] then ({x with scheme:=b.scheme,house:=b.house,door:=b.door,rooted:=true,steps:=holder b.w++x.steps}:Ad).gone
 else ({b with quest:=(if x.quest=none then b.quest else x.quest),mark:=x.mark}:Ad).gone
theorem iU {b x:Ad}(h:x.scheme≠[]):resM b x=x.gone:=by unfold resM;rw[if_pos h]
noncomputable def wayOf (w:Way):PyData:=.tuple [.bool w.1,.tuple (w.2.1.map st),.bool w.2.2]
noncomputable abbrev sV (l:Tq):V:=.str `A
theorem Az {α:Type}{l:List α}{i:Nat}{a:α}(h:l[i]?=some a):l.drop i=a::l.drop (i+1):=by obtain⟨hi,e⟩:=List.getElem?_eq_some_iff.mp h;rw[<- e];exact drop_eq_getElem_cons hi
theorem AA {H:Hp}:∀(ss:List Tq),IsAll H (ss.map st) (ss.map sV)
 |[]=>.nil
 |s::ss=>.cons (.str _) (AA ss)
theorem mS {H:Hp}:∀(ss:List Tq),IsTAll H (ss.map st) (ss.map sV)
 |[]=>.nil
 |s::ss=>.cons (.str _) (mS ss)
theorem eW (ds:List PyData):PyData.eqv (.list ds) (.list [])=ds.isEmpty:=by cases ds <;> simp[PyData.eqv,PyData.eqvAll]
theorem cI {α:Type}{l:List α}{s:α}(g:α->V)(h:l.getLast?=some s):atI (l.map g) (-1)=some (g s):=by
 obtain⟨pre,rfl⟩:=List.getLast?_eq_some_iff.mp h;have e:ixN ((pre++[s]).map g).length (-1)=some pre.length:=by unfold ixN;simp;try lia
 unfold atI;rw[e];simp
theorem mU {r e:Bool}{ss:List Tq}(h:∀s∈ss,∀c∈s,isSg c=true):SeqAt.shaped (wayOf (r,ss,e))=true:=by
 refine LayAt.shaped (n:=2) (.tup (n:=1) λd hd=>?_) `d;simp only[mem_cons,not_mem_nil,or_false] at hd;rcases hd with rfl|rfl|rfl
 .exact LayAt.bool.le `d
 .refine .tup (n:=0) λd hd=>?_;obtain⟨s,hs,rfl⟩:=mem_map.mp hd;exact .st (h s hs)
 .exact LayAt.bool.le `d
end Wm
namespace L2
open PySem
theorem bz {X:Cx}{K:`F}(h:X.K=K):OpR X (compareOp .In) (rIn K false):=by subst h;exact wE
theorem AB {l:Addr}{H:Hp}{Q:VK}:rPop (.ref l) [] H Q↔∃xs y,H l=some (.lst xs)/\xs[`x - 1]?=some y/\Q y (upd H l (.lst xs.dropLast)):=
 ⟨λ⟨_,xs,y,h1,_,h3,h4,h5⟩=>by cases h1;exact⟨xs,y,h3,h4,h5⟩,λ⟨xs,y,h3,h4,h5⟩=>⟨_,xs,y,rfl,rfl,h3,h4,h5⟩⟩
theorem AC {H:Hp}{p:Addr}{o:HO}(h:H p=some o):upd H p o=H:=by
 funext b
 by_cases e:b=p
 .subst e;rw[aB,h]
 .rw[aD e]
theorem AD {D:Ends}{Z:St}{H:Hp}:(tNever D Z H)=(False):=rfl
end L2
namespace Wm
open PySem L2
structure Ad.Tiny (x:Ad):Prop where
 stp:∀s∈x.steps,s.length<=9
 que:∀ps,x.quest=some ps->ps.length<=3/\∀p∈ps,p.1.length<=5/\∀v,p.2=some v->v.length<=6
 mar:∀l,x.mark=some l->`L<=7
 hou:∀l,x.house=some l->`L<=13
noncomputable def noWay:Way:=(false,[],false)
noncomputable def wayFrom (b w:Way):Way:=if w=noWay then b else if w.1 then w else (true,holder b++w.2.1,w.2.2)
noncomputable def questFrom (b x:Ad):Option (List (Tq×Option Tq)):=if x.w=noWay/\x.quest=none then b.quest else x.quest
noncomputable def madeWhole (b x:Ad):Ad:=if x.house≠none then {x with scheme:=b.scheme} else {scheme:=b.scheme,house:=b.house,door:=b.door,rooted:=(wayFrom b.w x.w).1,steps:=(wayFrom b.w x.w).2.1,ends:=(wayFrom b.w x.w).2.2,quest:=questFrom b x,mark:=x.mark}
theorem iV {b x:Ad}(hx:x.Wf)(h:x.scheme=[]):resM b x=(madeWhole b x).gone:=by
 unfold resM madeWhole;rw[if_neg (by simp[h])];by_cases h1:x.house≠none
 .rw[if_pos h1,if_pos h1]
 .rw[if_neg h1,if_neg h1];by_cases h2:x.rooted=true
  .rw[if_pos h2];have e:x.w≠noWay:=λz=>by
    have:=congrArg Prod.fst z;simp only[Ad.w,noWay] at this;rw[h2] at this;cases this
   unfold wayFrom questFrom;simp only[if_neg e,e,false_and,if_false];rw[if_pos (show x.w.1=true from h2)];rfl
  .rw[if_neg h2];have hf:x.rooted=false:=by simpa using h2
   by_cases h3:x.steps≠[]
   .rw[if_pos h3];have e:x.w≠noWay:=λz=>h3 (by have:=congrArg (λq:Way=>q.2.1) z;exact this);unfold wayFrom questFrom;simp only[if_neg e,e,false_and,if_false];rw[if_neg (show ¬ x.w.1=true by rw[show x.w.1=x.rooted from rfl,hf];decide)];rfl
   .rw[if_neg h3];have h3:x.steps=[]:=Classical.not_not.mp h3;have he:=hx.end_ h3;have e:x.w=noWay:=by simp only[Ad.w,noWay,hf,h3,he]
    unfold wayFrom questFrom;simp only[e,if_true,true_and];rfl
theorem mV (a b:Way):PyData.eqv (wayOf a) (wayOf b)=decide (a=b):=by
 obtain⟨r,ss,e⟩:=a;obtain⟨q,tt,f⟩:=b;rw[Bool.eq_iff_iff,decide_eq_true_eq];simp only[wayOf,PyData.eqv,PyData.eqvAll,Bool.and_eq_true,Bool.and_true,beq_iff_eq,Prod.mk.injEq];constructor
 .rintro⟨h1,h2,h3⟩;exact⟨h1,(eK mB _ _).mp h2,h3⟩
 .rintro⟨h1,h2,h3⟩;exact⟨h1,(eK mB _ _).mpr h2,h3⟩
theorem mW (w:Way):(goneV w).2.1.length<=w.2.1.length:=by
 unfold goneV goneW;split
 .rename_i h;simp
 .rename_i h;have:=length_pos_iff.mpr h;split
  .cases w.1 <;> simp <;> lia
  .exact gone_len _ _
theorem AE:StepOk sStay:=⟨`d,`d⟩
theorem AF:StepOk sUp:=⟨`d,`d⟩
theorem iW {w:Way}(h:∀s∈w.2.1,StepOk s):∀s∈(goneV w).2.1,StepOk s:=by
 intro s hs;unfold goneV goneW at hs;split at hs
 .cases hs
 .split at hs
  .cases e:w.1
   .rw[e] at hs;simp at hs;subst hs;exact AE
   .rw[e] at hs;simp at hs
  .rcases Ag s hs with z|z
   .exact h s z.1
   .rw[z.2];exact AF
theorem AG {w:Way}(h:w.2.1=[]->w.2.2=w.1):(goneV w).2.1=[]->(goneV w).2.2=(goneV w).1:=by
 intro e;unfold goneV goneW at e ⊢;split at e
 .rename_i z;rw[if_pos z];exact h z
 .rename_i z;rw[if_neg z];split at e
  .rename_i y;rw[if_pos y];cases ew:w.1
   .rw[ew] at e;simp at e
   .rfl
  .rename_i y;exact absurd e y
theorem AH (w:Way):(goneV w).1=w.1:=Ah _ _ _
theorem Ad.Wf.gone {x:Ad}(h:x.Wf):x.gone.Wf where
 sch:=h.sch
 hou:=h.hou
 doo:=h.doo
 stp:=iW (w:=x.w) h.stp
 roo:=λz=>(AH x.w).trans (h.roo z)
 end_:=AG (w:=x.w) h.end_
 que:=h.que
 mar:=h.mar
theorem Ad.gone_len (x:Ad):x.gone.steps.length<=x.steps.length:=mW x.w
theorem mX (w:Way):(holder w).length<=w.2.1.length:=by
 have:=mW w;unfold holder;split
 .exact this
 .rw[length_dropLast];lia
theorem AI {w:Way}(h:∀s∈w.2.1,StepOk s):∀s∈holder w,StepOk s:=by
 intro s hs;unfold holder at hs;split at hs
 .exact iW h s hs
 .exact iW h s (List.dropLast_subset _ hs)
theorem AJ {b w:Way}(hb:∀s∈b.2.1,StepOk s)(hw:∀s∈w.2.1,StepOk s):∀s∈(wayFrom b w).2.1,StepOk s:=by
 intro s hs;unfold wayFrom at hs;split at hs
 .exact hb s hs
 .split at hs
  .exact hw s hs
  .rcases mem_append.mp hs with z|z
   .exact AI hb s z
   .exact hw s z
theorem AK (b w:Way):(wayFrom b w).2.1.length<=b.2.1.length+w.2.1.length:=by
 unfold wayFrom;have:=mX b;split
 .lia
 .split
  .lia
  .simp only[length_append];lia
theorem AL {b w:Way}(hr:b.1=true)(hb:b.2.1=[]->b.2.2=b.1)(hw:w.2.1=[]->w.2.2=w.1):(wayFrom b w).1=true/\((wayFrom b w).2.1=[]->(wayFrom b w).2.2=(wayFrom b w).1):=by
 unfold wayFrom;split
 .exact⟨hr,hb⟩
 .rename_i h;split
  .rename_i h2;exact⟨h2,hw⟩
  .rename_i h2;refine⟨rfl,λe=>?_⟩;have e:=(List.append_eq_nil_iff.mp e).2;have h3:w.1=false:=by simpa using h2
   have h4:=hw e;exfalso;apply h;obtain⟨w1,w2,w3⟩:=w;dsimp only at e h3 h4;subst e h3 h4;rfl
theorem AM {b x:Ad}(hb:b.Wf)(hx:x.Wf)(wb:b.scheme≠[]):(madeWhole b x).Wf:=by
 have dl:=hb.roo (.inl wb);unfold madeWhole;split
 .rename_i h;exact⟨hb.sch,hx.hou,hx.doo,hx.stp,λ_=>hx.roo (.inr h),hx.end_,hx.que,hx.mar⟩
 .have hw:=AL (b:=b.w) (w:=x.w) dl hb.end_ hx.end_;refine⟨hb.sch,hb.hou,hb.doo,AJ hb.stp hx.stp,λ_=>hw.1,hw.2,λps e=>?_,hx.mar⟩;unfold questFrom at e;dsimp only at e;split at e
  .exact hb.que ps e
  .exact hx.que ps e
theorem mY (b x:Ad):(madeWhole b x).steps.length<=b.steps.length+x.steps.length:=by
 unfold madeWhole;split
 .dsimp only;lia
 .exact AK b.w x.w
theorem AN {b x:Ad}(hb:b.Wf)(hx:x.Wf)(wb:b.scheme≠[]):(resM b x).Wf:=by
 by_cases h:x.scheme=[]
 .rw[iV hx h];exact (AM hb hx wb).gone
 .rw[iU h];exact hx.gone
theorem AO {b x:Ad}(hx:x.Wf):(resM b x).steps.length<=b.steps.length+x.steps.length:=by
 by_cases h:x.scheme=[]
 .rw[iV hx h];exact Nat.le_trans (Ad.gone_len _) (mY b x)
 .rw[iU h];have:=Ad.gone_len x;lia
end Wm
namespace Wm
end Wm
namespace Wm
open PySem L2
noncomputable def cutA {α:Type}(xs:List α)(lo hi:Option Int):List α:=(xs.drop (HT.sIx `x 0 lo)).take (HT.sIx `x `x hi - HT.sIx `x 0 lo)
theorem AQ {α:Type}(f:α->V)(xs:List α)(lo hi:Option Int):cutV (xs.map f) lo hi=(cutA xs lo hi).map f:=by unfold cutV cutA;rw[length_map,map_take,map_drop]
theorem AR {α:Type}(xs:List α){n:Nat}{i:Int}(h:HT.sIx `x `x (some i)=n):cutA xs none (some i)=xs.take n:=by unfold cutA;rw[h,show HT.sIx `x 0 none=0 from rfl,drop_zero,Nat.sub_zero]
theorem mZ {α:Type}(xs:List α):cutA xs none (some (-1))=xs.dropLast:=by rw[AR (n:=`x - 1),List.dropLast_eq_take];show (if (-1:Int) < 0 then ((-1:Int)+(`x:Int)).toNat else min (-1:Int).toNat `x)=_;rw[if_pos `d];lia
end Wm
namespace L2
open PySem
end L2
namespace Wm
open PySem L2
section
variable {H:Hp}
theorem AS {r e:Bool}{ss:List Tq}{v:V}(h:IsT H (.tuple [.bool r,.tuple (ss.map st),.bool e]) v):∃p q,v=.ref p/\H p=some (.tup [.bl r,.ref q,.bl e])/\H q=some (.tup (ss.map λl=>V.str `A)):=by obtain⟨p,x,y,z,rfl,hp,h1,h2,h3⟩:=isT3 h;cases mD h1;cases mD h3;obtain⟨q,xs,rfl,hq,r⟩:=bw h2;cases mE r;exact⟨p,q,rfl,hp,hq⟩
theorem wayT' {r e:Bool}{ss:List Tq}{p q:Addr}(hp:H p=some (.tup [.bl r,.ref q,.bl e]))(hq:H q=some (.tup (ss.map λl=>V.str `A))):IsT H (.tuple [.bool r,.tuple (ss.map st),.bool e]) (.ref p):=
 .tup hp (.cons (.bl _) (.cons (.tup hq (mS _)) (.cons (.bl _) .nil)))
theorem ma {x:Ad}{v:V}(h:IsT H x.data v):∃p w q,v=.ref p/\H p=some (.tup [.str ⟨x.scheme.toArray⟩,otV x.house,itV x.door,w,q,otV x.mark])/\IsT H x.way w/\IsT H (qD x.quest) q:=by obtain⟨p,x0,x1,x2,x3,x4,x5,rfl,hp,i0,i1,i2,i3,i4,i5⟩:=isT6 (show IsT H (.tuple [st x.scheme,oD x.house,iD x.door,x.way,qD x.quest,oD x.mark]) v from h);cases iP i0;cases mC i1;cases Aa i2;cases mC i5;exact⟨p,x3,x4,rfl,hp,i3,i4⟩
theorem adT {x:Ad}{p:Addr}{w q:V}(hp:H p=some (.tup [.str ⟨x.scheme.toArray⟩,otV x.house,itV x.door,w,q,otV x.mark]))(hw:IsT H x.way w)(hq:IsT H (qD x.quest) q):IsT H x.data (.ref p):=
 .tup hp (.cons (.str _) (.cons (iM _) (.cons (lq _) (.cons hw (.cons hq (.cons (iM _) .nil))))))
end
theorem Ad.Wf.local {x:Ad}(h:x.Wf):({x with scheme:=[],house:=none,door:=none}:Ad).Wf:=
 ⟨⟨Nat.zero_le _,(λc hc=>by cases hc),(λc hc=>by cases hc)⟩,(λl e=>by cases e),(λl e=>by cases e),h.stp,(λz=>z.elim (λy=>absurd rfl y) (λy=>absurd rfl y)),h.end_,h.que,h.mar⟩
def Goods (n:Nat)(H:Hp)(vs:`V):Prop:=∀v∈vs,∃x:Ad,x.Wf/\x.steps.length<=n/\IsT H x.data v
theorem Goods.cons {n:Nat}{H:Hp}{v:V}{vs:`V}{x:Ad}(h1:x.Wf)(h2:x.steps.length<=n)(h3:IsT H x.data v)(h:Goods n H vs):Goods n H (v::vs):=λu hu=>by
 rcases mem_cons.mp hu with rfl|hu
 .exact⟨x,h1,h2,h3⟩
 .exact h u hu
end Wm
namespace L2
open PySem PySem.Spec PyProof.Rows
end L2
namespace Wm
open PySem L2
structure GoodAd (n:Nat)(x:Ad):Prop where
 wf:x.Wf
 ti:x.Tiny
 sc:x.scheme≠[]
 ln:x.steps.length<=n
end Wm
namespace L2
open PySem PySem.Spec PyProof.Rows
section
variable {prog:Program}{w:World}{A:Around}{E:`T}{s:Shared}
end
section
variable {X:Cx}{tg:Expr}{K:`F}
variable {Z:St}{H:Hp}{D:Ends}{g:TG}{tb:TS}{aa:TA}
end
theorem md:fillsNumberSlot (.type "tuple") "mul"=pure false:=PySem.fillsNumberSlot_seq (id := "tuple.__mul__") (r:=some (.builtin "tuple.__rmul__")) F.slot_tuple_mul.lookup `k F.slot_tuple_rmul.lookup `k
theorem me:seqRepeat? (.type "tuple")=pure (some (.builtin "tuple.__mul__")):=by unfold seqRepeat?;rw[PySem.seqSlot_of (T := "tuple") (name := "__mul__") (id := "tuple.__mul__") F.slot_tuple_mul.lookup `k,PySem.seqSlot_of (T := "tuple") (name := "__rmul__") (id := "tuple.__rmul__") F.slot_tuple_rmul.lookup `k];rfl
theorem mf (a:Int)(t:Tok)(l:Addr)(items:Array Value)(n:Nat)(dd:Option Addr)(sl:Array (Option Value)) :
  Meets (Builtin.«int.__rmul__» ⟨[.int a t,.ref l],[]⟩) (λ_ R s=>s.heap.get? l=some {cls:=.type "tuple",dict:=dd,data:=.seq items n,slots:=sl}/\R (.ok (.ret Value.notImplemented)) s):=
 .of_wp λprog w A R s h=>by
  obtain⟨hp,g,d,tk,os⟩:=s;obtain⟨hl,h⟩:=h
  wp_walk;exact⟨_,rfl,h⟩
theorem AT (l:Addr)(items:Array Value)(n:Nat)(dd:Option Addr)(sl:Array (Option Value))(x:Int)(u:Tok)(h0:items.isEmpty=false)(h1:¬ (decide (x < -(2 ^ 63)) || decide (x ≥ 2 ^ 63))=true)(h2:2<=x)(h3:¬ ((items.size:Int) * x > (2 ^ 63 - 1) / 8))(h4:(items.size:Int) * x<=sizeLine) :
  Meets (Builtin.«tuple.__mul__» ⟨[.ref l,.int x u],[]⟩) (λ_ R s=>s.heap.get? l=some {cls:=.type "tuple",dict:=dd,data:=.seq items n,slots:=sl}/\
   R (.ok (.ret (Value.ref `z))) {s with heap:=s.heap.push {cls:=Value.type "tuple",data:=Data.seq (List.foldl (λx1 x2=>x1++x2) #[] (List.replicate x.toNat items))},toks:=s.toks}):=
 .of_wp λprog w A R s h=>by
  obtain⟨hp,g,d,tk,os⟩:=s;obtain⟨hl,h⟩:=h;unfold Builtin.«tuple.__mul__»
  wp_walk
  have hx1:¬ (items.isEmpty || x == 1)=true:=by rw[h0,Bool.false_or];intro z;have:=eq_of_beq z;lia
  have hx2:¬ (decide (x<=0) || items.isEmpty)=true:=by rw[h0,Bool.or_false,decide_eq_true_eq];lia
  have hx3:¬ Builtin.Tuple.tupleTooMany ((items.size:Int) * x)=true:=by unfold Builtin.Tuple.tupleTooMany;rw[decide_eq_true_eq];lia
  rw[if_neg h1]
  wp_walk
  rw[if_neg hx1];try dsimp only
  rw[if_neg hx2];try dsimp only
  rw[if_neg h3];try dsimp only
  rw[if_neg hx3];refine wpAny_bind (m:=Builtin.Tuple.tupleExact _) (wpAny_newObj_type (wpAny_pure ⟨_,rfl,h⟩) ?_);show (List.foldl (λx1 x2=>x1++x2) #[] (List.replicate x.toNat items)).size<=sizeLine;have e:List.foldl (λx1 x2=>x1++x2) #[] (List.replicate x.toNat items.toList.toArray)=(List.replicate x.toNat items.toList).flatten.toArray:=by have:=gy items.toList x.toNat [];rw[nil_append] at this;exact this
  rw[show items.toList.toArray=items by simp] at e;rw[e,size_toArray,kn,Array.length_toList];have:(items.size:Int) * x=((x.toNat * items.size:Nat):Int):=by rw[Int.natCast_mul,Int.toNat_of_nonneg `l,Int.mul_comm]
  lia
section
variable {X:Cx}
def rRepT:R2:=λx y H Q=>∃a k xs,x=.ref a/\y=.int k/\H a=some (.tup xs)/\2<=k/\k < 1000/\`x * k.toNat<=sizeLine/\∀p H',Same H H'->H' p=some (.tup (List.replicate k.toNat xs).flatten)->Q (.ref p) H'
theorem mh (l:Addr)(items:Array Value)(n:Nat)(dd:Option Addr)(sl:Array (Option Value))(x:Int)(u:Tok)(h0:items.isEmpty=true)(h1:¬ (decide (x < -(2 ^ 63)) || decide (x ≥ 2 ^ 63))=true) :
  Meets (Builtin.«tuple.__mul__» ⟨[.ref l,.int x u],[]⟩) (λ_ R s=>s.heap.get? l=some {cls:=.type "tuple",dict:=dd,data:=.seq items n,slots:=sl}/\R (.ok (.ret (Value.ref l))) s):=
 .of_wp λprog w A R s h=>by
  obtain⟨hp,g,d,tk,os⟩:=s;obtain⟨hl,h⟩:=h;unfold Builtin.«tuple.__mul__»;have hx1:(items.isEmpty || x == 1)=true:=by rw[h0,Bool.true_or]
  wp_walk
  rw[if_neg h1]
  wp_walk
  exact⟨_,rfl,h⟩
theorem AU:OpR X (binaryOp .Mult) rRepT:=by
 intro Cl s Z H x y v u Q I rx ry h;obtain⟨a,k,xs,rfl,rfl,hH,h1,h2,hz,q⟩:=h;cases rx;obtain⟨t,rfl⟩:=ry;obtain⟨dl,r,p,hl⟩:=I.tuple (SqT.of hH);obtain⟨⟨cls,dd,Ga,sl⟩,ho,hc,n,hd⟩:=id p;simp only at hc hd;subst hc hd;have Fr:=r.length;have hb:¬ (decide (k < -(2 ^ 63)) || decide (k ≥ 2 ^ 63))=true:=by rw[Bool.or_eq_true,decide_eq_true_eq,decide_eq_true_eq];lia
 have mt:((dl.toArray.size:Nat):Int) * k<=sizeLine:=by
  rw[size_toArray,<- Fr];have:(`x:Int) * k=((`x * k.toNat:Nat):Int):=by rw[Int.natCast_mul,Int.toNat_of_nonneg `l]
  lia
 refine wpAny_binaryOp_repeat_ref (T := "tuple") (U := "int") `d p.typeIs (λs'=>typeIs_int s' k t) md F.fills_int_mul F.slot_int_rmul me F.slot_int_index.lookup
  (call_meets F.slot_int_rmul (typeIs_int s k t) F.entry_int_rmul (F.args_int_rmul_2 _ _) (mf k t a dl.toArray n dd sl) ⟨ho,rfl,p.typeIs,?_⟩)
 by_cases he:dl=[]
 .subst he;have Fn:xs=[]:=r.nil_iff.mp rfl;subst Fn;exact call_meets F.slot_tuple_mul p.typeIs F.entry_tuple_mul (F.args_tuple_mul_2 _ _) (mh a _ n dd sl k t rfl hb) ⟨ho,.ref a,H,I,rfl,q a H `r (by rw[hH];congr 2;exact (List.flatten_eq_nil_iff.mpr λl hl=>(List.mem_replicate.mp hl).2).symm)⟩
 .have h0:dl.toArray.isEmpty=false:=by simpa using he
  have BT:¬ (((dl.toArray.size:Nat):Int) * k > (2 ^ 63 - 1) / 8):=by
   have:(sizeLine:Int)<=(2 ^ 63 - 1) / 8:=by decide
   lia
  refine call_meets F.slot_tuple_mul p.typeIs F.entry_tuple_mul (F.args_tuple_mul_2 _ _) (AT a _ n dd sl k t h0 hb h1 BT mt) ⟨ho,?_⟩;have e:List.foldl (λx1 x2=>x1++x2) #[] (List.replicate k.toNat dl.toArray)=(List.replicate k.toNat dl).flatten.toArray:=by have:=gy dl k.toNat [];rw[nil_append] at this;exact this
  rw[e];have hf:H `z=none:=I.hok.fresh `n;refine⟨.ref `z,_,I.laid (t':=s.toks) (o:=.tup (List.replicate k.toNat xs).flatten) (λb ob q=>Heap.get?_push_of_some _ q) `n ?_,rfl,q _ _ (aM hf) aB⟩;exact⟨by rw[kn,Nat.mul_comm];exact hz,_,r.rep k.toNat,IsTup.new _ _⟩
end
theorem AV (l:Addr)(items:Array Value)(n:Nat)(dd:Option Addr)(sl:Array (Option Value))(u:Tok) :
  Meets (Builtin.«tuple.__mul__» ⟨[.ref l,.int 1 u],[]⟩) (λ_ R s=>s.heap.get? l=some {cls:=.type "tuple",dict:=dd,data:=.seq items n,slots:=sl}/\R (.ok (.ret (Value.ref l))) s):=
 .of_wp λprog w A R s h=>by
  obtain⟨hp,g,d,tk,os⟩:=s;obtain⟨hl,h⟩:=h;unfold Builtin.«tuple.__mul__»;have hx1:(items.isEmpty || ((1:Int) == 1))=true:=by simp
  have h1:¬ (decide ((1:Int) < -(2 ^ 63)) || decide ((1:Int) ≥ 2 ^ 63))=true:=by decide
  wp_walk
  first|rw[if_neg h1]|skip
  wp_walk
  first|rw[if_pos hx1]|skip
  wp_walk
  exact⟨_,rfl,h⟩
theorem AW (l:Addr)(items:Array Value)(n:Nat)(dd:Option Addr)(sl:Array (Option Value))(u:Tok)(h0:items.isEmpty=false) :
  Meets (Builtin.«tuple.__mul__» ⟨[.ref l,.int 0 u],[]⟩) (λ_ R s=>s.heap.get? l=some {cls:=.type "tuple",dict:=dd,data:=.seq items n,slots:=sl}/\
   R (.ok (.ret (Value.ref `z))) {s with heap:=s.heap.push {cls:=Value.type "tuple",data:=Data.seq #[]},toks:=s.toks}):=
 .of_wp λprog w A R s h=>by
  obtain⟨hp,g,d,tk,os⟩:=s;obtain⟨hl,h⟩:=h;unfold Builtin.«tuple.__mul__»;have h1:¬ (decide ((0:Int) < -(2 ^ 63)) || decide ((0:Int) ≥ 2 ^ 63))=true:=by decide
  have hx1:¬ (items.isEmpty || ((0:Int) == 1))=true:=by rw[h0];decide
  have hx2:(decide ((0:Int)<=0) || items.isEmpty)=true:=by simp
  wp_walk
  first|rw[if_neg h1]|skip
  wp_walk
  first|rw[if_neg hx1]|skip
  try dsimp only
  first|rw[if_pos hx2]|skip
  exact⟨_,rfl,h⟩
section
variable {X:Cx}
def rRepN:R2:=λx y H Q=>∃a k xs,x=.ref a/\y=.int k/\H a=some (.tup xs)/\0<=k/\k < 1000/\`x * k.toNat<=sizeLine/\∀p H',Same H H'->H' p=some (.tup (List.replicate k.toNat xs).flatten)->Q (.ref p) H'
theorem AX:OpR X (binaryOp .Mult) rRepN:=by
 intro dl s Z H x y v u Q I rx ry h;obtain⟨a,k,xs,rfl,rfl,hH,h1,h2,hz,q⟩:=h;by_cases hk:2<=k
 .exact AU dl s Z H _ _ v u Q I rx ry ⟨a,k,xs,rfl,rfl,hH,hk,h2,hz,q⟩
 cases rx;obtain⟨t,rfl⟩:=ry;obtain⟨mt,r,p,hl⟩:=I.tuple (SqT.of hH);obtain⟨⟨cls,dd,Fn,sl⟩,ho,hc,n,hd⟩:=id p;simp only at hc hd;subst hc hd;refine wpAny_binaryOp_repeat_ref (T := "tuple") (U := "int") `d p.typeIs (λs'=>typeIs_int s' k t) md F.fills_int_mul F.slot_int_rmul me F.slot_int_index.lookup
  (call_meets F.slot_int_rmul (typeIs_int s k t) F.entry_int_rmul (F.args_int_rmul_2 _ _) (mf k t a mt.toArray n dd sl) ⟨ho,rfl,p.typeIs,?_⟩)
 have Cl:k=0\/k=1:=by lia
 rcases Cl with rfl|rfl
 .by_cases he:mt=[]
  .subst he;have BT:xs=[]:=r.nil_iff.mp rfl;subst BT;exact call_meets F.slot_tuple_mul p.typeIs F.entry_tuple_mul (F.args_tuple_mul_2 _ _) (mh a _ n dd sl 0 t rfl `d) ⟨ho,.ref a,H,I,rfl,q a H `r hH⟩
  .have h0:mt.toArray.isEmpty=false:=by simpa using he
   refine call_meets F.slot_tuple_mul p.typeIs F.entry_tuple_mul (F.args_tuple_mul_2 _ _) (AW a _ n dd sl t h0) ⟨ho,?_⟩;have hf:H `z=none:=I.hok.fresh `n;refine⟨.ref `z,_,I.laid (t':=s.toks) (o:=.tup []) (λb ob q=>Heap.get?_push_of_some _ q) `n ?_,rfl,q _ _ (aM hf) aB⟩;exact⟨Nat.zero_le _,[],.nil,IsTup.new _ _⟩
 .exact call_meets F.slot_tuple_mul p.typeIs F.entry_tuple_mul (F.args_tuple_mul_2 _ _) (AV a _ n dd sl t) ⟨ho,.ref a,H,I,rfl,q a H `r (by rw[hH];simp)⟩
theorem AY {a:Addr}{k:Int}{H:Hp}{Q:VK}:rRepN (.ref a) (.int k) H Q↔∃xs,H a=some (.tup xs)/\0<=k/\k < 1000/\`x * k.toNat<=sizeLine/\∀p H',Same H H'->H' p=some (.tup (List.replicate k.toNat xs).flatten)->Q (.ref p) H':=by
 constructor
 .rintro⟨a',k',xs,h1,h2,h⟩;cases h1;cases h2;exact⟨xs,h⟩
 .rintro⟨xs,h⟩;exact⟨a,k,xs,rfl,rfl,h⟩
end
section
variable {X:Cx}
end
end L2
namespace L2
open PySem
section
variable {p:Addr}{fv:St}{tt:TT}{te:TE}{Q:VK}{H1:Hp}{K:`F}
theorem AZ {a:Addr}{xs:`V}(f:V->Bool)(g:V->V)(hxs:SqT K H1 a xs)(hlen:`x<=sizeLine)(hp:H1 p=none)
  (ht:∀(i:Nat) (x:V),xs[i]?=some x->∀(H':Hp) (R:Bool->Hp->Prop),Same H1 H'->(∀H'',Same H' H''->R (f x) H'')->tt (some x::fv) H' R)
  (he:∀(i:Nat) (x:V),xs[i]?=some x->f x=true->∀(H':Hp) (T:VK),Same H1 H'->(∀H'',Same H' H''->T (g x) H'')->te (some x::fv) H' T)
  (hQ:∀H',Same H1 H'->H' p=some (.lst ((xs.filter f).map g))->Q (.ref p) H'):CompI (Itt K a) p fv tt te Q H1:=by
 refine⟨λi m ys H2=>m=`x - i/\i<=`x/\ys=((xs.take i).filter f).map g/\H2 p=some (.lst ys)/\Same H1 H2,⟨`x,`s,Nat.zero_le _,`s,aB,λb o e=>by rw[aD (aG e hp)];exact e⟩,?_⟩;rintro i m ys H2 ⟨rfl,hi,rfl,dl,sm⟩;refine⟨dl,?_⟩;have q:=sm.tup hxs;by_cases mt:i < `x
 .refine .inr ⟨⟨xs,xs[i],q,by simp[mt]⟩,?_,λx H3 y=>?_⟩
  .rw[length_map];have:=length_filter_le f (xs.take i);rw[length_take] at this;lia
  .obtain⟨rfl,y⟩:=y;have hc:=y xs q;refine ht i x hc _ _ sm λH4 s4=>?_;by_cases hf:f x=true
   .rw[if_pos hf];refine he i x hc hf _ _ (sm.trans s4) λH5 s5=>⟨(s4.trans s5) _ _ dl,`x - (i+1),`l,rfl,mt,?_,aB,λb o e=>?_⟩
    .rw[take_add_one,hc];simp[hf]
    .rw[aD (aG e hp)];exact (s4.trans s5) _ _ (sm _ _ e)
   .rw[if_neg hf];refine⟨`x - (i+1),`l,rfl,mt,?_,s4 _ _ dl,sm.trans s4⟩;rw[take_add_one,hc];simp[hf]
 .have e:i=`x:=by lia
  subst e;refine .inl ⟨⟨xs,q,Nat.le_refl _⟩,hQ H2 sm ?_⟩;rw[dl,take_length]
end
end L2
namespace L2
open PySem PySem.Spec PyProof.Rows
section
variable {X:Cx}{pins:`O}{Z:St}{H1:Hp}{s3:Shared}{x x2:Str}{fx:List Str}{fr:Tq}{scope:Scope}{cl:List (Str×Addr)}{fp:List Addr}
end
def CompI2 (K:`F)(J:It)(p:Addr)(fv:St)(tt:TT)(te:TE)(Q:VK)(H1:Hp):Prop:=
 ∃W:Nat->Nat->`V->Hp->Prop,(∃m,W 0 m [] (upd H1 p (.lst [])))/\∀i m ys H2,W i m ys H2->H2 p=some (.lst ys)/\
  ((J.stop i H2/\Q (.ref p) H2)\/(J.go i H2/\ys.length < sizeLine/\∀z H3,J.yld i H2 z H3->∃a x y,z=.ref a/\SqT K H3 a [x,y]/\tt (some x::some y::fv) H3 λb H4=>
   if b=true then te (some x::some y::fv) H4 λy H5=>H5 p=some (.lst ys)/\∃m',m' < m/\W (i+1) m' (ys++[y]) (upd H5 p (.lst (ys++[y])))
   else ∃m',m' < m/\W (i+1) m' ys H4))
def tComp2 (K:`F)(wi:TI)(fr:Tq)(tt:TT)(te:TE):TE:=λZ H Q=>wi Z H λJ H1=>∀p,H1 p=none->CompI2 K J p (frV Z fr) tt te Q H1
section
variable {X:Cx}{elt iter:Expr}{x x2:Str}{px px2 ptx pos:Pos}{kx:Nat}{ifs:List Expr}{scope:Scope}{cl:List (Str×Addr)}{fx:List Str}{fr:Tq}{wi:TI}{tt:TT}{te:TE}
end
section
variable {p:Addr}{fv:St}{te:TE}{Q:VK}{H1:Hp}{K:`F}
end
section
variable {X:Cx}
end
end L2
namespace Wm
open PySem L2
noncomputable def low1 (c:Nat):Nat:=if 65<=c/\c<=90 then c+32 else c
theorem B0 (c:Nat):low1 (low1 c)=low1 c:=by unfold low1;split <;> (try split) <;> lia
noncomputable def lowT (l:Tq):Tq:=l.map low1
theorem mj (l:Tq):lowT (lowT l)=lowT l:=by unfold lowT;rw[map_map];exact map_congr_left (λc _=>B0 c)
noncomputable def plainM (x:Ad):Ad:=({x with scheme:=lowT x.scheme,house:=x.house.map lowT}:Ad).gone
theorem ml {c:Nat}(h:isSg c=true):c < 128:=by have:=bA h;lia
theorem B1 (x:Ad):plainM (plainM x)=plainM x:=by
 have e:({plainM x with scheme:=lowT (plainM x).scheme,house:=(plainM x).house.map lowT}:Ad)=plainM x:=by
  have h1:lowT (plainM x).scheme=(plainM x).scheme:=mj _;have h2:(plainM x).house.map lowT=(plainM x).house:=by
   show (x.house.map lowT).map lowT=x.house.map lowT;cases x.house with
   |none=>rfl
   |some l=>simp[mj]
  rw[h1,h2]
 show ({plainM x with scheme:=lowT (plainM x).scheme,house:=(plainM x).house.map lowT}:Ad).gone=_;rw[e];exact Ad.gone_again _
end Wm
namespace Wm
end Wm
namespace L2
open PySem
end L2
namespace L2
open PySem PySem.Spec PySem.W PyProof.Rows
noncomputable abbrev vErr:List Value:=[.type "ValueError",.type "Exception",.type "BaseException",.type "object"]
noncomputable abbrev vNew:String := "ValueError.__new__"
noncomputable def clsIs (d:Data)(f:ClassData->Bool):Bool:=match d with
 |.cls c=>f c
 |_=>false
noncomputable def excInJ (K:Frag)(C:Addr)(bmB:List Value)(newId:String)(v:Option Value):Bool:=match K.lookup C with
 |some o=>o.cls == .type "type" && clsIs o.data λcd=>cd.mro == .ref C::cd.mro.tail && (o.slots == #[o.slots.getD 0 none,o.slots.getD 1 none,o.slots.getD 2 none,o.slots.getD 3 none,some (.builtin newId),o.slots.getD 5 none] && (!cd.hasDel && (tailIn K bmB cd.mro.tail && (nsOkIn K cd.ns && nsIn K cd.ns "__init__" == some v))))
 |_=>false
structure Flown (P:Program)(w:World)(base:Heap)(outer:List Env)(H:Hp)(s:Shared)(a t C:Addr)(B:Heap)(H':Hp)(s':Shared):Prop where
 os:s'.os=s.os
 bare:AllBare s'.gens
 st:base.StaysIn B
 fly:Heap.FlyingW B outer a (.ref C) (.ref t) s'.heap
 hok:HOk P w H' B
 un:Un (frs outer) [] H H' s.heap s'.heap
 kb:∀b o,s.heap.get? b=some o->H b=none->b∉frs outer->B.get? b=some o
 thB:∀b o,s.heap.get? b=some o->b∉frs outer->∃o',B.get? b=some o'
section
variable {P:Program}{w:World}{K:Frag}{mg:Str->Option Value}{base:Heap}{N:List Str}{qual:Str}{scope:Scope}{f:Addr}{cd:Value}{A:Around}{outer:List Env}{s:Shared}{H:Hp}{E:XK}
end
section
variable {X:Cx}{pins:`O}{Z:St}{H H1 H2:Hp}{s s1 s2:Shared}
end
structure Catch (K:Frag)(W:Addr):Prop where
 ty:typeIn K (.ref W)=some (.type "type")
 ex:subIn K (.ref W) (.type "BaseException")=some true
 cl:(clsIn K W).isSome=true
end L2
namespace L2
open PySem PySem.Spec PySem.W PySem.Calls PyProof.Rows PySem.Builtin PySem.Builtin.ObjectAttr PySem.Builtin.Getset_descriptor
structure ExLook (K:Frag)(C:Addr):Prop where
 ga:findIn K (.ref C) "__getattribute__"=some (some (.builtin "BaseException.__getattribute__"))
 cl:findIn K (.ref C) "__class__"=some (some (.builtin "object.__class__"))
 na:findIn K (.ref C) "__getattr__"=some none
 mo:mroIn K C (.type "object")=some true
 mb:mroIn K C (.type "BaseException")=some true
 is:(clsIn K C).isSome=true
section
variable {prog:Program}{w:World}{A:Around}{E:`T}{hh:Heap}{g:Array GenState}{dr:Drawn}{t:Nat}{os:OsState}{K:Frag}{a C:Addr}{o:Obj}
end
inductive KitAns (K:Frag)(H:Hp)(C:Addr):V->Bool->Prop
 |cls {W:Addr}{b:Bool}:kitOne K (.ref C) (.ref W)=some b->KitAns K H C (.ref W) b
 |ty {T:String}{b:Bool}:kitOne K (.ref C) (.type T)=some b->KitAns K H C (.ty T) b
 |tup {p:Addr}{cs:List Addr}{b:Bool}:H p=some (.tup (cs.map V.ref))->kitAny K (.ref C) (cs.map Value.ref)=some b->KitAns K H C (.ref p) b
end L2
namespace L2
open PySem PySem.W
end L2
namespace L2
open PySem PySem.Spec PyProof.Rows
theorem sw3 (x y:Str)(t u:Tok)(i:Nat)(v:Tok) :
  Meets (Builtin.«str.startswith» ⟨[.str x t,.str y u,.int (i:Int) v],[]⟩) (λ_ R s=>R (.ok (.ret (.bool (decide (i+y.length<=x.length) && Builtin.Str.subAt x y i)))) s):=
 .of_wp λprog w A R s h=>by
  obtain⟨hp,g,d,tk,os⟩:=s;unfold Builtin.«str.startswith»
  wp_walk
  rw[F.slot_int_index.lookup]
  wp_walk
  refine⟨_,rfl,?_⟩;have e1:(max (0:Int) (if (i:Int) < 0 then (i:Int)+(x.length:Int) else (i:Int))).toNat=i:=by rw[if_neg `l];lia
  have e2:min ((x.length:Nat):Int).toNat x.length=x.length:=by lia
  dsimp only;rw[e1,e2];exact h
section
variable {X:Cx}
def rStarts:V->`V->Hp->VK->Prop:=λx vs H Q=>∃z y,∃i:Nat,x=.str z/\vs=[.str y,.int (i:Int)]/\Q (.bl (decide (i+y.length<=z.length) && Builtin.Str.subAt z y i)) H
theorem B2:MtR X "str.startswith" rStarts:=by intro dl s Z H x vs v us Q I rx rv h;obtain⟨z,y,i,rfl,rfl,q⟩:=h;obtain⟨t,rfl⟩:=rx;obtain⟨u1,u2,rfl,r1,r2⟩:=vals2 rv;obtain⟨t1,rfl⟩:=r1;obtain⟨t2,rfl⟩:=r2;exact call_meets F.slot_str_startswith (typeIs_str _ _ _) F.entry_str_startswith (F.args_str_startswith_3 _ _ _) (sw3 z y t t1 i t2) ⟨.bl _,H,I,rfl,q⟩
end
section
variable {X:Cx}
def rPart:V->`V->Hp->VK->Prop:=λx vs H Q=>∃z y,x=.str z/\vs=[.str y]/\(y.length == 0)=false/\z.length<=sizeLine/\
 ∀p,H p=none->Q (.ref p) (upd H p (.tup [.str (Txt.partition z y).1,.str (Txt.partition z y).2.1,.str (Txt.partition z y).2.2]))
theorem cr:MtR X "str.partition" rPart:=by
 intro dl s Z H x vs v us Q I rx rv h;obtain⟨z,y,rfl,rfl,hy,hz,q⟩:=h;obtain⟨t,rfl⟩:=rx;obtain⟨u,rfl,t',rfl⟩:=vals1 rv;have hf:H `z=none:=I.hok.fresh `n;have q:=q _ hf;refine call_meets F.slot_str_partition (typeIs_str _ _ _) F.entry_str_partition (F.args_str_partition_2 _ _) (meets_str_partition z y t t' hy hz) ?_;unfold Txt.partition at q;revert q;cases Builtin.Str.occurrences z y 0 z.length 1 with
 |nil=>intro q;refine⟨.ref `z,_,I.laid (t':=s.toks+1) (o:=.tup _) (λb u e=>Heap.get?_push_of_some _ e) `l ?_,rfl,q⟩;exact⟨by show 3<=sizeLine;decide,_,.cons `o (.cons `o (.cons `o .nil)),IsTup.new _ _⟩
 |cons i r=>intro q;refine⟨.ref `z,_,I.laid (t':=s.toks+1+1) (o:=.tup _) (λb u e=>Heap.get?_push_of_some _ e) `l ?_,rfl,q⟩;exact⟨by show 3<=sizeLine;decide,_,.cons `o (.cons `o (.cons `o .nil)),IsTup.new _ _⟩
end
theorem mn {us:List Value}{d:Value}(h:(us++[d]).length=3):∃x y,us=[x,y]:=by
 match us,h with
 |[x,y],_=>exact⟨x,y,rfl⟩
 |[],h=>simp at h
 |[_],h=>simp at h
 |_::_::_::_,h=>simp at h
section
variable {X:Cx}
def rIntS:`V->Hp->VK->Prop:=λxs H Q=>∃z n,xs=[.str z]/\z.length<=640/\PySem.intText? z=some n/\Q (.int n) H
theorem B3:CallR X (.type "int") rIntS:=by intro pins s Z H xs us Q I r h;obtain⟨z,n,rfl,hz,hn,q⟩:=h;obtain⟨u,rfl,t,rfl⟩:=vals1 r;exact PySem.W.KIN.call_text hn hz ⟨.int n,H,I.tok _,`o,q⟩
theorem B4 {z y:Str}{i:Nat}{H:Hp}{Q:VK}:rStarts (.str z) [.str y,.int (i:Int)] H Q↔Q (.bl (decide (i+y.length<=z.length) && Builtin.Str.subAt z y i)) H:=
 ⟨λ⟨_,_,j,e1,e2,h⟩=>by
  cases e1;injection e2 with e2 e3;cases e2;injection e3 with e3;injection e3 with e3;obtain rfl:i=j:=by lia
  exact h,λh=>⟨z,y,i,rfl,rfl,h⟩⟩
theorem mq {z y:Str}{H:Hp}{Q:VK}:rPart (.str z) [.str y] H Q↔(y.length == 0)=false/\z.length<=sizeLine/\∀p,H p=none->Q (.ref p) (upd H p (.tup [.str (Txt.partition z y).1,.str (Txt.partition z y).2.1,.str (Txt.partition z y).2.2])):=
 ⟨λ⟨_,_,e1,e2,h⟩=>by cases e1;cases e2;exact h,λh=>⟨z,y,rfl,rfl,h⟩⟩
theorem B5 {K:`F}{ta:TE}{f:Str}{Z:St}{H:Hp}{Q:VK}:(tFld K ta f Z H Q)=(ta Z H λx H1=>FldE K f x H1 λv=>Q v H1):=rfl
theorem B6 {K:`F}{ta tv:TE}{f:Str}{D:Ends}{Z:St}{H:Hp}:(sFld K ta tv f D Z H)=(tv Z H λy H1=>ta Z H1 λx H2=>SfE K f x y H2 λH'=>D.nx Z H'):=rfl
theorem B7 {C:Addr}{m:Str}{sp:Sp}{dvs:`V}{E:XK}{ta:TE}{t:TA}{Z:St}{H:Hp}{Q:VK}:(tMeth C m sp dvs E ta t Z H Q)=(ta Z H λx H1=>MeE C m x H1 (t Z H1 λvs H2=>sp (x::(vs++dvs)) H2 Q E)):=rfl
theorem B8 {C:Addr}{sp:Sp}{dvs:`V}{E:XK}{t:TA}{Z:St}{H:Hp}{Q:VK}:(tMake C sp dvs E t Z H Q)=(t Z H λvs H1=>∀x dx,H1 x=none->H1 dx=none->dx≠x->sp (.ref x::(vs++dvs)) (upd (upd H1 dx (.own x)) x (.ins C dx [])) (λv H2=>v=.non/\Q (.ref x) H2) E):=rfl
end
end L2
namespace Wm
open PySem L2
theorem iX (t w:Tq)(i:Nat)(hi:i<=`t):(decide (i+(⟨w.toArray⟩:Str).length<=(⟨t.toArray⟩:Str).length) && Builtin.Str.subAt ⟨t.toArray⟩ ⟨w.toArray⟩ i)=decide ((t.drop i).take w.length=w):=by
 rw[aE,aE];have e:Builtin.Str.subAt ⟨t.toArray⟩ ⟨w.toArray⟩ i=decide ((t.drop i).take w.length=w):=by unfold Builtin.Str.subAt;rw[aE,Bool.eq_iff_iff,beq_iff_eq,decide_eq_true_eq];show (t.toArray.extract i (i+w.length)=w.toArray)↔_;rw[<- Array.toList_inj];simp
 rw[e];by_cases h:(t.drop i).take w.length=w
 .have hl:=congrArg List.length h;rw[length_take,length_drop] at hl;rw[decide_eq_true h,Bool.and_true];by_cases hw:w.length=0
  .rw[hw,Nat.add_zero];exact decide_eq_true hi
  .exact decide_eq_true `l
 .rw[decide_eq_false h,Bool.and_false]
theorem occ1 (x y:Str):∀(l:Tq) (free:Nat),(∀i∈l,free<=i) ->
  (forIn l ((#[]:Array Nat),free) (StrLaws.occBody x y x.length 1)).run.fst.toList=(l.find? λi=>decide (i+y.length<=x.length) && Builtin.Str.subAt x y i).toList
 |[],free,_=>rfl
 |a::l,free,hf=>by
  rw[forIn_cons,List.find?_cons];have ha:free<=a:=hf a `f;by_cases hc:a+y.length<=x.length/\Builtin.Str.subAt x y a=true
  .have e:(decide (a+y.length<=x.length) && Builtin.Str.subAt x y a)=true:=by rw[decide_eq_true hc.1,hc.2];rfl
   rw[e];unfold StrLaws.occBody;rw[if_pos ⟨⟨⟨`s,ha⟩,hc.1⟩,hc.2⟩];have full:∀(l:Tq) (st:Array Nat×Nat),st.1.size=1->(forIn l st (StrLaws.occBody x y x.length 1)).run.fst=st.1:=by
    intro l;induction l with
    |nil=>intro st _;rfl
    |cons b l ih=>intro st hs;rw[forIn_cons];unfold StrLaws.occBody;rw[if_neg (λh=>by have:=h.1.1.1;lia)];exact ih st hs
   show (forIn l ((#[]:Array Nat).push a,a+y.length) (StrLaws.occBody x y x.length 1)).run.fst.toList=_;rw[full l _ `s];simp
  .have e:(decide (a+y.length<=x.length) && Builtin.Str.subAt x y a)=false:=by
    cases h1:Builtin.Str.subAt x y a with
    |false=>rw[Bool.and_false]
    |true=>rw[Bool.and_true];exact decide_eq_false λz=>hc ⟨z,h1⟩
   rw[e];unfold StrLaws.occBody;rw[if_neg (λh=>hc ⟨h.1.2,h.2⟩)];exact occ1 x y l free λi hi=>hf i (mem_cons_of_mem _ hi)
noncomputable def ahead (t:Tq):Tq:=t.takeWhile λc=>decide (c≠58)
theorem B9 (t:Tq)(i:Nat):(decide (i+(⟨[58].toArray⟩:Str).length<=(⟨t.toArray⟩:Str).length) && Builtin.Str.subAt ⟨t.toArray⟩ ⟨[58].toArray⟩ i)=decide (t[i]?=some 58):=by
 by_cases hi:i<=`t
 .rw[iX t [58] i hi,decide_eq_decide];cases h:t.drop i with
  |nil=>have:t[i]?=none:=List.getElem?_eq_none (by have:=congrArg List.length h;rw[length_drop,length_nil] at this;lia);rw[this];simp
  |cons c r=>
   have:t[i]?=some c:=by rw[<- List.head?_drop,h];rfl
   rw[this];simp
 .rw[List.getElem?_eq_none `l,aE,aE,decide_eq_false (by rw[length_singleton];lia)];rfl
theorem Ba (t:Tq):∀(k:Nat),k<=`t->(t.take k).all (λc=>decide (c≠58))=true ->
  ((List.range' k (`t+1 - k)).find? λi=>decide (t[i]?=some 58))=if 58∈t then some (ahead t).length else none:=by
 intro k;induction hn:`t - k generalizing k with
 |zero=>
  intro hk ha;have e:k=`t:=by lia
  subst e;rw[take_length] at ha;have BT:58∉t:=λh=>by have:=all_eq_true.mp ha 58 h;simp at this
  rw[if_neg BT,show `t+1 - `t=1 by lia];simp
 |succ n ih=>
  intro hk ha;have mt:k < `t:=by lia
  have hc:t[k]?=some t[k]:=List.getElem?_eq_getElem mt;rw[show `t+1 - k=(`t+1 - (k+1))+1 by lia,List.range'_succ,List.find?_cons,hc];by_cases dl:t[k]=58
  .rw[dl];simp only[decide_true];rw[if_pos (by rw[<- dl];exact getElem_mem mt)]
   congr 1
   have ht:t=t.take k++58::t.drop (k+1):=by rw[<- dl,List.getElem_cons_drop,take_append_drop]
   unfold ahead;rw[ht,List.takeWhile_append_of_pos (λc Cl=>all_eq_true.mp ha c Cl),List.takeWhile_cons_of_neg `s];simp;lia
  .rw[show decide (some t[k]=some 58)=false from decide_eq_false (by simpa using dl)];refine ih (k+1) `l `l ?_;rw[take_add_one,hc,List.all_append,ha];simpa using dl
theorem Bb (t:Tq):(Txt.partition ⟨t.toArray⟩ ⟨[58].toArray⟩).1=⟨(ahead t).toArray⟩:=by
 have e:Builtin.Str.occurrences (⟨t.toArray⟩:Str) ⟨[58].toArray⟩ 0 (⟨t.toArray⟩:Str).length 1=(if 58∈t then some (ahead t).length else none).toList:=by rw[StrLaws.occ_eq,occ1 _ _ _ _ (λi _=>Nat.zero_le i)];simp only[B9];rw[aE];exact congrArg Option.toList (Ba t 0 (Nat.zero_le _) rfl)
 unfold Txt.partition;rw[e];by_cases h:58∈t
 .rw[if_pos h];show Builtin.Str.strSub ⟨t.toArray⟩ 0 (ahead t).length=_;unfold Builtin.Str.strSub;have hp:t.take (ahead t).length=ahead t:=(List.prefix_iff_eq_take.mp (List.takeWhile_prefix _)).symm;rw[<- hp,length_take];have:(ahead t).length<=`t:=(List.takeWhile_prefix _).length_le;rw[show min (ahead t).length `t=(ahead t).length by lia];show (⟨t.toArray.extract 0 (ahead t).length⟩:Str)=_;simp
 .rw[if_neg h];have dl:∀l:Tq,58∉l->ahead l=l:=λl=>by
   induction l with
   |nil=>intro _;rfl
   |cons c l ih=>intro hl;have h1:c≠58:=λz=>hl (by rw[z];exact mem_cons_self ..);unfold ahead;rw[List.takeWhile_cons,if_pos (decide_eq_true h1)];exact congrArg (c::·) (ih λz=>hl (mem_cons_of_mem _ z))
  have:ahead t=t:=dl t h;rw[this];rfl
def Cur (H:Hp)(C p:Addr)(t:Tq)(k:Nat):Prop:=∃dx,H p=some (.ins C dx [("text",.str ⟨t.toArray⟩),("place",.int (k:Int))])
inductive WrT (fr:Tq):Tq->Tq->Prop
 |nil:WrT fr [] []
 |self {c:Nat}{s w:Tq}:(isPl c=true\/c∈fr)->c≠126->WrT fr s w->WrT fr (c::s) (c::w)
 |pair {c a b:Nat}{s w:Tq}:sgO a b=some c->WrT fr s w->WrT fr (c::s) (126::a::b::w)
def Stops (fr r:Tq):Prop:=∀c,r.head?=some c->isPl c=false/\c∉fr/\c≠126
noncomputable def moV:Option Nat->V
 |none=>.non
 |some m=>.int (m:Int)
theorem bS {fr s:Tq}(h:∀c∈s,isSg c=true):WrT fr s (wr s):=by
 induction s with
 |nil=>exact .nil
 |cons c s ih=>
  have hc:=h c `f;have ih:=ih λd hd=>h d (mem_cons_of_mem _ hd);show WrT fr (c::s) (wr1 c++wr s);unfold wr1;by_cases hp:isPl c=true
  .rw[if_pos hp];exact .self (.inl hp) (λz=>by rw[z] at hp;cases hp) ih
  .rw[if_neg hp];exact .pair (zm hc) ih
theorem mw {a n:Nat}(h:fig a=some n):a < 128/\n < 16/\(n < 10->a=48+n):=by
 unfold fig at h;split at h
 .cases h;lia
 .split at h
  .cases h;lia
  .split at h
   .cases h;lia
   .cases h
theorem iY {a b c:Nat}(h:sgO a b=some c):a∈(ofString "234567").cps.toList/\a < 128/\b < 128/\isSg c=true:=by
 unfold sgO at h;cases ha:fig a with
 |none=>simp[ha] at h
 |some n=>
  cases hb:fig b with
  |none=>simp[ha,hb] at h
  |some m=>
   simp only[ha,hb] at h;split at h
   .next hs=>
    cases h;obtain⟨a1,a2,a3⟩:=mw ha;obtain⟨b1,b2,_⟩:=mw hb;have hr:=hs;simp only[isSg,Bool.and_eq_true,decide_eq_true_eq] at hr;have e:=a3 `l;refine⟨?_,a1,b1,hs⟩;have dl:∀n,n < 8->2<=n->48+n∈(ofString "234567").cps.toList:=by fail "k"
    rw[e];exact dl n `l `l
   .cases h
section
variable {K:`F}{H:Hp}{C p:Addr}{t:Tq}{i:Nat}
theorem Bc {v u:V}:List.lookup (ofString "text") [(ofString "text",v),(ofString "place",u)]=some v:=by rw[lookup_cons,beq_self_eq_true]
theorem Bd {v u:V}:List.lookup (ofString "place") [(ofString "text",v),(ofString "place",u)]=some u:=by rw[lookup_cons,show (ofString "place" == ofString "text")=false by fail "k",lookup_cons,beq_self_eq_true]
theorem cJ {R:V->Prop}(h:Cur H C p t i)(cl:Cls K C)(n:NoAttr K C "text")(r:R (.str ⟨t.toArray⟩)):FldE K (ofString "text") (.ref p) H R:=
 let ⟨dx,hp⟩:=h
 ⟨p,C,dx,_,_,rfl,hp,cl,n,Bc,r⟩
theorem bh {R:V->Prop}(h:Cur H C p t i)(cl:Cls K C)(n:NoAttr K C "place")(r:R (.int (i:Int))):FldE K (ofString "place") (.ref p) H R:=
 let ⟨dx,hp⟩:=h
 ⟨p,C,dx,_,_,rfl,hp,cl,n,Bd,r⟩
theorem Be {v u w:V}:putF (ofString "place") w [(ofString "text",v),(ofString "place",u)]=[(ofString "text",v),(ofString "place",w)]:=by
 have h:ofString "text" ≠ ofString "place" := by fail "k"
 simp only[putF,if_neg h,if_true]
theorem mx {N:Hp->Prop}{z:Int}(h:Cur H C p t i)(cl:Cls K C)(n:NoAttr K C "place")(j:Nat)(hz:z=(j:Int))(hN:∀H',SameBut p H H'->Cur H' C p t j->N H') :
  SfE K (ofString "place") (.ref p) (.int z) H N:=by
 obtain⟨dx,hp⟩:=h;refine⟨p,C,dx,_,rfl,hp,cl,n,by show 2 < 1000;decide,?_⟩;rw[Be,hz];exact hN _ ag ⟨dx,aB⟩
theorem Bf {m:Str}{v u:V}(h1:(m == ofString "text")=false)(h2:(m == ofString "place")=false):List.lookup m [(ofString "text",v),(ofString "place",u)]=none:=by rw[lookup_cons,h1,lookup_cons,h2];rfl
theorem aX {R:Prop}{m:Str}(h:Cur H C p t i)(r:R)(h1:(m == ofString "text")=false:=by fail "k")(h2:(m == ofString "place")=false:=by fail "k") :
  MeE C m (.ref p) H R:=
 let ⟨dx,hp⟩:=h
 ⟨p,dx,_,rfl,hp,Bf h1 h2,r⟩
theorem Cur.same {H':Hp}(h:Cur H C p t i)(s:Same H H'):Cur H' C p t i:=let ⟨dx,hp⟩:=h;⟨dx,s _ _ hp⟩
end
noncomputable def plS:Tq:=(ofString "abcdefghijklmnopqrstuvwxyzABCDEFGHIJKLMNOPQRSTUVWXYZ0123456789-_.").cps.toList
theorem my:plS.length=65:=`k
theorem eX {c:Nat}(h:c < 128):(c∈plS)↔isPl c=true:=by have:=iK c h;rw[<- this,decide_eq_true_eq];exact Iff.rfl
noncomputable def seesB (t sg:Tq)(i:Nat):Bool:=((t[i]?).map λc=>decide (c∈sg)).getD false
theorem cu {t sg:Tq}{i c:Nat}(h:t[i]?=some c):seesB t sg i=decide (c∈sg):=by unfold seesB;rw[h];rfl
theorem mz {t sg:Tq}{i:Nat}(h:t[i]?=none):seesB t sg i=false:=by unfold seesB;rw[h];rfl
theorem n0 {t w:Tq}{i c:Nat}(h:t.drop i=c::w):t[i]?=some c/\i < `t:=by
 have e:t[i]?=some c:=by rw[<- List.head?_drop,h];rfl
 exact⟨e,(List.getElem?_eq_some_iff.mp e).1⟩
theorem eY {fr s w:Tq}(h:WrT fr s w):s.length<=w.length:=by
 induction h with
 |nil=>exact Nat.le_refl _
 |self _ _ _ ih=>simp only[length_cons];lia
 |pair _ _ ih=>simp only[length_cons];lia
noncomputable def frS:Tq:=(ofString "!$'()*,;@&=+").cps.toList
noncomputable def frQ:Tq:=(ofString "!$'()*,;@+/?:").cps.toList
noncomputable def frM:Tq:=(ofString "!$'()*,;@&=+/?:").cps.toList
theorem cv:frS.length<=100:=`k
theorem Bg {fr:Tq}:Stops fr []:=λc h=>by cases h
theorem nA {fr r:Tq}{c:Nat}(h:isPl c=false/\c∉fr/\c≠126):Stops fr (c::r):=λd e=>by cases e;exact h
def MarW (o:Option Tq)(w:Tq):Prop:=match o with
 |none=>w=[]
 |some s=>∃v,w=35::v/\WrT frM s v
def ValW (o:Option Tq)(w:Tq):Prop:=match o with
 |none=>w=[]
 |some s=>∃v,w=61::v/\WrT frQ s v
def HouW (o:Option Tq)(w:Tq):Prop:=match o with
 |none=>w=[]
 |some s=>∃v,w=47::47::v/\WrT [] s v/\s≠[]/\s.length<=60
inductive TlW:List Tq->Bool->Tq->Prop
 |stop:TlW [] false []
 |ends:TlW [] true [47]
 |more {s w:Tq}{ss:List Tq}{e:Bool}{v:Tq}:WrT frS s w->s≠[]->TlW ss e v->TlW (s::ss) e (47::(w++v))
inductive StpW:List Tq->Bool->Tq->Prop
 |none {e:Bool}:StpW [] e []
 |some {s w:Tq}{ss:List Tq}{e:Bool}{v:Tq}:WrT frS s w->s≠[]->TlW ss e v->StpW (s::ss) e (w++v)
theorem iZ:(47:Nat)∉frS:=`k
theorem nB {fr s w:Tq}(h:WrT fr s w)(hs:s≠[]):∃c r,w=c::r/\(isPl c=true\/c∈fr\/c=126):=by
 cases h with
 |nil=>exact absurd rfl hs
 |self a _ _=>exact⟨_,_,rfl,a.elim .inl (λz=>.inr (.inl z))⟩
 |pair _ _=>exact⟨_,_,rfl,.inr (.inr rfl)⟩
theorem nD {ss:List Tq}{e:Bool}{v rest:Tq}(h:TlW ss e v)(hr:Stops frS rest):Stops frS (v++rest):=by
 cases h with
 |stop=>exact hr
 |ends=>exact nA ⟨`d,iZ,`d⟩
 |more _ _ _=>exact nA ⟨`d,iZ,`d⟩
theorem nE {ss:List Tq}{e:Bool}{v rest:Tq}(h:StpW ss e v)(hr:rest.head?≠some 47):(v++rest).head?≠some 47:=by
 cases h with
 |none=>exact hr
 |some hw hs _=>
  obtain⟨c,r,rfl,hc⟩:=nB hw hs;intro z;have e:c=47:=Option.some.inj z;subst e;rcases hc with z|z|z
  .cases z
  .exact iZ z
  .cases z
theorem Bh {ss:List Tq}{e:Bool}{v:Tq}(h:TlW ss e v):ss.length<=v.length:=by
 induction h with
 |stop=>exact Nat.le_refl _
 |ends=>exact Nat.zero_le _
 |more _ _ _ ih=>simp only[length_cons,length_append];lia
theorem Bi {ss:List Tq}{e:Bool}{v:Tq}(h:StpW ss e v):ss.length<=v.length:=by
 cases h with
 |none=>exact Nat.le_refl _
 |some hw hs ht=>obtain⟨c,r,rfl,_⟩:=nB hw hs;have:=Bh ht;simp only[length_cons,length_append];lia
inductive PrsW:List (Tq×Option Tq)->Tq->Prop
 |nil:PrsW [] []
 |cons {n w v:Tq}{o:Option Tq}{ps:List (Tq×Option Tq)}{r:Tq}:WrT frQ n w->n≠[]->ValW o v->PrsW ps r->PrsW ((n,o)::ps) (38::(w++(v++r)))
def QueW (q:Option (List (Tq×Option Tq)))(w:Tq):Prop:=match q with
 |none=>w=[]
 |some []=>w=[63]
 |some ((n,o)::ps)=>∃a v r,w=63::(a++(v++r))/\WrT frQ n a/\n≠[]/\ValW o v/\PrsW ps r
noncomputable def fgS:Tq:=(ofString "0123456789").cps.toList
theorem Bj {c:Nat}:c∈fgS↔48<=c/\c<=57:=by rw[show fgS=List.range' 48 10 by fail "k",mem_range'_1];lia
noncomputable def valD (ds:Tq):Nat:=ds.foldl (λa c=>a * 10+(c - 48)) 0
theorem eZ (ds:Tq)(c:Nat):valD (ds++[c])=valD ds * 10+(c - 48):=by unfold valD;rw[foldl_append];rfl
theorem nF:∀(es ds:Tq),valD ds<=valD (ds++es)
 |[],ds=>by rw[append_nil];exact Nat.le_refl _
 |c::es,ds=>by have h:=nF es (ds++[c]);rw[eZ,append_assoc] at h;exact Nat.le_trans `l h
theorem Bk {ds:Tq}{c:Nat}{r:Tq}(h:ds=c::r)(hc:49<=c):0 < valD ds:=by
 have:=nF r [c];rw[h];have e:valD [c]=c - 48:=by unfold valD;simp
 show 0 < valD ([c]++r);lia
def DooW (o:Option Int)(w:Tq):Prop:=match o with
 |none=>w=[]
 |some n=>∃ds,w=58::ds/\ds≠[]/\(∀c∈ds,48<=c/\c<=57)/\(valD ds:Int)=n/\valD ds<=65535/\(ds=[48]\/ds.head?≠some 48)
theorem Bl {s r:Tq}(h:∀c∈s,c≠58):ahead (s++58::r)=s:=by unfold ahead;rw[List.takeWhile_append_of_pos (λc hc=>decide_eq_true (h c hc)),List.takeWhile_cons_of_neg `s,append_nil]
theorem nG (t:Tq):∃r,t=ahead t++r:=⟨t.dropWhile λc=>decide (c≠58),(List.takeWhile_append_dropWhile (p:=λc=>decide (c≠58))).symm⟩
theorem Bm (t:Tq):(ahead t).length<=`t:=by obtain⟨r,h⟩:=nG t;have:=congrArg List.length h;rw[length_append] at this;lia
theorem nH (t:Tq):t.take (ahead t++[58]).length=ahead t++[58]↔t[(ahead t).length]?=some 58:=by
 obtain⟨r,h⟩:=nG t;generalize ahead t=a at h;subst h;rw[length_append,length_singleton,List.getElem?_append_right `n,Nat.sub_self,List.take_append];rw[take_of_length_le `l,show a.length+1 - a.length=1 by lia];constructor
 .intro e;have e:=List.append_cancel_left e;cases r with
  |nil=>simp at e
  |cons c r=>simp at e;rw[e];rfl
 .intro e;cases r with
  |nil=>simp at e
  |cons c r=>simp at e;rw[e];rfl
noncomputable def schM (t:Tq):Tq:=if ahead t≠[]/\schD (.str ⟨(ahead t).toArray⟩)=true/\t[(ahead t).length]?=some 58 then ahead t else []
noncomputable def schP (t:Tq):Nat:=(schT (schM t)).length
theorem nI {t:Tq}(h1:ahead t≠[])(h2:schD (.str ⟨(ahead t).toArray⟩)=true)(h3:t[(ahead t).length]?=some 58):schM t=ahead t/\schP t=(ahead t++[58]).length:=by
 have e:schM t=ahead t:=by unfold schM;rw[if_pos ⟨h1,h2,h3⟩]
 exact⟨e,by unfold schP schT;rw[e,if_neg h1]⟩
theorem ee {t:Tq}(h:¬ (ahead t≠[]/\schD (.str ⟨(ahead t).toArray⟩)=true/\t[(ahead t).length]?=some 58)):schM t=[]/\schP t=0:=by
 have e:schM t=[]:=by unfold schM;rw[if_neg h]
 exact⟨e,by unfold schP schT;rw[e,if_pos rfl];rfl⟩
def RdW (x:Ad)(t:Tq):Prop:=∃h d w q m,t=schT x.scheme++(h++(d++((if x.rooted then [47] else [])++(w++(q++m)))))/\schM t=x.scheme/\HouW x.house h/\DooW x.door d/\StpW x.steps x.ends w/\QueW x.quest q/\MarW x.mark m
end Wm
namespace L2
open PySem
end L2
namespace Wm
open PySem L2
theorem ia:∀n:Nat,valD ((Nat.toDigits 10 n).map Char.toNat)=n/\(Nat.toDigits 10 n).map Char.toNat≠[]/\(((Nat.toDigits 10 n).map Char.toNat).head?=some 48->n=0)
 |n=>by
  by_cases h:n < 10
  .rw[Nat.toDigits_of_lt_base h];have key:∀n,n < 10->valD ([Nat.digitChar n].map Char.toNat)=n/\([Nat.digitChar n].map Char.toNat).head?=some (48+n):=by fail "k"
   obtain⟨k1,k2⟩:=key n h;refine⟨k1,`s,λz=>?_⟩;rw[k2] at z;injection z with z;lia
  .have h':10<=n:=by lia
   rw[Nat.toDigits_of_base_le `d h',map_append];obtain⟨i1,i2,i3⟩:=ia (n / 10);have key:∀n,n < 10->([Nat.digitChar n].map Char.toNat)=[48+n]:=by fail "k"
   rw[key (n % 10) `l,eZ,i1];refine⟨`l,`s,λz=>?_⟩;cases hh:(Nat.toDigits 10 (n / 10)).map Char.toNat with
   |nil=>exact absurd hh i2
   |cons c r=>rw[hh] at z i3;have:=i3 z;lia
theorem nJ {o:Option Int}(h:∀i,o=some i->0<=i/\i<=65535):DooW o (dooT o):=by
 cases o with
 |none=>rfl
 |some i=>
  obtain⟨h1,h2⟩:=h i rfl;obtain⟨n,rfl⟩:=Int.eq_ofNat_of_zero_le h1;have e:dg (n:Int)=(Nat.toDigits 10 n).map Char.toNat:=by unfold dg;rw[PySem.W.KIN.signs_num]
  obtain⟨i1,i2,i3⟩:=ia n;refine⟨dg n,rfl,by rw[e];exact i2,iN h1,by rw[e,i1],by rw[e,i1];lia,?_⟩;by_cases hz:(dg n).head?=some 48
  .rw[e] at hz;have:=i3 hz;subst this;exact .inl (by rw[e];decide)
  .exact .inr hz
theorem nK {o:Option Tq}(h:∀l,o=some l->(0 < `L/\`L<=60)/\∀c∈l,isSg c=true):HouW o (houT o):=by
 cases o with
 |none=>rfl
 |some l=>obtain⟨⟨h1,h2⟩,h3⟩:=h l rfl;exact⟨wr l,rfl,bS h3,(λe=>by rw[e] at h1;cases h1),h2⟩
theorem nL {o:Option Tq}(h:∀l,o=some l->∀c∈l,isSg c=true):MarW o (oT 35 o):=by
 cases o with
 |none=>rfl
 |some l=>exact⟨wr l,rfl,bS (h l rfl)⟩
theorem nM {o:Option Tq}(h:∀l,o=some l->∀c∈l,isSg c=true):ValW o (oT 61 o):=by
 cases o with
 |none=>rfl
 |some l=>exact⟨wr l,rfl,bS (h l rfl)⟩
theorem nN {e:Bool}:∀{ss:List Tq},(∀s∈ss,StepOk s)->TlW ss e (tlT 47 (ss.map wr)++if e then [47] else [])
 |[],_=>by cases e <;> simp[tlT] <;> constructor
 |s::ss,h=>by have h1:=h s `f;have:=TlW.more (bS (fr:=frS) h1.2) (λz=>by rw[z] at h1;cases h1.1) (nN (e:=e) (ss:=ss) λt ht=>h t (mem_cons_of_mem _ ht));simpa [tlT] using this
theorem nO {ss:List Tq}{e:Bool}(h:∀s∈ss,StepOk s):StpW ss e (stpT ss e):=by
 cases ss with
 |nil=>rw[A7];exact .none
 |cons s ss=>have h1:=h s `f;have:=StpW.some (bS (fr:=frS) h1.2) (λz=>by rw[z] at h1;cases h1.1) (nN (e:=e) (ss:=ss) λt ht=>h t (mem_cons_of_mem _ ht));unfold stpT;simpa [joinT] using this
theorem nP:∀{ps:List (Tq×Option Tq)},(∀p∈ps,PairOk p)->PrsW ps (tlT 38 (ps.map pairT))
 |[],_=>.nil
 | (n,o)::ps,h=>by have h1:=h (n,o) `f;have:=PrsW.cons (bS (fr:=frQ) h1.1.2) (λz=>by have:=h1.1.1;rw[z] at this;cases this) (nM h1.2) (nP (ps:=ps) λt ht=>h t (mem_cons_of_mem _ ht));simpa [tlT,pairT] using this
theorem nQ {q:Option (List (Tq×Option Tq))}(h:∀ps,q=some ps->∀p∈ps,PairOk p):QueW q (queT q):=by
 cases q with
 |none=>rfl
 |some ps=>
  cases ps with
  |nil=>rfl
  |cons p ps=>obtain⟨n,o⟩:=p;have h1:=h _ rfl (n,o) `f;exact⟨wr n,oT 61 o,tlT 38 (ps.map pairT),by simp[queT,joinT,pairT],bS h1.1.2,(λz=>by have:=h1.1.1;rw[z] at this;cases this),nM h1.2,nP λt ht=>h _ rfl t (mem_cons_of_mem _ ht)⟩
theorem nR {P:Nat->Prop}(h1:P 63)(h2:P 38)(h3:P 61)(hw:∀c,wch c=true->P c){q:Option (List (Tq×Option Tq))}(h:∀ps,q=some ps->∀p∈ps,PairOk p):∀c∈queT q,P c:=by
 intro c hc;cases q with
 |none=>cases hc
 |some ps=>
  simp only[queT,mem_cons] at hc;rcases hc with rfl|hc
  .exact h1
  .refine m6 h2 (λs hs d hd=>?_) c hc;obtain⟨p,hp,rfl⟩:=mem_map.mp hs;exact A6 h3 hw (h ps rfl p hp) d hd
theorem Ad.Wf.all {P:Nat->Prop}{x:Ad}(h:x.Wf)(h1:P 47)(h2:P 58)(h3:P 63)(h4:P 38)(h5:P 61)(h6:P 35)(hw:∀c,wch c=true->P c):∀c∈x.shw,P c:=by
 intro c hc;rw[Ad.shw_eq] at hc;rcases mem_append.mp hc with hc|hc
 .rcases mem_append.mp hc with hc|hc
  .exact h.pre_all h1 h2 hw c hc
  .exact nR h3 h4 h5 hw h.que c hc
 .exact iO h6 hw h.mar c hc
theorem nS {c:Nat}(h:wch c=true):c < 128:=by simp only[wch,isPl,Bool.or_eq_true,decide_eq_true_eq] at h;lia
theorem ib {x:Ad}(h:x.Wf):∀c∈x.shw,c < 128:=h.all `d `d `d `d `d `d λ_=>nS
theorem Bn {x:Ad}(h:x.Wf):schM x.shw=x.scheme:=by
 by_cases hs:x.scheme=[]
 .rw[hs];refine (ee ?_).1;rintro⟨_,z2,z3⟩;cases hh:x.house with
  |some l=>
   obtain⟨r,hr⟩:∃r,x.shw=47::r:=by unfold Ad.shw;rw[hs,hh];exact⟨_,rfl⟩
   rw[hr] at z2;have:(ahead (47::r))=47::ahead r:=by unfold ahead;rw[List.takeWhile_cons_of_pos `d]
   rw[this] at z2;simp[schD,isLet] at z2
  |none=>
   have hd:x.door=none:=by
    cases hd:x.door with
    |none=>rfl
    |some i=>exact absurd hh (h.doo i hd).2
   have hm:(58:Nat)∈x.shw:=mem_of_getElem? z3;unfold Ad.shw at hm;rw[hs,hh,hd] at hm;simp only[schT,if_true,houT,dooT,nil_append] at hm;have ha:∀c,c∈x.wayT++(queT x.quest++oT 35 x.mark)->c≠58:=by
    intro c hc;rcases mem_append.mp hc with hc|hc
    .exact m9 (P:=λc=>c≠58) `d (λc hc=>(eI hc).2.2.2.1) h.stp c hc
    .rcases mem_append.mp hc with hc|hc
     .exact nR (P:=λc=>c≠58) `d `d `d (λc hc=>(eI hc).2.2.2.1) h.que c hc
     .exact iO (P:=λc=>c≠58) `d (λc hc=>(eI hc).2.2.2.1) h.mar c hc
   exact ha 58 hm rfl
 .have hc:∀c∈x.scheme,c≠58:=λc hc=>(eI (lw (h.sch.2.1 c hc))).2.2.2.1;obtain⟨r,hr⟩:∃r,x.shw=x.scheme++58::r:=by
   unfold Ad.shw schT;rw[if_neg hs];exact⟨_,by rw[append_assoc];rfl⟩
  have ha:ahead x.shw=x.scheme:=by rw[hr];exact Bl hc
  have:=(nI (t:=x.shw) (by rw[ha];exact hs) (by
   rw[ha];simp only[schD,Bool.and_eq_true,all_eq_true,decide_eq_true_eq];exact⟨⟨⟨λc hc=>lp (h.sch.2.1 c hc),by show x.scheme.length<=8;exact h.sch.1⟩,h.sch.2.2⟩,h.sch.2.1⟩) (by
   rw[ha,hr,List.getElem?_append_right `n,Nat.sub_self];rfl)).1
  rw[this,ha]
theorem ic {x:Ad}(h:x.Wf):RdW x x.shw:=
 ⟨houT x.house,dooT x.door,stpT x.steps x.ends,queT x.quest,oT 35 x.mark,by unfold Ad.shw Ad.wayT;rw[m7,append_assoc],Bn h,nK h.hou,nJ λi e=>(h.doo i e).1,nO h.stp,nQ h.que,nL h.mar⟩
def GoodsT (n:Nat)(H:Hp)(vs:`V):Prop:=∀v∈vs,∃x:Ad,(x.Wf/\x.Tiny/\x.steps.length<=n)/\IsT H x.data v
theorem GoodsT.cons {n:Nat}{H:Hp}{v:V}{vs:`V}{x:Ad}(h1:x.Wf/\x.Tiny/\x.steps.length<=n)(h3:IsT H x.data v)(h:GoodsT n H vs):GoodsT n H (v::vs):=λu hu=>by
 rcases mem_cons.mp hu with rfl|hu
 .exact⟨x,h1,h3⟩
 .exact h u hu
theorem Ad.Tiny.local {x:Ad}(h:x.Tiny):({x with scheme:=[],house:=none,door:=none}:Ad).Tiny:=⟨h.stp,h.que,h.mar,λl e=>by cases e⟩
theorem Bo {fr s w:Tq}(hf:∀c∈fr,c < 128)(h:WrT fr s w):∀c∈w,c < 128:=by
 induction h with
 |nil=>intro c hc;cases hc
 |self a b _ ih=>
  intro d hd;rcases mem_cons.mp hd with rfl|hd
  .rcases a with a|a
   .exact nS (by unfold wch;rw[a];rfl)
   .exact hf _ a
  .exact ih d hd
 |pair a _ ih=>
  intro d hd;obtain⟨_,h1,h2,_⟩:=iY a;simp only[mem_cons] at hd;rcases hd with rfl|rfl|rfl|hd
  .decide
  .exact h1
  .exact h2
  .exact ih d hd
end Wm
namespace L2
open PySem
theorem nT {K:`F}{p a:Addr}{fv:St}{te:TE}{Q:VK}{H1:Hp}{xs:`V}(J:Nat->`V->Hp->Prop)(hlen:`x<=sizeLine)(h0:J 0 [] (upd H1 p (.lst [])))(hS:∀i ys H2,J i ys H2->SqT K H2 a xs)
  (he:∀(i:Nat) (x:V) (ys:`V) (H2:Hp) (T:VK),xs[i]?=some x->J i ys H2->H2 p=some (.lst ys)->(∀y H3,H3 p=some (.lst ys)->J (i+1) (ys++[y]) (upd H3 p (.lst (ys++[y])))->T y H3)->te (some x::fv) H2 T)
  (hQ:∀ys H2,J `x ys H2->H2 p=some (.lst ys)->Q (.ref p) H2):CompI (Itt K a) p fv tYes te Q H1:=by
 refine⟨λi m ys H2=>m=`x - i/\i<=`x/\ys.length=i/\H2 p=some (.lst ys)/\J i ys H2,⟨`x,`s,Nat.zero_le _,rfl,aB,h0⟩,?_⟩;rintro i m ys H2 ⟨rfl,hi,BT,dl,hJ⟩;refine⟨dl,?_⟩;have q:=hS _ _ _ hJ;by_cases mt:i < `x
 .refine .inr ⟨⟨xs,xs[i],q,by simp[mt]⟩,`l,λx H3 y=>?_⟩;obtain⟨rfl,y⟩:=y;have hc:=y xs q;unfold tYes;dsimp only;rw[if_pos rfl];exact he i x ys _ _ hc hJ dl λy H5 Cl Fn=>⟨Cl,`x - (i+1),`l,rfl,mt,by rw[length_append,BT];rfl,aB,Fn⟩
 .have e:i=`x:=by lia
  subst e;exact .inl ⟨⟨xs,q,Nat.le_refl _⟩,hQ ys H2 hJ dl⟩
end L2
namespace Wm
open PySem L2
def PrW (p:Tq×Option Tq)(w:Tq):Prop:=∃a v,w=a++v/\WrT frQ p.1 a/\ValW p.2 v
inductive PrWs:List (Tq×Option Tq)->List Tq->Prop
 |nil:PrWs [] []
 |cons {p:Tq×Option Tq}{w:Tq}{ps:List (Tq×Option Tq)}{ws:List Tq}:PrW p w->PrWs ps ws->PrWs (p::ps) (w::ws)
inductive StWs:List Tq->List Tq->Prop
 |nil:StWs [] []
 |cons {s w:Tq}{ss ws:List Tq}:WrT frS s w->StWs ss ws->StWs (s::ss) (w::ws)
end Wm
namespace L2
open PySem PySem.Spec PyProof.Rows
section
variable {X:Cx}{pins:`O}{Z:St}{H:Hp}{s:Shared}{h':Heap}
theorem Inv.walked {t':Nat}{wr:List Addr}{T:Addr}{o:HO}(I:Inv X pins Z H s)(hf:∀b∈wr,FpOk X pins H b)(k:∀b u,b∉wr->s.heap.get? b=some u->h'.get? b=some u)(hT:`z<=T)
  (new:ObjOk X.prog X.w (upd H T o) h' T o):Inv X pins Z (upd H T o) {s with heap:=h',toks:=t' }:=by
 have hn:H T=none:=I.hok.fresh hT;have nw:∀b u,H b=some u->b∉wr:=λb u e z=>by rw[(hf b z).1] at e;cases e
 refine I.step (g':=s.gens) (d':=s.drawn) (ch:=wr) (λb hb=>?_) (λb u _ _ hc e _=>k b u hc e) (λb u _ _ hc e _=>⟨u.slots,k b u hc e⟩) (λb u _ q n=>?_)
  (λb u hc e=>⟨u,k b u hc e⟩) (λb xs q=>?_) (λb u xs q=>?_) (λb ps q=>?_) (λm hm=>?_) (λb u e=>?_) I.bare
 .obtain⟨f0,f1,f2,f3,f4,f5⟩:=hf b hb;exact⟨f3,f1,f4,f5⟩
 .rw[aD (Nat.ne_of_lt (Nat.lt_of_lt_of_le (Heap.lt_size q) hT))];exact n
 .rw[aD (aG q hn)];exact q
 .rw[aD (aG q hn)];exact q
 .exact⟨#[],by rw[aD (aG q hn),q];simp⟩
 .obtain⟨u,es,ep,ho,r⟩:=hm;refine⟨u,es,ep,k _ u (λz=>?_) ho,r⟩;exact (hf _ z).2.1 rfl
 .by_cases hb:b=T
  .subst hb;rw[aB] at e;cases e;exact new
  .rw[aD hb] at e;refine (I.hok b u e).stay (λc v hc q=>k c v ?_ q) (λc q=>by rw[aD (aG q hn)];exact q) λc xs q=>by rw[aD (aG q hn)];exact q
   rcases hc with z|z
   .rw[z];exact nw b u e
   .exact nw c _ z
theorem Inv.turnedL {t':Nat}{wr:List Addr}(I:Inv X pins Z H s)(hf:∀b∈wr,FpOk X pins H b)(k:∀b u,b∉wr->s.heap.get? b=some u->h'.get? b=some u):Inv X pins Z H {s with heap:=h',toks:=t' }:=by
 have nw:∀b u,H b=some u->b∉wr:=λb u e z=>by rw[(hf b z).1] at e;cases e
 refine I.step (g':=s.gens) (d':=s.drawn) (ch:=wr) (λb hb=>?_) (λb u _ _ hc e _=>k b u hc e) (λb u _ _ hc e _=>⟨u.slots,k b u hc e⟩) (λ_ _ _ _ n=>n)
  (λb u hc e=>⟨u,k b u hc e⟩) (λ_ _ e=>e) (λ_ _ _ e=>e) (λb ps e=>⟨#[],by rw[e];simp⟩) (λm hm=>?_) (λb u e=>?_) I.bare
 .obtain⟨f0,f1,f2,f3,f4,f5⟩:=hf b hb;exact⟨f3,f1,f4,f5⟩
 .obtain⟨u,es,ep,ho,r⟩:=hm;refine⟨u,es,ep,k _ u (λz=>?_) ho,r⟩;exact (hf _ z).2.1 rfl
 .refine (I.hok b u e).stay (λc v hc q=>k c v ?_ q) (λ_ q=>q) λ_ _ q=>q;rcases hc with z|z
  .rw[z];exact nw b u e
  .exact nw c _ z
end
noncomputable def ItW (n:Nat)(ok:Hp->Prop)(pt:Nat->Hp->`V->Prop):It:=
 ⟨λi H=>i < n/\ok H,λi H x H'=>∃T xs,x=.ref T/\H T=none/\H'=upd H T (.tup xs)/\pt i H xs,λi H=>i=n/\ok H⟩
theorem nU {P:Program}{w:World}{K:`F}{elts:List Expr}{k:Nat}{pos:Pos}{I:Addr}{fp wr fq:List Addr}{n:Nat}{α:Type}{Pt:α->Nat->Array Value->Prop}{Sn:α->Nat->Heap->Prop}{Mid:α->Nat->Addr->Heap->Prop}{tn:Nat->Heap->Prop}{ok:Hp->Prop}{pt:Nat->Hp->`V->Prop}
  (hI:I∈fq) (hq:∀b∈wr,b∈fq) (hW:∀(A:Around) (a:α),A.handled=none->WalksT P w A I fp wr n (Pt a) (Sn a) (Mid a))
  (hself:∀(A:Around) (i:Nat) (s:Shared) (Q:`T) (E:`T),tn i s.heap->Q (.ref I) s->wpAny (model P w) A (pyIter (.ref I)) Q E s)
  (hobj:∀i h,tn i h->∀b∈fq,∃o,h.get? b=some o/\∀v,o.data≠.cell v)
  (hkeep:∀i h h',tn i h->(∀b∈fq,∀o,h.get? b=some o->h'.get? b=some o)->tn i h')
  (hin:∀(X:Cx),X.prog=P->X.w=w->X.K=K->∀(i:Nat) (pins:`O) (s:Shared) (Z:St) (H:Hp),Inv X pins Z H s->(∀b∈fq,FpOk X pins H b)->tn i s.heap->ok H->∃a,Sn a i s.heap/\∀vals,Pt a i vals->∃xs,`x<=sizeLine/\Vals xs vals.toList/\pt i H xs)
  (hout:∀a i h,Sn a i h->tn i h) :
  Turn P w K (.Tuple elts k pos) (ItW n ok pt) fq I tn where
 mem:=hI
 obj:=hobj
 keep:=hkeep
 item:=by
  intro X hP hw hK hc i pins s Z H E J hf st hg;obtain⟨hi,BT⟩:=hg;have Cl:∀b∈wr,FpOk X pins H b:=λb hb=>hf b (hq b hb);obtain⟨a,mt,hv⟩:=hin X hP hw hK i pins s Z H J hf st BT;obtain⟨Gn,Gm,Gd,Gc,Gb,Ga,Gk⟩:=hW X.A a (J.ok.hd hc);refine Gd i s _ E hi mt λT vals h1 tk Gr hT Fn dl hk=>?_;refine⟨.ref T,rfl,?_⟩;refine Gc elts k pos i T _ _ E dl λh2 Ge Fr=>?_;obtain⟨xs,Gf,Gg,Gh⟩:=hv vals Gr;have Go:T∉wr:=Gb i T h1 dl;have Gp:H T=none:=J.hok.fresh hT;have Gi:∀b u,b∉wr->s.heap.get? b=some u->h2.get? b=some u:=λb u hb e=>Fr b u hb (hk b u hb e);obtain⟨o,ho,Gj,m,hd⟩:=Fn;have Gq:IsTup h2 T vals.toList.toArray:=by refine⟨o,Fr T o Go ho,Gj,m,?_⟩;rw[hd]
  refine⟨.ref T,upd H T (.tup xs),J.walked (t':=tk) Cl Gi hT ⟨Gf,vals.toList,Gg,Gq⟩,rfl,⟨T,xs,rfl,Gp,rfl,Gh⟩,hout a _ _ Ge,λb hb=>?_⟩;have:b≠T:=λz=>by obtain⟨o,e,_⟩:=hobj i _ st b hb;exact absurd (Heap.lt_size e) (by rw[z];exact Nat.not_lt.mpr hT)
  rw[aD this];exact (hf b hb).1
 done:=by intro X hP hw hK hc i pins s Z H E J hf st hg;obtain⟨hi,BT⟩:=hg;subst hi;have Cl:∀b∈wr,FpOk X pins H b:=λb hb=>hf b (hq b hb);obtain⟨a,mt,_⟩:=hin X hP hw hK i pins s Z H J hf st BT;obtain⟨Gn,Gm,Gd,Gc,Gb,Ga,Gk⟩:=hW X.A a (J.ok.hd hc);exact Ga s _ E mt λh1 tk hk=>⟨rfl,J.turnedL Cl hk⟩
 self:=hself
section
variable {Z:St}{H:Hp}{D:Ends}{g:TG}{tb:TS}
theorem nV {n:Nat}{ok:Hp->Prop}{pt:Nat->Hp->`V->Prop}(Pv:Nat->St->Hp->Prop)(h0:Pv 0 Z H)(hl:∀i Z H,i<=n->Pv i Z H->ok H)
  (hs:∀i Z H T xs,i < n->Pv i Z H->H T=none->pt i H xs->g (.ref T) Z (upd H T (.tup xs)) λZ2 H2=>tb {D with nx:=Pv (i+1),ct:=Pv (i+1),bk:=D.nx} Z2 H2) (hd:∀Z H,Pv n Z H->D.nx Z H):LoopI (ItW n ok pt) g tb D Z H:=by
 refine⟨λi m Z H=>m=n - i/\i<=n/\Pv i Z H,⟨n,`s,Nat.zero_le _,h0⟩,?_⟩;rintro i m Z H ⟨rfl,hi,p⟩;have hq:=hl i Z H hi p;by_cases dl:i < n
 .refine .inr ⟨⟨dl,hq⟩,Pv (i+1),λZ' H' p'=>⟨n - (i+1),`l,rfl,dl,p'⟩,λx H' y=>?_⟩;obtain⟨T,xs,rfl,hT,rfl,hp⟩:=y;exact hs i Z _ T xs dl p hT hp
 .have e:i=n:=by lia
  subst e;exact .inl ⟨⟨rfl,hq⟩,hd Z H p⟩
end
section
variable {prog:Program}{w:World}{A:Around}{E:`T}{s:Shared}
theorem Bp {it a:Addr}{i:Nat}{its:Array Value}{x:Value}{Q:`T}(hi:s.heap.IsTupleIter it a i)(ha:s.heap.IsTuple a its)(hx:its[i]?=some x)
  (q:∀h',h'.IsTupleIter it a (i+1)->Heap.SameBut it s.heap h'->Q x {s with heap:=h' }):wpAny `M A (Builtin.SmallTypes.nextOf (.ref it)) Q E s:=by
 obtain⟨u,hu,BT,dl⟩:=id hi;obtain⟨v,hv,_,m,mt⟩:=ha;unfold Builtin.SmallTypes.nextOf;refine wpAny_bind (wpAny_callSpecial?_slot (name:=ofString "__next__") hi.typeIs F.slot_tuple_iterator_next (wpAny_call_entry F.slot_tuple_iterator_next hi.typeIs F.entry_tuple_iterator_next ?_ (F.args_tuple_iterator_next_1 _)));show wpAny _ _ (field (.ref it) 0 >>= _) _ _ _;refine wpAny_bind (wpAny_field hu dl (x:=.ref a) rfl ?_);show wpAny _ _ (if (Value.ref a == Value.none)=true then _ else _) _ _ _;rw[if_neg (by exact Bool.false_ne_true)];show wpAny _ _ (field (.ref it) 1 >>= _) _ _ _;refine wpAny_bind (wpAny_field hu dl (x:=.int i 0) rfl ?_);show wpAny _ _ (seqItems? (.ref a) >>= _) _ _ _;refine wpAny_bind (wpAny_seqItems hv mt ?_);simp only[Int.toNat_natCast,hx];refine wpAny_bind (wpAny_setField hu dl `s (wpAny_pure ⟨x,rfl,wpAny_pure (q _ ⟨_,Heap.get?_update_self _ hu (Obj.isFreed_of_fields (Obj.data_mapFields dl _)),(Obj.cls_mapFields ..).trans BT,?_⟩ (Heap.SameBut.update ..))⟩));rw[Obj.data_mapFields dl];simp[rawInt]
theorem Bq {it a:Addr}{i:Nat}{its:Array Value}{Q:`T}(hh:A.handled=none)(hi:s.heap.IsTupleIter it a i)(ha:s.heap.IsTuple a its)(hx:its[i]?=none)
  (q:∀h' e,Heap.ExtBut it s.heap h'->(∃o,h'.get? e=some o/\o.cls=.type "StopIteration")->E (.ref e) {s with heap:=h' }):wpAny `M A (Builtin.SmallTypes.nextOf (.ref it)) Q E s:=by
 obtain⟨u,hu,BT,dl⟩:=id hi;obtain⟨v,hv,_,m,mt⟩:=ha;unfold Builtin.SmallTypes.nextOf;refine wpAny_bind (wpAny_callSpecial?_slot (name:=ofString "__next__") hi.typeIs F.slot_tuple_iterator_next (wpAny_call_entry F.slot_tuple_iterator_next hi.typeIs F.entry_tuple_iterator_next ?_ (F.args_tuple_iterator_next_1 _)));show wpAny _ _ (field (.ref it) 0 >>= _) _ _ _;refine wpAny_bind (wpAny_field hu dl (x:=.ref a) rfl ?_);show wpAny _ _ (if (Value.ref a == Value.none)=true then _ else _) _ _ _;rw[if_neg (by exact Bool.false_ne_true)];show wpAny _ _ (field (.ref it) 1 >>= _) _ _ _;refine wpAny_bind (wpAny_field hu dl (x:=.int i 0) rfl ?_);show wpAny _ _ (seqItems? (.ref a) >>= _) _ _ _;refine wpAny_bind (wpAny_seqItems hv mt ?_);simp only[Int.toNat_natCast,hx];refine wpAny_bind (wpAny_rule (wpAny_bind (wpAny_setField hu dl `s ?_)));show wpAny _ A.in1 (newExc (.type "StopIteration") [] >>= _) _ _ _;unfold newExc newTuple;refine wpAny_bind (wpAny_bind (wpAny_newObj_type (wpAny_bind (m:=firstArgMember _ _) (wpAny_of_eq (a:=Value.none) (by first|rfl|(simp only[firstArgMember];rfl)) (wpAny_newObj_type ?_ (by size_fits)))) (by size_fits)));unfold raiseNew;refine wpAny_bind (wpAny_handled ?_);rw[show A.in1.handled=none from hh];exact wpAny_bind (wpAny_pure (wpAny_throw (q _ _ (((Heap.SameBut.update ..).extBut.push _).push _) ⟨_,Heap.get?_push_size _ rfl,rfl⟩)))
theorem ie (hh:A.handled=none)(it a:Addr)(hne:a≠it)(its:Array Value):Draws prog w A it [it,a] its.size (λi v=>its[i]?=some v) (λi h=>h.IsTupleIter it a i/\h.IsTuple a its) where
 live:=λ_ _ st=>let ⟨o,ho,_⟩:=st.1;⟨o,ho⟩
 frame:=λ_ _ _ st hk=>⟨let ⟨o,ho,r⟩:=st.1;⟨o,hk it `s o ho,r⟩,let ⟨o,ho,r⟩:=st.2;⟨o,hk a `s o ho,r⟩⟩
 item:=λi s Q E hi st hQ=>Bp st.1 st.2 (x:=its[i]) (by simp[hi]) λh' hit' hs'=>hQ _ h' s.toks (by simp[hi]) ⟨hit',st.2.extBut hs'.extBut hne⟩ hs'
 done:=λs Q E st hE=>Bq hh st.1 st.2 `s hE
end
noncomputable abbrev titO (t:Addr):Obj:={ cls:=.type "tuple_iterator",data:=.fields #[.ref t,.int 0 0]}
noncomputable abbrev enuO (it:Addr):Obj:={ cls:=.type "enumerate",data:=.fields #[.none,.bool false,.ref it,rawInt 0,.none,.none]}
theorem Br (t:Addr)(its:Array Value):Meets (Builtin.«enumerate.__new__» ⟨[.type "enumerate",.ref t],[]⟩) (λ_ R s=>s.heap.IsTuple t its/\
  R (.ok (.ret (.ref (s.heap.push (titO t)).objs.size))) {s with heap:=(s.heap.push (titO t)).push (enuO `z)}):=
 .of_wp λprog w A R s h=>by
  obtain⟨hp,g,d,tk,os⟩:=s;obtain⟨hl,h⟩:=h;have hsub:=sub_enumerate
  wp_walk using wpAny_pyIter_tuple hl
  refine wpAny_stack_any λ_=>wpAny_pure ?_;split
  .rename_i z _ _ _ _ _;cases (z == Value.type "enumerate") <;> (wp_walk using wpAny_pyIter_tuple hl) <;> exact⟨_,rfl,h⟩
  .wp_walk using wpAny_pyIter_tuple hl
   exact⟨_,rfl,h⟩
section
variable {prog:Program}{w:World}{A:Around}{E:`T}{s:Shared}
theorem Bs {t:Addr}{its:Array Value}{Q:`T}(ht:s.heap.IsTuple t its)
  (h:∀h',IsEnum h' (`z+1) `z 0 .none->h'.IsTupleIter `z t 0->(∀b o,s.heap.get? b=some o->h'.get? b=some o)->Q (.ref (`z+1)) {s with heap:=h' }) :
  wpAny `M A (call (.type "enumerate") [.ref t]) Q E s:=by
 refine callType_new F.called_enumerate `d (F.typeCall_enumerate_1 _) (F.newCall_enumerate_1 _) (λdl=>F.args_object_init_2 dl _) F.entry_enumerate_new (Br t its) ⟨ht,?_⟩;have hz:(s.heap.push (titO t)).objs.size=`z+1:=Heap.size_push ..;show _/\_;rw[hz];have he:IsEnum ((s.heap.push (titO t)).push (enuO `z)) (`z+1) `z 0 .none:=by have:=Heap.get?_push_size (s.heap.push (titO t)) (o:=enuO `z) rfl;rw[hz] at this;exact this
 exact⟨⟨_,he,rfl⟩,h _ he ⟨_,Heap.get?_push_of_some _ (Heap.get?_push_size _ rfl),rfl,rfl⟩ λb o x=>Heap.get?_push_of_some _ (Heap.get?_push_of_some _ x)⟩
end
noncomputable def ItE (K:`F)(a:Addr)(xs:`V):It:=ItW `x (λH=>SqT K H a xs) λi _ ys=>∃v,xs[i]?=some v/\ys=[.int (i:Int),v]
theorem Bt {P:Program}{w:World}{K:`F}{elts:List Expr}{k:Nat}{pos:Pos}(a it e:Addr)(xs:`V)(h1:a≠it)(h2:e≠it)(h3:e≠a) :
  Turn P w K (.Tuple elts k pos) (ItE K a xs) [e,it] e (λi h=>(∃old,IsEnum h e it i old)/\h.IsTupleIter it a i):=by
 refine nU (fp:=e::[it,a]) (α:={ mt:Array Value // mt.size=`x}) (Pt:=λz i dl=>∃t x,z.1[i]?=some x/\dl=#[.int i t,x])
  (Sn:=λz i h=>(∃old,IsEnum h e it i old)/\(h.IsTupleIter it a i/\h.IsTuple a z.1)) (Mid:=λz i T h=>(∃x,IsEnumOut h e it ((i:Int)+1) x T)/\(h.IsTupleIter it a (i+1)/\h.IsTuple a z.1)/\T≠e/\T≠it)
  `s (λ_ z=>z) (λA z hh=>?_) (λA i s Q E st q=>?_) (λi h st b hb=>?_) (λi h h' st kp=>?_) ?_ (λz i h st=>⟨st.1,st.2.1⟩)
 .have:=WalksT.enumerateD (ie (prog:=P) (w:=w) (A:=A.in1) hh it a h1 z.1) e h2 (by simp[h2,h3]) `s;rw[z.2] at this;exact this
 .obtain⟨⟨old,he⟩,_⟩:=st;exact wpAny_pyIter_enum he q
 .obtain⟨⟨old,he⟩,o,ho,hc,hd⟩:=st;rcases mem_cons.mp hb with rfl|hb
  .exact⟨_,he,λv z=>by cases z⟩
  .rw[mem_singleton.mp hb];exact⟨o,ho,λv z=>by rw[hd] at z;cases z⟩
 .obtain⟨⟨old,he⟩,o,ho,r⟩:=st;exact⟨⟨old,kp e `s _ he⟩,o,kp it `s o ho,r⟩
 .intro X hP hw hK i Cl s Z H J hf st Fn;subst hP hw hK;obtain⟨mt,rv,p,hz⟩:=J.tuple Fn;refine⟨⟨mt.toArray,by have:=rv.length;simp;lia⟩,⟨st.1,st.2,p⟩,?_⟩;rintro dl ⟨t,x,hx,rfl⟩;have BT:mt[i]?=some x:=by simpa using hx
  have hi:i < `x:=by have:=rv.length;have:=(List.getElem?_eq_some_iff.mp BT).1;lia
  obtain⟨u,hu,ru⟩:=rv.get (List.getElem?_eq_getElem hi);rw[BT] at hu;cases hu;exact⟨[.int (i:Int),xs[i]],(show 2<=sizeLine by decide),.cons ⟨t,rfl⟩ (.cons ru .nil),xs[i],List.getElem?_eq_getElem hi,rfl⟩
section
variable {X:Cx}{K:`F}{elts:List Expr}{kk:Nat}{tpos:Pos}
def iEnum (K:`F)(ta:TA):TI:=λZ H R=>ta Z H λvs H1=>∃a xs,vs=[.ref a]/\SqT K H1 a xs/\R (ItE K a xs) H1
theorem ig {a:Expr}{ta:TA}{p pos:Pos}(h:X.K=K)(hg:Gl X "enumerate")(hm:X.mg "enumerate"=none)(ha:PA X [a] ta)(hs:starEach [a] X.env=[(false,eval a X.env)]:=by rfl):PI X (.Tuple elts kk tpos) (.Call (.Name "enumerate" p) [a] [] pos) (iEnum K ta):=by
 subst h;intro dl s Z H R I q;refine Call_ (bL I hg hm boot_enumerate (PyProof.Rows.callWith_type1 (thn (ha pos dl s Z H _ I q) λus s1 W'=>?_) hs rfl));obtain⟨vs,H1,I1,r1,q1⟩:=W';obtain⟨a,xs,e,hq,q⟩:=q1;subst e;obtain⟨u,rfl,ru⟩:=vals1 r1;cases ru;obtain⟨Fn,rv,pt,hz⟩:=I1.tuple hq;refine Bs (show s1.heap.IsTuple a Fn.toArray from pt) λh' he hi hk=>?_;refine wpAny_pyIter_enum (s:={ s1 with heap:=h' }) he ?_;have Cl:a < `y:=by obtain⟨o,ho,_⟩:=pt;exact Heap.lt_size ho
 have mt:Inv X dl Z H1 {s1 with heap:=h' }:=I1.kept (t':=s1.toks) hk;refine⟨`y+1,[`y+1,`y],_,_,H1,rfl,mt,Bt a `y (`y+1) xs (Nat.ne_of_lt Cl) (Nat.succ_ne_self _) (Nat.ne_of_gt (Nat.lt_succ_of_lt Cl)),⟨⟨_,he⟩,hi⟩,λb hb=>?_,q⟩;simp only[mem_cons,not_mem_nil,or_false] at hb;have BT:`y<=b:=by
  rcases hb with rfl|rfl
  .exact Nat.le_succ _
  .exact Nat.le_refl _
 exact I1.fpOk BT (I1.hok.fresh BT)
variable {Z:St}{H:Hp}{D:Ends}{g:TG}{tb:TS}{aa:TA}
theorem Bu:(tFor (iEnum K aa) g tb D Z H)=(aa Z H λvs H1=>∃a xs,vs=[.ref a]/\SqT K H1 a xs/\LoopI (ItE K a xs) g tb D Z H1):=rfl
theorem Bv {a:Addr}{xs:`V}(Pv:Nat->St->Hp->Prop)(h0:Pv 0 Z H)(hl:∀i Z H,i<=`x->Pv i Z H->SqT K H a xs)
  (hs:∀i v Z H T,xs[i]?=some v->Pv i Z H->H T=none->g (.ref T) Z (upd H T (.tup [.int (i:Int),v])) λZ2 H2=>tb {D with nx:=Pv (i+1),ct:=Pv (i+1),bk:=D.nx} Z2 H2) (hd:∀Z H,Pv `x Z H->D.nx Z H):LoopI (ItE K a xs) g tb D Z H:=
 nV Pv h0 hl (λi Z H T ys _ p hT hy=>by obtain⟨v,hv,rfl⟩:=hy;exact hs i v Z H T hv p hT) hd
end
structure Zap (z TI TO i1 i2 l1 l2:Addr):Prop where
 a1:TI≠z/\TO≠z/\i1≠z/\i2≠z/\l1≠z/\l2≠z
 a2:TI≠TO/\TI≠i1/\TI≠i2/\TO≠i1/\TO≠i2/\i1≠i2
 a3:l1≠TO/\l2≠TO/\l1≠i2/\l2≠i1
section
variable {prog:Program}{w:World}{A:Around}{E:`T}{s:Shared}
variable {z TI TO i1 i2 l1 l2:Addr}{n1 n2 k:Nat}{P1 P2:Nat->Value->Prop}{S1 S2:Nat->Heap->Prop}
theorem still {it l b:Addr}{n i:Nat}{P:Nat->Value->Prop}{S:Nat->Heap->Prop}{h h':Heap}(D:Draws prog w A it [it,l] n P S)(st:S i h)(e:Heap.ExtBut b h h')(h1:it≠b)(h2:l≠b):S i h':=
 D.frame i h h' st λc hc o q=>e c o (by rcases mem_cons.mp hc with rfl|hc;exact h1;rw[mem_singleton.mp hc];exact h2) q
theorem Bw (hh:A.handled=none)(d1:∀A:Around,A.handled=none->Draws prog w A i1 [i1,l1] n1 P1 S1)(d2:∀A:Around,A.handled=none->Draws prog w A i2 [i2,l2] n2 P2 S2)(ap:Zap z TI TO i1 i2 l1 l2){a b:Value}{Q:`T}
  (hz:IsZip s.heap z TI TO .none) (hTI:IsPair s.heap TI (.ref i1) (.ref i2)) (hTO:IsPair s.heap TO a b) (t1:S1 k s.heap) (t2:S2 k s.heap) (k1:k < n1) (k2:k < n2)
  (q:∀x y h' tk,P1 k x->P2 k y->IsZip h' z TI TO (rawInt `z)->IsPair h' TO x y->S1 (k+1) h'->S2 (k+1) h'->IsPair h' `z x y ->
   (∀c o,c≠z->c≠TO->c≠i1->c≠i2->s.heap.get? c=some o->h'.get? c=some o)->Q (.ref `z) {s with heap:=h',toks:=tk}) :
  wpAny `M A (Builtin.«zip.__next__» ⟨[.ref z],[]⟩) (λfin s'=>∃v,fin=.done (.ret v)/\Q v s') E s:=by
 obtain⟨⟨p1,p2,p3,p4,p5,p6⟩,⟨q1,q2,q3,q4,q5,q6⟩,r1,r2,r3,r4⟩:=ap;show wpAny _ _ (field (.ref z) 2 >>= _) _ _ s;refine wpAny_bind (wpAny_field (s:=s) hz rfl (x:=.bool false) rfl ?_);show wpAny _ _ (field (.ref z) 3 >>= _) _ _ s;refine wpAny_bind (wpAny_field (s:=s) hz rfl (x:=.ref TI) rfl (wpAny_bind (wpAny_seqItems hTI rfl ?_)));show wpAny _ _ (Builtin.SmallTypes.ownedTupleIsFree (.ref z) >>= _) _ _ s;unfold Builtin.SmallTypes.ownedTupleIsFree;refine wpAny_bind (wpAny_bind (wpAny_field (s:=s) hz rfl (x:=.none) rfl (wpAny_pure ?_)));simp only[if_true];refine wpAny_bind (wpAny_rule (wpAny_bind (wpAny_field (s:=s) hz rfl (x:=.ref TO) rfl (wpAny_bind (wpAny_setField_rec hz `s λha za sa=>?_)))));replace za:IsZip ha z TI TO .ellipsis:=za;simp only[List.zipIdx_cons,List.zipIdx_nil,forIn_cons,List.forIn_nil];refine wpAny_bind (wpAny_bind (wpAny_bind (wpAny_onRaise ?_)));show wpAny _ _ (Builtin.SmallTypes.nextOf (.ref i1) >>= _) _ _ _;refine wpAny_bind ((d1 A hh).item k _ _ _ k1 (still (d1 A hh) t1 sa.extBut p3 p5) λx hb tb px Fr sb=>wpAny_pure ?_);have ob:IsPair hb TO a b:=sb.extBut _ _ q4 (sa.extBut _ _ p2 hTO);refine wpAny_bind (wpAny_seqItems ob rfl (wpAny_bind (wpAny_updateSeq_pair ob λhc oc sc=>wpAny_bind (wpAny_letGo (wpAny_pure ?_)))));replace oc:IsPair hc TO x b:=oc;refine wpAny_bind (wpAny_bind (wpAny_onRaise ?_));show wpAny _ _ (Builtin.SmallTypes.nextOf (.ref i2) >>= _) _ _ _;have mt:S2 k hc:=still (d2 A hh) (still (d2 A hh) (still (d2 A hh) t2 sa.extBut p4 p6) sb.extBut q6.symm r4) sc.extBut q5.symm r2;refine wpAny_bind ((d2 A hh).item k _ _ _ k2 mt λy hd td py Cl sd=>wpAny_pure ?_);have od:IsPair hd TO x b:=sd.extBut _ _ q5 oc;refine wpAny_bind (wpAny_seqItems od rfl (wpAny_bind (wpAny_updateSeq_pair od λhe oe se=>wpAny_bind (wpAny_letGo (wpAny_pure (wpAny_pure ?_))))));replace oe:IsPair he TO x y:=oe;refine wpAny_bind (wpAny_seqItems oe rfl (wpAny_bind (wpAny_newTuple ?_)));have ze:IsZip he z TI TO .ellipsis:=se.extBut _ _ p2.symm (sd.extBut _ _ p4.symm (sc.extBut _ _ p2.symm (sb.extBut _ _ p3.symm za)));have dl:he.objs.size=`z:=by rw[se.1,sd.1,sc.1,sb.1,sa.1]
 have ke:∀c o,c≠z->c≠TO->c≠i1->c≠i2->s.heap.get? c=some o->he.get? c=some o:=λc o c1 c2 c3 c4 e=>se.extBut _ _ c2 (sd.extBut _ _ c4 (sc.extBut _ _ c2 (sb.extBut _ _ c3 (sa.extBut _ _ c1 e))));have Fn:S1 (k+1) he:=still (d1 A hh) (still (d1 A hh) (still (d1 A hh) Fr sc.extBut q4.symm r1) sd.extBut q6 r3) se.extBut q4.symm r1;have BT:S2 (k+1) he:=still (d2 A hh) Cl se.extBut q5.symm r2;have zl:z < he.objs.size:=Heap.lt_size ze;show wpAny _ _ (Builtin.SmallTypes.ownedTupleHandOut (.ref z) (.ref he.objs.size) >>= _) _ _ _;unfold Builtin.SmallTypes.ownedTupleHandOut;have zf:IsZip (he.push {cls:=.type "tuple",data:=.seq #[x,y]}) z TI TO .ellipsis:=Heap.get?_push_of_some _ ze;refine wpAny_bind (wpAny_bind (wpAny_setField_rec zf `s λhf zg sf=>?_));replace zg:IsZip hf z TI TO (rawInt he.objs.size):=zg;refine wpAny_setField_rec zg `s λhg zh sg=>?_;replace zh:IsZip hg z TI TO (rawInt he.objs.size):=zh;have up:∀c o,c≠z->he.get? c=some o->hg.get? c=some o:=λc o c1 e=>sg.extBut _ _ c1 (sf.extBut _ _ c1 (Heap.get?_push_of_some _ e));have tg:IsPair hg he.objs.size x y:=sg.extBut _ _ (Nat.ne_of_gt zl) (sf.extBut _ _ (Nat.ne_of_gt zl) (Heap.get?_push_size _ rfl));rw[dl] at zh tg;refine wpAny_pure ⟨_,rfl,?_⟩;show Q (.ref he.objs.size) _;rw[dl];exact q x y hg td px py zh (up _ _ p2 oe) ((d1 A hh).frame _ _ _ Fn λc hc o e=>up c o (by rcases mem_cons.mp hc with rfl|hc;exact p3;rw[mem_singleton.mp hc];exact p5) e) ((d2 A hh).frame _ _ _ BT λc hc o e=>up c o (by rcases mem_cons.mp hc with rfl|hc;exact p4;rw[mem_singleton.mp hc];exact p6) e) tg λc o c1 c2 c3 c4 e=>up c o c1 (ke c o c1 c2 c3 c4 e)
theorem Bx (hh:A.handled=none)(d1:∀A:Around,A.handled=none->Draws prog w A i1 [i1,l1] n1 P1 S1)(d2:∀A:Around,A.handled=none->Draws prog w A i2 [i2,l2] n2 P2 S2)(ap:Zap z TI TO i1 i2 l1 l2){a b:Value}{Q:Fin->Shared->Prop}
  (hz:IsZip s.heap z TI TO .none) (hTI:IsPair s.heap TI (.ref i1) (.ref i2)) (hTO:IsPair s.heap TO a b) (t1:S1 k s.heap) (t2:S2 k s.heap) (hk:k=n1\/(k < n1/\k=n2))
  (q:∀h' e tk,(∀c o,c≠z->c≠TO->c≠i1->c≠i2->s.heap.get? c=some o->h'.get? c=some o)->(∃o,h'.get? e=some o/\o.cls=.type "StopIteration")->E (.ref e) {s with heap:=h',toks:=tk}) :
  wpAny `M A (Builtin.«zip.__next__» ⟨[.ref z],[]⟩) Q E s:=by
 obtain⟨⟨p1,p2,p3,p4,p5,p6⟩,⟨q1,q2,q3,q4,q5,q6⟩,r1,r2,r3,r4⟩:=ap;show wpAny _ _ (field (.ref z) 2 >>= _) _ _ s;refine wpAny_bind (wpAny_field (s:=s) hz rfl (x:=.bool false) rfl ?_);show wpAny _ _ (field (.ref z) 3 >>= _) _ _ s;refine wpAny_bind (wpAny_field (s:=s) hz rfl (x:=.ref TI) rfl (wpAny_bind (wpAny_seqItems hTI rfl ?_)));show wpAny _ _ (Builtin.SmallTypes.ownedTupleIsFree (.ref z) >>= _) _ _ s;unfold Builtin.SmallTypes.ownedTupleIsFree;refine wpAny_bind (wpAny_bind (wpAny_field (s:=s) hz rfl (x:=.none) rfl (wpAny_pure ?_)));simp only[if_true];refine wpAny_bind (wpAny_rule (wpAny_bind (wpAny_field (s:=s) hz rfl (x:=.ref TO) rfl (wpAny_bind (wpAny_setField_rec hz `s λha za sa=>?_)))));replace za:IsZip ha z TI TO .ellipsis:=za;simp only[List.zipIdx_cons,List.zipIdx_nil,forIn_cons,List.forIn_nil];refine wpAny_bind (wpAny_bind (wpAny_bind (wpAny_onRaise ?_)));show wpAny _ _ (Builtin.SmallTypes.nextOf (.ref i1) >>= _) _ _ _;rcases hk with rfl|⟨k1,rfl⟩
 .refine wpAny_bind ((d1 A hh).done _ _ _ (still (d1 A hh) t1 sa.extBut p3 p5) λhb e sb W'=>?_);obtain⟨oe,ho,hc⟩:=W';have zb:IsZip hb z TI TO .ellipsis:=sb _ _ p3.symm za;have ez:e≠z:=λy=>by subst y;rw[zb] at ho;cases ho;simp at hc
  exact wpAny_setField_rec zb `s λhd _ sd=>q hd e _ (λc o c1 _ c3 _ y=>sd.extBut _ _ c1 (sb _ _ c3 (sa.extBut _ _ c1 y))) ⟨oe,sd.extBut _ _ ez ho,hc⟩
 refine wpAny_bind ((d1 A hh).item _ _ _ _ k1 (still (d1 A hh) t1 sa.extBut p3 p5) λx hb tb px BT sb=>wpAny_pure ?_);have ob:IsPair hb TO a b:=sb.extBut _ _ q4 (sa.extBut _ _ p2 hTO);refine wpAny_bind (wpAny_seqItems ob rfl (wpAny_bind (wpAny_updateSeq_pair ob λhc oc sc=>wpAny_bind (wpAny_letGo (wpAny_pure ?_)))));refine wpAny_bind (wpAny_bind (wpAny_onRaise ?_));show wpAny _ _ (Builtin.SmallTypes.nextOf (.ref i2) >>= _) _ _ _;have mt:=still (d2 A hh) (still (d2 A hh) (still (d2 A hh) t2 sa.extBut p4 p6) sb.extBut q6.symm r4) sc.extBut q5.symm r2;refine wpAny_bind ((d2 A hh).done _ _ _ mt λhd e sd W'=>?_);obtain⟨oe,ho,dl⟩:=W';have zd:IsZip hd z TI TO .ellipsis:=sd _ _ p4.symm (sc.extBut _ _ p2.symm (sb.extBut _ _ p3.symm za));have ez:e≠z:=λy=>by subst y;rw[zd] at ho;cases ho;simp at dl
 exact wpAny_setField_rec zd `s λhf _ sf=>q hf e _ (λc o c1 c2 c3 c4 y=>sf.extBut _ _ c1 (sd _ _ c4 (sc.extBut _ _ c2 (sb.extBut _ _ c3 (sa.extBut _ _ c1 y))))) ⟨oe,sf.extBut _ _ ez ho,dl⟩
theorem By (hh:A.handled=none)(d1:∀A:Around,A.handled=none->Draws prog w A i1 [i1,l1] n1 P1 S1)(d2:∀A:Around,A.handled=none->Draws prog w A i2 [i2,l2] n2 P2 S2)(ap:Zap z TI TO i1 i2 l1 l2) :
  WalksT prog w A z [z,TI,TO,i1,i2,l1,l2] [z,TO,i1,i2] (min n1 n2) (λi vals=>∃x y,P1 i x/\P2 i y/\vals=#[x,y])
   (λi h=>IsZip h z TI TO .none/\IsPair h TI (.ref i1) (.ref i2)/\(∃a b,IsPair h TO a b)/\S1 i h/\S2 i h)
   (λi T h=>IsZip h z TI TO (rawInt T)/\IsPair h TI (.ref i1) (.ref i2)/\(∃a b,IsPair h TO a b)/\S1 (i+1) h/\S2 (i+1) h/\T≠z/\T≠TO/\T≠i1/\T≠i2) where
 sub:=λc hc=>by simp at hc ⊢;rcases hc with rfl|rfl|rfl|rfl <;> simp
 frame:=λi h h' st hk=>by obtain⟨hz,hTI,⟨a,b,hTO⟩,t1,t2⟩:=st;exact⟨hk z `s _ hz,hk TI `s _ hTI,⟨a,b,hk TO `s _ hTO⟩,(d1 A hh).frame _ _ _ t1 λc hc o e=>hk c (by simp at hc ⊢;rcases hc with rfl|rfl <;> simp) o e,(d2 A hh).frame _ _ _ t2 λc hc o e=>hk c (by simp at hc ⊢;rcases hc with rfl|rfl <;> simp) o e⟩
 item:=λi s Q E hi st hQ=>by
  obtain⟨hz,hTI,⟨a,b,hTO⟩,t1,t2⟩:=st;have hT:s.TypeIs (.ref z) "zip" := ⟨_,hz,rfl⟩;have lt:∀{c o},s.heap.get? c=some o->`z≠c:=λe=>Nat.ne_of_gt (Heap.lt_size e);unfold pyNext;refine wpAny_bind (wpAny_attempt (wpAny_callSpecial?_slot (name:=ofString "__next__") hT F.slot_zip_next (wpAny_call_entry F.slot_zip_next hT F.entry_zip_next ?_ (F.args_zip_next_1 _))));refine Bw (A:=A.in1) hh d1 d2 ap hz hTI hTO t1 t2 (Nat.lt_of_lt_of_le hi (Nat.min_le_left ..)) (Nat.lt_of_lt_of_le hi (Nat.min_le_right ..)) λx y h' tk px py z' o' s1 s2 T' hk=>wpAny_pure ?_;obtain⟨o1,e1⟩:=(d1 A hh).live _ _ t1;obtain⟨o2,e2⟩:=(d2 A hh).live _ _ t2;exact hQ `z #[x,y] h' tk ⟨x,y,px,py,rfl⟩ `n ⟨_,T',rfl,_,rfl⟩
   ⟨z',hk _ _ ap.a1.1 ap.a2.1 ap.a2.2.1 ap.a2.2.2.1 hTI,⟨_,_,o'⟩,s1,s2,lt hz,lt hTO,lt e1,lt e2⟩
   λc o hc e=>hk c o (λy=>hc (by simp[y])) (λy=>hc (by simp[y])) (λy=>hc (by simp[y])) (λy=>hc (by simp[y])) e
 go:=λelts k pos i T s Q E hm hQ=>by obtain⟨hz,hTI,⟨a,b,hTO⟩,t1,t2,_⟩:=hm;obtain⟨⟨p1,p2,p3,p4,p5,p6⟩,_⟩:=ap;exact wpAny_letOwnedTupleGo_zip hz λh' z' s'=>hQ h' ⟨z',s'.extBut _ _ p1 hTI,⟨a,b,s'.extBut _ _ p2 hTO⟩,still (d1 A hh) t1 s'.extBut p3 p5,still (d2 A hh) t2 s'.extBut p4 p6⟩ λc o hc e=>s'.extBut _ _ (λy=>hc (by simp[y])) e
 apart:=λi T h hm hT=>by
  obtain⟨_,_,_,_,_,t1,t2,t3,t4⟩:=hm;simp only[mem_cons,not_mem_nil,or_false] at hT;rcases hT with h|h|h|h
  .exact t1 h
  .exact t2 h
  .exact t3 h
  .exact t4 h
 done:=λs Q E st hQ=>by obtain⟨hz,hTI,⟨a,b,hTO⟩,t1,t2⟩:=st;have hT:s.TypeIs (.ref z) "zip" := ⟨_,hz,rfl⟩;unfold pyNext;refine wpAny_bind (wpAny_attempt (wpAny_callSpecial?_slot (name:=ofString "__next__") hT F.slot_zip_next (wpAny_call_entry F.slot_zip_next hT F.entry_zip_next ?_ (F.args_zip_next_1 _))));refine Bx (A:=A.in1) hh d1 d2 ap hz hTI hTO t1 t2 `l λh' e tk hk W'=>?_;obtain⟨o,ho,hc⟩:=W';refine wpAny_bind (wpAny_isInstance (T := "StopIteration") (b:=true) ⟨o,ho,hc⟩ isSubtype_stop (wpAny_pure (hQ h' tk λc o hc e=>?_)));exact hk c o (λy=>hc (by simp[y])) (λy=>hc (by simp[y])) (λy=>hc (by simp[y])) (λy=>hc (by simp[y])) e
 self:=λi s Q E st hQ=>wpAny_pyIter_zip st.1 hQ
end
noncomputable abbrev zA (h:Heap)(a:Addr):Heap:=h.push (titO a)
noncomputable abbrev zB (h:Heap)(a b:Addr):Heap:=(zA h a).push (titO b)
noncomputable abbrev zC (h:Heap)(a b:Addr):Heap:=(zB h a b).push {cls:=.type "tuple",data:=.seq #[.ref h.objs.size,.ref (zA h a).objs.size]}
noncomputable abbrev zD (h:Heap)(a b:Addr):Heap:=(zC h a b).push {cls:=.type "tuple",data:=.seq #[.none,.none]}
noncomputable abbrev zE (h:Heap)(a b:Addr):Heap:=(zD h a b).push {cls:=.type "zip",data:=.fields #[.none,.bool false,.bool false,.ref (zB h a b).objs.size,.ref (zC h a b).objs.size]}
theorem Bz (a b:Addr)(xs ys:Array Value):Meets (Builtin.«zip.__new__» ⟨[.type "zip",.ref a,.ref b],[]⟩) (λ_ R s=>s.heap.IsTuple a xs/\s.heap.IsTuple b ys/\R (.ok (.ret (.ref (zD s.heap a b).objs.size))) {s with heap:=zE s.heap a b}):=
 .of_wp λprog w A R s h=>by
  obtain⟨hp,g,d,tk,os⟩:=s;obtain⟨ha,hb,h⟩:=h;have hsub:=sub_zip;have h1:Heap.IsTuple (Shared.heap ⟨hp,g,d,tk,os⟩) a xs:=ha;have h2:Heap.IsTuple (Shared.heap ⟨hp.push (titO a),g,d,tk,os⟩) b ys:=Heap.IsTuple.push hb _
  wp_walk using wpAny_pyIter_tuple h1,wpAny_pyIter_tuple h2
  exact⟨_,rfl,h⟩
section
variable {prog:Program}{w:World}{A:Around}{E:`T}{s:Shared}
theorem BA {a b:Addr}{xs ys:Array Value}{Q:`T}(ha:s.heap.IsTuple a xs)(hb:s.heap.IsTuple b ys)
  (h:∀h',IsZip h' (`z+4) (`z+2) (`z+3) .none->IsPair h' (`z+2) (.ref `z) (.ref (`z+1))->IsPair h' (`z+3) .none .none ->
   h'.IsTupleIter `z a 0->h'.IsTupleIter (`z+1) b 0->(∀c o,s.heap.get? c=some o->h'.get? c=some o)->Q (.ref (`z+4)) {s with heap:=h' }) :
  wpAny `M A (call (.type "zip") [.ref a,.ref b]) Q E s:=by
 refine callType_new F.called_zip `d (F.typeCall_zip_2 _ _) (F.newCall_zip_2 _ _) (λdl=>F.args_object_init_3 dl _ _) F.entry_zip_new (Bz a b xs ys) ⟨ha,hb,?_⟩;have y1:(zA s.heap a).objs.size=`z+1:=Heap.size_push ..;have y2:(zB s.heap a b).objs.size=`z+2:=by rw[Heap.size_push,y1]
 have y3:(zC s.heap a b).objs.size=`z+3:=by rw[Heap.size_push,y2]
 have y4:(zD s.heap a b).objs.size=`z+4:=by rw[Heap.size_push,y3]
 have up:∀{h:Heap}{o:Obj}{c:Addr}{u:Obj},h.get? c=some u->(h.push o).get? c=some u:=λe=>Heap.get?_push_of_some _ e;have e5:(zE s.heap a b).get? (zD s.heap a b).objs.size=some _:=Heap.get?_push_size _ rfl;have e4:(zE s.heap a b).get? (zC s.heap a b).objs.size=some _:=up (Heap.get?_push_size _ rfl);have e3:(zE s.heap a b).get? (zB s.heap a b).objs.size=some _:=up (up (Heap.get?_push_size _ rfl));have e2:(zE s.heap a b).get? (zA s.heap a).objs.size=some _:=up (up (up (Heap.get?_push_size _ rfl)));have e1:(zE s.heap a b).get? `z=some _:=up (up (up (up (Heap.get?_push_size _ rfl))));show _/\_;rw[y2,y3,y4] at e5;rw[y1,y2] at e3;rw[y3] at e4;rw[y1] at e2;rw[y4];exact⟨⟨_,e5,rfl⟩,h _ e5 e3 e4 ⟨_,e1,rfl,rfl⟩ ⟨_,e2,rfl,rfl⟩ λc o x=>up (up (up (up (up x))))⟩
end
noncomputable def ItZ (K:`F)(a b:Addr)(xs ys:`V):It:=ItW (min `x ys.length) (λH=>SqT K H a xs/\SqT K H b ys) λi _ vs=>∃x y,xs[i]?=some x/\ys[i]?=some y/\vs=[x,y]
theorem BB {P:Program}{w:World}{K:`F}{elts:List Expr}{k:Nat}{pos:Pos}{z TI TO i1 i2 a b:Addr}(xs ys:`V)(ap:Zap z TI TO i1 i2 a b)(h1:a≠i1)(h2:b≠i2) :
  Turn P w K (.Tuple elts k pos) (ItZ K a b xs ys) [z,TO,i1,i2,TI] z (λi h=>IsZip h z TI TO .none/\IsPair h TI (.ref i1) (.ref i2)/\(∃u v,IsPair h TO u v)/\h.IsTupleIter i1 a i/\h.IsTupleIter i2 b i):=by
 refine nU (fp:=[z,TI,TO,i1,i2,a,b]) (wr:=[z,TO,i1,i2]) (α:={ q:Array Value×Array Value // q.1.size=`x/\q.2.size=ys.length}) (Pt:=λq i dl=>∃x y,q.1.1[i]?=some x/\q.1.2[i]?=some y/\dl=#[x,y])
  (Sn:=λq i h=>IsZip h z TI TO .none/\IsPair h TI (.ref i1) (.ref i2)/\(∃a b,IsPair h TO a b)/\(h.IsTupleIter i1 a i/\h.IsTuple a q.1.1)/\(h.IsTupleIter i2 b i/\h.IsTuple b q.1.2))
  (Mid:=λq i T h=>IsZip h z TI TO (rawInt T)/\IsPair h TI (.ref i1) (.ref i2)/\(∃a b,IsPair h TO a b)/\(h.IsTupleIter i1 a (i+1)/\h.IsTuple a q.1.1)/\(h.IsTupleIter i2 b (i+1)/\h.IsTuple b q.1.2)/\T≠z/\T≠TO/\T≠i1/\T≠i2)
  `s (λb hb=>by simp at hb ⊢;rcases hb with rfl|rfl|rfl|rfl <;> simp) (λA q hh=>?_) (λA i s Q E st q=>wpAny_pyIter_zip st.1 q) (λi h st b hb=>?_) (λi h h' st kp=>?_) ?_ (λq i h st=>⟨st.1,st.2.1,st.2.2.1,st.2.2.2.1.1,st.2.2.2.2.1⟩)
 .have:=By (prog:=P) (w:=w) (A:=A) hh (λB hB=>ie (prog:=P) (w:=w) (A:=B) hB i1 a h1 q.1.1) (λB hB=>ie (prog:=P) (w:=w) (A:=B) hB i2 b h2 q.1.2) ap;rw[q.2.1,q.2.2] at this;exact this
 .obtain⟨hz,hI,⟨u,v,hO⟩,⟨o1,e1,c1,d1⟩,o2,e2,c2,d2⟩:=st;simp only[mem_cons,not_mem_nil,or_false] at hb;rcases hb with rfl|rfl|rfl|rfl|rfl
  .exact⟨_,hz,λv z=>by cases z⟩
  .exact⟨_,hO,λv z=>by cases z⟩
  .exact⟨o1,e1,λv z=>by rw[d1] at z;cases z⟩
  .exact⟨o2,e2,λv z=>by rw[d2] at z;cases z⟩
  .exact⟨_,hI,λv z=>by cases z⟩
 .obtain⟨hz,hI,⟨u,v,hO⟩,⟨o1,e1,r1⟩,o2,e2,r2⟩:=st;exact⟨kp z `s _ hz,kp TI `s _ hI,⟨u,v,kp TO `s _ hO⟩,⟨o1,kp i1 `s _ e1,r1⟩,o2,kp i2 `s _ e2,r2⟩
 .intro X hP hw hK i Ga s Z H J hf st Fr;subst hP hw hK;obtain⟨l1,BT,p1,Gc⟩:=J.tuple Fr.1;obtain⟨l2,mt,p2,Gb⟩:=J.tuple Fr.2;refine⟨⟨(l1.toArray,l2.toArray),by have:=BT.length;simp;lia,by have:=mt.length;simp;lia⟩,⟨st.1,st.2.1,st.2.2.1,⟨st.2.2.2.1,p1⟩,st.2.2.2.2,p2⟩,?_⟩;rintro dl ⟨x,y,hx,hy,rfl⟩;have Fn:l1[i]?=some x:=by simpa using hx
  have Cl:l2[i]?=some y:=by simpa using hy
  have hi:i < `x:=by have:=BT.length;have:=(List.getElem?_eq_some_iff.mp Fn).1;lia
  have hj:i < ys.length:=by have:=mt.length;have:=(List.getElem?_eq_some_iff.mp Cl).1;lia
  obtain⟨u,hu,ru⟩:=BT.get (List.getElem?_eq_getElem hi);obtain⟨v,hv,rv⟩:=mt.get (List.getElem?_eq_getElem hj);rw[Fn] at hu;rw[Cl] at hv;cases hu;cases hv;exact⟨[xs[i],ys[i]],(show 2<=sizeLine by decide),.cons ru (.cons rv .nil),xs[i],ys[i],List.getElem?_eq_getElem hi,List.getElem?_eq_getElem hj,rfl⟩
section
variable {X:Cx}{K:`F}{elts:List Expr}{kk:Nat}{tpos:Pos}
theorem BC {n a b:Nat}(ha:a < n)(hb:b < n):Zap (n+4) (n+2) (n+3) n (n+1) a b:=by refine⟨⟨?_,?_,?_,?_,?_,?_⟩,⟨?_,?_,?_,?_,?_,?_⟩,?_,?_,?_,?_⟩ <;> (show ¬ ((_:Nat)=_)) <;> lia
def iZip (K:`F)(ta:TA):TI:=λZ H R=>ta Z H λvs H1=>∃a b xs ys,vs=[.ref a,.ref b]/\SqT K H1 a xs/\SqT K H1 b ys/\R (ItZ K a b xs ys) H1
theorem eg {a b:Expr}{ta:TA}{p pos:Pos}(h:X.K=K)(hg:Gl X "zip")(hm:X.mg "zip"=none)(ha:PA X [a,b] ta)(hs:starEach [a,b] X.env=[(false,eval a X.env),(false,eval b X.env)]:=by rfl)(hs2:starEach [b] X.env=[(false,eval b X.env)]:=by rfl):PI X (.Tuple elts kk tpos) (.Call (.Name "zip" p) [a,b] [] pos) (iZip K ta):=by
 subst h;intro dl s Z H R I q;refine Call_ (bL I hg hm boot_zip (PyProof.Rows.callWith_type1 (thn (ha pos dl s Z H _ I q) λus s1 W'=>?_) (by rw[hs,hs2]) (by rw[hs2];rfl)));obtain⟨vs,H1,I1,r1,q1⟩:=W';obtain⟨a,b,xs,ys,e,Ga,Fr,q⟩:=q1;subst e;obtain⟨u,v,rfl,ru,rv⟩:=vals2 r1;cases ru;cases rv;obtain⟨l1,Gc,p1,Ge⟩:=I1.tuple Ga;obtain⟨l2,Gb,p2,Gd⟩:=I1.tuple Fr;refine BA (show s1.heap.IsTuple a l1.toArray from p1) (show s1.heap.IsTuple b l2.toArray from p2) λh' he hI hO hi hj hk=>?_;refine wpAny_pyIter_zip (s:={ s1 with heap:=h' }) he ?_;have Fn:a < `y:=by obtain⟨o,ho,_⟩:=p1;exact Heap.lt_size ho
 have BT:b < `y:=by obtain⟨o,ho,_⟩:=p2;exact Heap.lt_size ho
 have mt:Inv X dl Z H1 {s1 with heap:=h' }:=I1.kept (t':=s1.toks) hk;refine⟨`y+4,[`y+4,`y+3,`y,`y+1,`y+2],_,_,H1,rfl,mt,BB xs ys (BC Fn BT) (Nat.ne_of_lt Fn) (Nat.ne_of_lt (Nat.lt_succ_of_lt BT)),⟨he,hI,⟨_,_,hO⟩,hi,hj⟩,λb hb=>?_,q⟩;simp only[mem_cons,not_mem_nil,or_false] at hb;have Cl:`y<=b:=by
  rcases hb with rfl|rfl|rfl|rfl|rfl
  .exact Nat.le_add_right _ _
  .exact Nat.le_add_right _ _
  .exact Nat.le_refl _
  .exact Nat.le_add_right _ _
  .exact Nat.le_add_right _ _
 exact I1.fpOk Cl (I1.hok.fresh Cl)
variable {Z:St}{H:Hp}{D:Ends}{g:TG}{tb:TS}{aa:TA}
theorem BD:(tFor (iZip K aa) g tb D Z H)=(aa Z H λvs H1=>∃a b xs ys,vs=[.ref a,.ref b]/\SqT K H1 a xs/\SqT K H1 b ys/\LoopI (ItZ K a b xs ys) g tb D Z H1):=rfl
theorem BE {a b:Addr}{xs ys:`V}(Pv:Nat->St->Hp->Prop)(h0:Pv 0 Z H)(hl:∀i Z H,i<=min `x ys.length->Pv i Z H->SqT K H a xs/\SqT K H b ys)
  (hs:∀i x y Z H T,xs[i]?=some x->ys[i]?=some y->Pv i Z H->H T=none->g (.ref T) Z (upd H T (.tup [x,y])) λZ2 H2=>tb {D with nx:=Pv (i+1),ct:=Pv (i+1),bk:=D.nx} Z2 H2) (hd:∀Z H,Pv (min `x ys.length) Z H->D.nx Z H):LoopI (ItZ K a b xs ys) g tb D Z H:=
 nV Pv h0 hl (λi Z H T zs _ p hT hy=>by obtain⟨x,y,hx,hy,rfl⟩:=hy;exact hs i x y Z H T hx hy p hT) hd
variable {p:Addr}{fv:St}{tt:TT}{te:TE}{Q:VK}{H1:Hp}{fr:Tq}
theorem BF:(tComp2 K (iZip K aa) fr tt te Z H Q)=(aa Z H λvs H1=>∃a b xs ys,vs=[.ref a,.ref b]/\SqT K H1 a xs/\SqT K H1 b ys/\∀p,H1 p=none->CompI2 K (ItZ K a b xs ys) p (frV Z fr) tt te Q H1):=rfl
theorem nW {a b:Addr}{xs ys zs:`V}(hxs:SqT K H1 a xs)(hys:SqT K H1 b ys)(hlen:zs.length<=sizeLine)(hp:H1 p=none)(hz:zs.length=min `x ys.length)
  (he:∀(i:Nat) (x y z:V),xs[i]?=some x->ys[i]?=some y->zs[i]?=some z->∀(H':Hp) (T:VK),Same H1 H'->(∀H'',Same H' H''->T z H'')->te (some x::some y::fv) H' T)
  (hQ:∀H',Same H1 H'->H' p=some (.lst zs)->Q (.ref p) H'):CompI2 K (ItZ K a b xs ys) p fv tYes te Q H1:=by
 refine⟨λi m ws H2=>m=zs.length - i/\i<=zs.length/\ws=zs.take i/\H2 p=some (.lst ws)/\Same H1 H2,⟨zs.length,`s,Nat.zero_le _,`s,aB,λb o e=>by rw[aD (aG e hp)];exact e⟩,?_⟩;rintro i m ws H2 ⟨rfl,hi,rfl,dl,sm⟩;refine⟨dl,?_⟩;have qx:=sm.tup hxs;have qy:=sm.tup hys;by_cases mt:i < zs.length
 .refine .inr ⟨⟨by rw[<- hz];exact mt,qx,qy⟩,by rw[length_take];lia,λx H3 y=>?_⟩;obtain⟨T,vs,rfl,hT,rfl,x,y,hx,hy,rfl⟩:=y;have s3:Same H2 (upd H2 T (.tup [x,y])):=λb o e=>by rw[aD (aG e hT)];exact e
  refine⟨T,x,y,rfl,.inl (.inl aB),?_⟩;unfold tYes;dsimp only;rw[if_pos rfl];have BT:zs[i]?=some zs[i]:=by simp[mt]
  refine he i x y _ hx hy BT _ _ (sm.trans s3) λH5 s5=>⟨s5 _ _ (s3 _ _ dl),zs.length - (i+1),`l,rfl,mt,?_,aB,λb o e=>?_⟩
  .rw[take_add_one,BT];rfl
  .rw[aD (aG e hp)];exact s5 _ _ (s3 _ _ (sm _ _ e))
 .have e:i=zs.length:=by lia
  subst e;refine .inl ⟨⟨hz,qx,qy⟩,hQ H2 sm ?_⟩;rw[dl,take_length]
end
section
variable {p:Addr}{fv:St}{tt:TT}{te:TE}{Q:VK}{H1 H:Hp}{fr:Tq}{aa:TA}{Z:St}
theorem BG:(tComp (iRng1 aa) fr tt te Z H Q)=(aa Z H λvs H1=>∃j:Int,vs=[.int j]/\-(2 ^ 62)<=j/\j < 2 ^ 62/\∀p,H1 p=none->CompI (Itr 0 j.toNat) p (frV Z fr) tt te Q H1):=rfl
theorem nX {n:Nat}(J:Nat->`V->Hp->Prop)(hlen:n<=sizeLine)(h0:J 0 [] (upd H1 p (.lst [])))
  (he:∀(i:Nat) (ys:`V) (H2:Hp) (T:VK),i < n->J i ys H2->H2 p=some (.lst ys)->(∀y H3,H3 p=some (.lst ys)->J (i+1) (ys++[y]) (upd H3 p (.lst (ys++[y])))->T y H3)->te (some (.int (0+(i:Int)))::fv) H2 T)
  (hQ:∀ys H2,J n ys H2->H2 p=some (.lst ys)->Q (.ref p) H2):CompI (Itr 0 n) p fv tYes te Q H1:=by
 refine⟨λi m ys H2=>m=n - i/\i<=n/\ys.length=i/\H2 p=some (.lst ys)/\J i ys H2,⟨n,`s,Nat.zero_le _,rfl,aB,h0⟩,?_⟩;rintro i m ys H2 ⟨rfl,hi,BT,dl,hJ⟩;refine⟨dl,?_⟩;by_cases mt:i < n
 .refine .inr ⟨mt,`l,λx H3 y=>?_⟩;obtain⟨rfl,rfl⟩:=y;unfold tYes;dsimp only;rw[if_pos rfl];exact he i ys _ _ mt hJ dl λy H5 Cl Fn=>⟨Cl,n - (i+1),`l,rfl,mt,by rw[length_append,BT];rfl,aB,Fn⟩
 .have e:i=n:=by lia
  subst e;exact .inl ⟨Nat.le_refl _,hQ ys H2 hJ dl⟩
end
section
variable {prog:Program}{w:World}{A:Around}{E:`T}{s:Shared}
end
section
variable {X:Cx}{K:`F}{elts:List Expr}{kk:Nat}{tpos:Pos}
variable {Z:St}{H:Hp}{D:Ends}{g:TG}{tb:TS}{aa:TA}
variable {p:Addr}{fv:St}{tt:TT}{te:TE}{Q:VK}{H1:Hp}{fr:Tq}
end
section
variable {K:`F}{p:Addr}{fv:St}{te:TE}{Q:VK}{H1:Hp}
end
section
variable {prog:Program}{w:World}{A:Around}{E:`T}{s:Shared}
end
section
variable {X:Cx}{K:`F}{elts:List Expr}{kk:Nat}{tpos:Pos}
variable {Z:St}{H:Hp}{D:Ends}{g:TG}{tb:TS}{aa:TA}
variable {p:Addr}{fv:St}{tt:TT}{te:TE}{Q:VK}{H1:Hp}{fr:Tq}
theorem BH:(tComp2 K (iEnum K aa) fr tt te Z H Q)=(aa Z H λvs H1=>∃a xs,vs=[.ref a]/\SqT K H1 a xs/\∀p,H1 p=none->CompI2 K (ItE K a xs) p (frV Z fr) tt te Q H1):=rfl
theorem BI {a:Addr}{xs:`V}(J:Nat->`V->Hp->Prop)(hm:∀i ws H H',Same H H'->J i ws H->J i ws H')(hlen:`x<=sizeLine)(h0:J 0 [] (upd H1 p (.lst [])))(hS:∀i ws H2,J i ws H2->SqT K H2 a xs)
  (he:∀(i:Nat) (x:V) (ws:`V) (H2:Hp) (T:VK),xs[i]?=some x->J i ws H2->H2 p=some (.lst ws)->(∀z H3,H3 p=some (.lst ws)->J (i+1) (ws++[z]) (upd H3 p (.lst (ws++[z])))->T z H3)->te (some (.int (i:Int))::some x::fv) H2 T)
  (hQ:∀ws H2,J `x ws H2->H2 p=some (.lst ws)->Q (.ref p) H2):CompI2 K (ItE K a xs) p fv tYes te Q H1:=by
 refine⟨λi m ws H2=>m=`x - i/\i<=`x/\ws.length=i/\H2 p=some (.lst ws)/\J i ws H2,⟨`x,`s,Nat.zero_le _,rfl,aB,h0⟩,?_⟩;rintro i m ws H2 ⟨rfl,hi,BT,dl,hJ⟩;refine⟨dl,?_⟩;have qx:=hS _ _ _ hJ;by_cases mt:i < `x
 .refine .inr ⟨⟨mt,qx⟩,`l,λx H3 y=>?_⟩;obtain⟨T,vs,rfl,hT,rfl,x,hx,rfl⟩:=y;have s3:Same H2 (upd H2 T (.tup [.int (i:Int),x])):=λb o e=>by rw[aD (aG e hT)];exact e
  refine⟨T,_,x,rfl,.inl (.inl aB),?_⟩;unfold tYes;dsimp only;rw[if_pos rfl];exact he i x ws _ _ hx (hm _ _ _ _ s3 hJ) (s3 _ _ dl) λz H5 Cl Fn=>⟨Cl,`x - (i+1),`l,rfl,mt,by rw[length_append,BT];rfl,aB,Fn⟩
 .have e:i=`x:=by lia
  subst e;exact .inl ⟨⟨rfl,qx⟩,hQ ws H2 hJ dl⟩
end
end L2
namespace L2
open PySem PySem.Spec PySem.W PyProof.Rows
end L2
namespace L2
open PySem PySem.Spec PySem.W PySem.Calls PyProof.Rows PySem.Builtin PySem.Builtin.ObjectAttr
noncomputable def errTail:List Value->Bool
 |.ref _::r=>errTail r
 |l=>l == vErr
noncomputable def overErr (K:Frag)(C:Addr):Bool:=(clsIn K C).any λcd=>errTail cd.mro
section
variable {prog:Program}{w:World}{A:Around}{E:`T}{s:Shared}{K:Frag}{x C:Addr}{name:Str}{v:Value}{ox:Obj}{od:Option Obj}
end
end L2
namespace L2
open PySem PySem.Spec PySem.W PySem.Calls PyProof.Rows
noncomputable abbrev newExc (C t:Addr):Obj:={ cls:=.ref C,data:=.fields #[.ref t,.none,.none,.none,.bool false,.none]}
section
variable {prog:Program}{w:World}{A:Around}{E:`T}{h:Heap}{g:Array GenState}{d:Drawn}{t:Nat}{os:OsState}
variable {nm q:Str}{C N:Addr}{bs bm bmB:List Value}{hdct:Bool}{sn:List Str}{sub:List Value}{ab:Bool}{col:Option Bool}{dd:Option Addr}{k0 k1 k2 k3 k5:Option Value}{B newId initId:String}
end
structure ExSt (K:Frag)(C:Addr)(f:Str):Prop where
 sa:findIn K (.ref C) "__setattr__"=some (some (.builtin "object.__setattr__"))
 po:overErr K C=true
 na:findIn K (.ref C) f=some none
 hd:hasDictIn K C=true
section
variable {X:Cx}{ta tv:TE}{o value:Expr}{f:Str}{pos pos':Pos}
end
structure FlownN (P:Program)(w:World)(base:Heap)(outer:List Env)(H:Hp)(s:Shared)(a t C:Addr)(d:Option Addr)(B:Heap)(H':Hp)(s':Shared):Prop where
 f:Flown P w base outer H s a t C B H' s'
 dc:∀x,d=some x->∃oe,s'.heap.get? a=some oe/\oe.dict=some x
section
variable {P:Program}{w:World}{K:Frag}{mg:Str->Option Value}{base:Heap}{N:List Str}{qual:Str}{scope:Scope}{f:Addr}{cd:Value}{A:Around}{outer:List Env}{s:Shared}{H:Hp}{E:XK}
end
structure Mk1 (K:Frag)(C f:Addr):Prop where
 ex:excInJ K C vErr vNew (some (.ref f))=true
 fn:isFn K (.ref f)=true
 kp:keepIn K (.ref C)=true
end L2
namespace L2
open PySem PySem.Spec PySem.W PySem.Calls PyProof.Rows PySem.Builtin PySem.Builtin.ObjectAttr
section
variable {prog:Program}{w:World}{A:Around}{E:`T}{hh:Heap}{g:Array GenState}{dr:Drawn}{t:Nat}{os:OsState}{K:Frag}{a C:Addr}{o:Obj}{od:Option Obj}{name:Str}{v:Value}
end
structure ExFld (K:Frag)(C:Addr)(f:Str):Prop where
 look:ExLook K C
 na:findIn K (.ref C) f=some none
 hd:hasDictIn K C=true
end L2
namespace L2
open PySem PySem.Spec PySem.W PySem.Calls PyProof.Rows
section
variable {P:Program}{w:World}{K:Frag}{mg:Str->Option Value}{base:Heap}{j k:Nat}{A:Around}{outer:List Env}{s:Shared}{H:Hp}{E:XK}
structure RoomU (k:Nat)(A:Around):Prop where
 dp:A.depth+3 * k+5 < recursionLimit
 un:A.units+16 * k+200 < cLine
structure FnU (P:Program)(w:World)(K:Frag)(mg:Str->Option Value)(base:Heap)(k:Nat)(f:Addr)(fd:FuncData)(ps:List Str)(sp:Sp):Prop where
 len:∀vs H Q E,sp vs H Q E->vs.length=ps.length
 go:∀(A:Around) (outer:List Env) (s:Shared) (H:Hp) (args:Args) (us:List Value) (vs:`V) (Q:VK) (E:XK),RoomU k A->Env0 P w K mg base A outer s H->BindsTo s fd args (ps.zip us)->Vals vs us->sp vs H Q E ->
  codeAny (model P w) A (.call (.ref f) args) (CR CX0 outer P w H s Q E) s
end
section
variable {X:Cx}
end
end L2
namespace L2
open PySem
end L2
namespace Wm
open PySem L2
noncomputable abbrev Rs (α:Type):=Except Nat (α×Nat)
noncomputable def sh {α:Type}(k:Nat):Rs α->Rs α
 |.ok (a,n)=>.ok (a,k+n)
 |.error n=>.error (k+n)
noncomputable def mp {α β:Type}(f:α->β):Rs α->Rs β
 |.ok (a,n)=>.ok (f a,n)
 |.error n=>.error n
noncomputable def pre {α:Type}(c:α)(k:Nat):Rs (List α)->Rs (List α)
 |.ok (l,n)=>.ok (c::l,k+n)
 |.error n=>.error (k+n)
section
variable {α β γ:Type}
end
section
variable {t:Tq}{h:Option Tq}{d:Option Int}{w:Bool×List Tq×Bool}{q:Option (List (Tq×Option Tq))}{m:Option Tq}{n n1 n2 n3 n4 n5:Nat}
end
section
variable {r:Tq}{n:Nat}
end
section
variable {r:Tq}{n:Nat}
end
end Wm
namespace L2
open PySem PySem.Spec PyProof.Rows
section
variable {X:Cx}
def rStart1:V->`V->Hp->VK->Prop:=λx vs H Q=>∃z y:Tq,x=.str ⟨z.toArray⟩/\vs=[.str ⟨y.toArray⟩]/\Q (.bl (decide (z.take y.length=y))) H
def rEnd1:V->`V->Hp->VK->Prop:=λx vs H Q=>∃z y:Tq,x=.str ⟨z.toArray⟩/\vs=[.str ⟨y.toArray⟩]/\Q (.bl (decide (z.drop (z.length - y.length)=y))) H
theorem nY (z y:Tq)(i:Nat):Builtin.Str.subAt ⟨z.toArray⟩ ⟨y.toArray⟩ i=decide ((z.drop i).take y.length=y):=by unfold Builtin.Str.subAt;have hl:(⟨y.toArray⟩:Str).length=y.length:=rfl;rw[hl,Bool.eq_iff_iff,beq_iff_eq,decide_eq_true_eq];show (z.toArray.extract i (i+y.length)=y.toArray)↔_;rw[<- Array.toList_inj];simp
theorem BJ (z y:Tq):(decide (0+(⟨y.toArray⟩:Str).length<=(⟨z.toArray⟩:Str).length) && Builtin.Str.subAt ⟨z.toArray⟩ ⟨y.toArray⟩ 0)=decide (z.take y.length=y):=by
 rw[nY,drop_zero];show (decide (0+y.length<=z.length) && _)=_;by_cases h:z.take y.length=y
 .have:=congrArg List.length h;rw[length_take] at this;rw[decide_eq_true h,decide_eq_true (show 0+y.length<=z.length by lia)];rfl
 .rw[decide_eq_false h,Bool.and_false]
theorem BK (z y:Tq):(decide (0+(⟨y.toArray⟩:Str).length<=(⟨z.toArray⟩:Str).length) && Builtin.Str.subAt ⟨z.toArray⟩ ⟨y.toArray⟩ ((⟨z.toArray⟩:Str).length - (⟨y.toArray⟩:Str).length))=decide (z.drop (z.length - y.length)=y):=by
 rw[nY];show (decide (0+y.length<=z.length) && decide ((z.drop (z.length - y.length)).take y.length=y))=_;have e:(z.drop (z.length - y.length)).length<=y.length->(z.drop (z.length - y.length)).take y.length=z.drop (z.length - y.length):=λh=>take_of_length_le h;rw[e (by rw[length_drop];lia)];by_cases h:z.drop (z.length - y.length)=y
 .have:=congrArg List.length h;rw[length_drop] at this;rw[decide_eq_true h,decide_eq_true (show 0+y.length<=z.length by lia)];rfl
 .rw[decide_eq_false h,Bool.and_false]
theorem ii:MtR X "str.startswith" rStart1:=by intro dl s Z H x vs v us Q I rx rv h;obtain⟨z,y,rfl,rfl,q⟩:=h;obtain⟨t,rfl⟩:=rx;obtain⟨u,rfl,t',rfl⟩:=vals1 rv;refine call_meets F.slot_str_startswith (typeIs_str _ _ _) F.entry_str_startswith (F.args_str_startswith_2 _ _) (gives_str_startswith _ _ t t').meets ?_;refine⟨.bl _,H,I,rfl,?_⟩;rw[<- BJ] at q;exact q
theorem nZ:MtR X "str.endswith" rEnd1:=by intro dl s Z H x vs v us Q I rx rv h;obtain⟨z,y,rfl,rfl,q⟩:=h;obtain⟨t,rfl⟩:=rx;obtain⟨u,rfl,t',rfl⟩:=vals1 rv;refine call_meets F.slot_str_endswith (typeIs_str _ _ _) F.entry_str_endswith (F.args_str_endswith_2 _ _) (gives_str_endswith _ _ t t').meets ?_;refine⟨.bl _,H,I,rfl,?_⟩;rw[<- BK] at q;exact q
theorem ij {z y:Tq}{H:Hp}{Q:VK}:rStart1 (.str ⟨z.toArray⟩) [.str ⟨y.toArray⟩] H Q↔Q (.bl (decide (z.take y.length=y))) H:=
 ⟨λ⟨z',y',e1,e2,h⟩=>by
  injection e1 with e1;injection e1 with e1;injection e2 with e2;injection e2 with e2;injection e2 with e2;have h1:z=z':=by simpa using congrArg Array.toList e1
  have h2:y=y':=by simpa using congrArg Array.toList e2
  subst h1 h2;exact h,λh=>⟨z,y,rfl,rfl,h⟩⟩
theorem nh {z y:Tq}{H:Hp}{Q:VK}:rEnd1 (.str ⟨z.toArray⟩) [.str ⟨y.toArray⟩] H Q↔Q (.bl (decide (z.drop (z.length - y.length)=y))) H:=
 ⟨λ⟨z',y',e1,e2,h⟩=>by
  injection e1 with e1;injection e1 with e1;injection e2 with e2;injection e2 with e2;injection e2 with e2;have h1:z=z':=by simpa using congrArg Array.toList e1
  have h2:y=y':=by simpa using congrArg Array.toList e2
  subst h1 h2;exact h,λh=>⟨z,y,rfl,rfl,h⟩⟩
end
end L2
namespace L2
open PySem
section
variable {p:Addr}{fv:St}{tt:TT}{te:TE}{Q:VK}{H1:Hp}{K:`F}
theorem BL {a:Addr}{xs:`V}(f:V->Bool)(g:V->V)(hxs:SqL K H1 a xs)(hlen:`x<=sizeLine)(hp:H1 p=none)
  (ht:∀(i:Nat) (x:V),xs[i]?=some x->∀(H':Hp) (R:Bool->Hp->Prop),Same H1 H'->(∀H'',Same H' H''->R (f x) H'')->tt (some x::fv) H' R)
  (he:∀(i:Nat) (x:V),xs[i]?=some x->f x=true->∀(H':Hp) (T:VK),Same H1 H'->(∀H'',Same H' H''->T (g x) H'')->te (some x::fv) H' T)
  (hQ:∀H',Same H1 H'->H' p=some (.lst ((xs.filter f).map g))->Q (.ref p) H'):CompI (Itl K a) p fv tt te Q H1:=by
 refine⟨λi m ys H2=>m=`x - i/\i<=`x/\ys=((xs.take i).filter f).map g/\H2 p=some (.lst ys)/\Same H1 H2,⟨`x,`s,Nat.zero_le _,`s,aB,λb o e=>by rw[aD (aG e hp)];exact e⟩,?_⟩;rintro i m ys H2 ⟨rfl,hi,rfl,dl,sm⟩;refine⟨dl,?_⟩;have q:=sm.seq hxs;by_cases mt:i < `x
 .refine .inr ⟨⟨xs,xs[i],q,by simp[mt]⟩,?_,λx H3 y=>?_⟩
  .rw[length_map];have:=length_filter_le f (xs.take i);rw[length_take] at this;lia
  .obtain⟨rfl,y⟩:=y;have hc:=y xs q;refine ht i x hc _ _ sm λH4 s4=>?_;by_cases hf:f x=true
   .rw[if_pos hf];refine he i x hc hf _ _ (sm.trans s4) λH5 s5=>⟨(s4.trans s5) _ _ dl,`x - (i+1),`l,rfl,mt,?_,aB,λb o e=>?_⟩
    .rw[take_add_one,hc];simp[hf]
    .rw[aD (aG e hp)];exact (s4.trans s5) _ _ (sm _ _ e)
   .rw[if_neg hf];refine⟨`x - (i+1),`l,rfl,mt,?_,s4 _ _ dl,sm.trans s4⟩;rw[take_add_one,hc];simp[hf]
 .have e:i=`x:=by lia
  subst e;refine .inl ⟨⟨xs,q,Nat.le_refl _⟩,hQ H2 sm ?_⟩;rw[dl,take_length]
end
end L2
namespace Wm
open PySem L2
inductive Pc
 |step (s:Tq)
 |part (h n t:Tq)
 |num (n:Tq)
 |word (n:Tq)
 |gap (n:Tq)
 |rest (n:Tq)
noncomputable abbrev tV (l:Tq):V:=.str `A
noncomputable def Pc.kw:Pc->Str
 |.step _=>ofString "step"
 |.part ..=>ofString "part"
 |.num _=>ofString "number"
 |.word _=>ofString "word"
 |.gap _=>ofString "gap"
 |.rest _=>ofString "rest"
noncomputable def Pc.tl:Pc->`V
 |.step s=>[tV s]
 |.part h n t=>[tV h,tV n,tV t]
 |.num n=>[tV n]
 |.word n=>[tV n]
 |.gap n=>[tV n]
 |.rest n=>[tV n]
noncomputable def Pc.vals (c:Pc):`V:=.str c.kw::c.tl
noncomputable def Pc.name:Pc->Tq
 |.step _=>[]
 |.part _ n _=>n
 |.num n=>n
 |.word n=>n
 |.gap n=>n
 |.rest n=>n
noncomputable def Pc.head:Pc->Tq|.part h _ _=>h|_=>[]
noncomputable def Pc.tail:Pc->Tq|.part _ _ t=>t|_=>[]
noncomputable def Pc.isStep:Pc->Bool|.step _=>true|_=>false
noncomputable def Pc.isPart:Pc->Bool|.part ..=>true|_=>false
noncomputable def Pc.isNum:Pc->Bool|.num _=>true|_=>false
noncomputable def Pc.isWord:Pc->Bool|.word _=>true|_=>false
noncomputable def Pc.isRest:Pc->Bool|.rest _=>true|_=>false
theorem Pc.at0 (c:Pc):atI c.vals 0=some (.str c.kw):=a7 (j:=0) rfl
theorem eh (c:Pc):decide (c.kw=ofString "step")=c.isStep:=by cases c <;> first|exact decide_eq_true rfl|exact decide_eq_false (show ¬ (ofString _=ofString _) by fail "k")
theorem av (c:Pc):decide (c.kw=ofString "part")=c.isPart:=by cases c <;> first|exact decide_eq_true rfl|exact decide_eq_false (show ¬ (ofString _=ofString _) by fail "k")
theorem bT (c:Pc):decide (c.kw=ofString "number")=c.isNum:=by cases c <;> first|exact decide_eq_true rfl|exact decide_eq_false (show ¬ (ofString _=ofString _) by fail "k")
theorem cw (c:Pc):decide (c.kw=ofString "word")=c.isWord:=by cases c <;> first|exact decide_eq_true rfl|exact decide_eq_false (show ¬ (ofString _=ofString _) by fail "k")
theorem ek (c:Pc):decide (c.kw=ofString "rest")=c.isRest:=by cases c <;> first|exact decide_eq_true rfl|exact decide_eq_false (show ¬ (ofString _=ofString _) by fail "k")
noncomputable def isFig (c:Nat):Bool:=decide (48<=c/\c<=57)
noncomputable def isSma (c:Nat):Bool:=decide (97<=c/\c<=122)
noncomputable def numB (l:Tq):Bool:=decide (1<=`L) && decide (`L<=60) && l.all isFig && (decide (l=[48]) || !decide (l.head?=some 48))
noncomputable def wordB (l:Tq):Bool:=decide (1<=`L) && decide (`L<=60) && l.all isSma
noncomputable def partB (h t s:Tq):Bool:=decide (s.take h.length=h) && (decide (s.drop (s.length - `t)=t) && decide (h.length+`t < s.length))
noncomputable def fitsM (c:Pc)(s:Tq):Bool:=!isDot s && match c with
 |.step w=>decide (s=w)
 |.part h _ t=>partB h t s
 |.num _=>numB s
 |.word _=>wordB s
 |.gap _=>true
 |.rest _=>true
inductive Vl
 |txt (l:Tq)
 |int (i:Int)
 |lst (ls:List Tq)
noncomputable def intOf (l:Tq):Int:=(PySem.intText? `A).getD 0
noncomputable def amid (h t s:Tq):Tq:=(s.drop h.length).take (s.length - `t - h.length)
noncomputable def bvM (c:Pc)(ss:List Tq):Vl:=match c with
 |.rest _=>.lst ss
 |.num _=>.int (intOf (ss.headD []))
 |_=>.txt (amid c.head c.tail (ss.headD []))
def VlV (H:Hp):Vl->V->Prop
 |.txt l,v=>v=tV l
 |.int i,v=>v=.int i
 |.lst ls,v=>∃p,v=.ref p/\H p=some (.lst (ls.map tV))
theorem VlV.mono {H H':Hp}(s:Same H H'):∀{x:Vl}{v:V},VlV H x v->VlV H' x v
 |.txt _,_,h=>h
 |.int _,_,h=>h
 |.lst _,_,⟨p,e,h⟩=>⟨p,e,s _ _ h⟩
theorem BM {l:Tq}(h:l.all isFig=true)(h0:1<=`L)(h1:`L<=60):PySem.intText? `A=some (intOf l):=by
 have e:=intText_digits (x:=`A) (λc hc=>by have:=all_eq_true.mp h c (by simpa using hc);simpa [isFig] using this) (by intro z;simp at z;rw[z] at h0;simp at h0) (by show `L<=4300;lia)
 unfold intOf;rw[e];rfl
inductive PcAll (K:`F)(H:Hp):List Pc->`V->Prop
 |nil:PcAll K H [] []
 |cons {c:Pc}{p:Addr}{cs:List Pc}{xs:`V}:SqT K H p c.vals->PcAll K H cs xs->PcAll K H (c::cs) (.ref p::xs)
theorem PcAll.mono {K:`F}{H H':Hp}(s:Same H H'){cs:List Pc}{xs:`V}(hh:PcAll K H cs xs):PcAll K H' cs xs:=by
 induction hh with
 |nil=>exact .nil
 |cons h r ih=>exact .cons (s.tup h) ih
theorem PcAll.length {K:`F}{H:Hp}{cs:List Pc}{xs:`V}(hh:PcAll K H cs xs):`x=cs.length:=by
 induction hh with
 |nil=>exact rfl
 |cons _ r ih=>simp[ih]
theorem PcAll.get {K:`F}{H:Hp}{cs:List Pc}{xs:`V}(hh:PcAll K H cs xs){i:Nat}{v:V}(e:xs[i]?=some v):∃c p,cs[i]?=some c/\v=.ref p/\SqT K H p c.vals:=by
 induction hh generalizing i with
 |nil=>cases e
 |cons h _ ih=>
  cases i with
  |zero=>cases e;exact⟨_,_,rfl,rfl,h⟩
  |succ i=>exact ih e
theorem PcAll.append {K:`F}{H:Hp}{ds:List Pc}{ys:`V}(h2:PcAll K H ds ys){cs:List Pc}{xs:`V}(hh:PcAll K H cs xs):PcAll K H (cs++ds) (xs++ys):=by
 induction hh with
 |nil=>exact h2
 |cons h r ih=>exact .cons h ih
noncomputable def hasRest (cs:List Pc):Bool:=match cs.getLast? with
 |some c=>c.isRest
 |none=>false
noncomputable def smaL:Tq:=(ofString "abcdefghijklmnopqrstuvwxyz").cps.toList
theorem ni:∀c,c < 128->(c∈smaL↔isSma c=true):=`k
theorem nn:∀c∈smaL,c < 128:=`k
theorem ik (l:Tq):l.all isSma=l.all λc=>decide (c∈smaL):=by
 congr 1
 funext c
 by_cases h:c < 128
 .rw[Bool.eq_iff_iff,decide_eq_true_eq];exact (ni c h).symm
 .have h1:¬ c∈smaL:=λz=>h (nn c z);rw[decide_eq_false h1];unfold isSma;exact decide_eq_false `l
theorem nu (l:Tq):(l.all λc=>decide (c∈fgS))=l.all isFig:=by
 congr 1
 funext c
 unfold isFig;exact decide_eq_decide.mpr Bj
theorem PcAll.last {K:`F}{H:Hp}{cs:List Pc}{xs:`V}{c:Pc}(h:PcAll K H cs xs)(hc:cs.getLast?=some c):∃v,atI xs (-1)=some v/\∃p,v=.ref p/\SqT K H p c.vals:=by
 have hl:=h.length;have hn:cs≠[]:=by rintro rfl;cases hc
 have hp:=length_pos_iff.mpr hn;obtain⟨v,hx⟩:∃v,xs[cs.length - 1]?=some v:=⟨_,List.getElem?_eq_getElem `l⟩;obtain⟨d,p,e1,e2,e3⟩:=h.get hx;rw[List.getLast?_eq_getElem?] at hc;rw[hc] at e1;cases e1;refine⟨v,?_,p,e2,e3⟩;have hg:xs.getLast?=some v:=by rw[List.getLast?_eq_getElem?,hl];exact hx
 have:=cI (l:=xs) (λv=>v) hg;simpa using this
noncomputable def spreadM (cs:List Pc)(n:Nat):Option (List Pc):=if hasRest cs=true/\cs.length<=n then some (cs++(List.replicate (n - cs.length) (cs.drop (cs.length - 1))).flatten) else if n=cs.length then some cs else none
noncomputable def fitsP (cs:List Pc)(cl r:Bool)(ss:List Tq)(e:Bool):Bool:=match spreadM cs ss.length with
 |none=>false
 |some ds=>r && decide (e=cl) && (List.zipWith fitsM ds ss).all id
noncomputable def boundM:List Pc->List Tq->List (Tq×Vl)
 |[],_=>[]
 |c::cs,ss=>(if c.isStep then [] else [(c.name,bvM c ss)])++boundM cs (ss.drop 1)
inductive BndV (H:Hp)(l:Addr):List (Tq×Vl)->`V->Prop
 |nil:BndV H l [] []
 |cons {n:Tq}{x:Vl}{p:Addr}{v:V}{bs:List (Tq×Vl)}{ys:`V}:H p=some (.tup [tV n,v])->VlV H x v->(∀q,v=.ref q->q≠l)->BndV H l bs ys->BndV H l ((n,x)::bs) (.ref p::ys)
theorem BndV.mono {H H':Hp}{l:Addr}(s:Same H H'){bs:List (Tq×Vl)}{ys:`V}(hh:BndV H l bs ys):BndV H' l bs ys:=by
 induction hh with
 |nil=>exact .nil
 |cons h v n r ih=>exact .cons (s _ _ h) (v.mono s) n ih
theorem VlV.upd {H:Hp}{l:Addr}{o:HO}:∀{x:Vl}{v:V},VlV H x v->(∀q,v=.ref q->q≠l)->VlV (L2.upd H l o) x v
 |.txt _,_,h,_=>h
 |.int _,_,h,_=>h
 |.lst _,_,⟨p,e,h⟩,hn=>⟨p,e,by rw[aD (hn p e)];exact h⟩
theorem BndV.upd {H:Hp}{l:Addr}{o:HO}{xs:`V}(hl:H l=some (.lst xs)){bs:List (Tq×Vl)}{ys:`V}(hh:BndV H l bs ys):BndV (L2.upd H l o) l bs ys:=by
 induction hh with
 |nil=>exact .nil
 |cons h v n r ih=>exact .cons (by rw[aD (aY h hl (by intro z;cases z))];exact h) (v.upd n) n ih
theorem BndV.snoc {H:Hp}{l:Addr}{n:Tq}{x:Vl}{p:Addr}{v:V}(h:H p=some (.tup [tV n,v]))(hv:VlV H x v)(hn:∀q,v=.ref q->q≠l){bs:List (Tq×Vl)}{ys:`V}(hh:BndV H l bs ys):BndV H l (bs++[(n,x)]) (ys++[.ref p]):=by
 induction hh with
 |nil=>exact .cons h hv hn .nil
 |cons a b c r ih=>exact .cons a b c ih
theorem BndV.length {H:Hp}{l:Addr}{bs:List (Tq×Vl)}{ys:`V}(hh:BndV H l bs ys):ys.length=bs.length:=by
 induction hh with
 |nil=>exact rfl
 |cons _ _ _ r ih=>simp[ih]
theorem il:∀(cs:List Pc) (ss:List Tq),(boundM cs ss).length<=cs.length
 |[],_=>Nat.le_refl _
 |c::cs,ss=>by have:=il cs (ss.drop 1);unfold boundM;rw[length_append];split <;> simp only[length_nil,length_cons] <;> lia
theorem nv:∀(cs:List Pc) (ss:List Tq) (i:Nat) (c:Pc),cs[i]?=some c->boundM (cs.take (i+1)) ss=boundM (cs.take i) ss++(if c.isStep then [] else [(c.name,bvM c (ss.drop i))])
 |[],ss,i,c,h=>by simp at h
 |d::cs,ss,0,c,h=>by cases h;show _++boundM (cs.take 0) (ss.drop 1)=boundM [] ss++_;simp[boundM]
 |d::cs,ss,i+1,c,h=>by have:=nv cs (ss.drop 1) i c (by simpa using h);show _++boundM (cs.take (i+1)) (ss.drop 1)=(_++boundM (cs.take i) (ss.drop 1))++_;rw[this,append_assoc,drop_drop,Nat.add_comm 1 i]
theorem ny {cs ds:List Pc}{n:Nat}(h:spreadM cs n=some ds):cs.length<=n/\∃es,ds=cs++es:=by
 unfold spreadM at h;split at h
 .rename_i hh;cases h;exact⟨hh.2,_,rfl⟩
 .split at h
  .rename_i hh;cases h;exact⟨`l,[],`s⟩
  .cases h
theorem nz {cs:List Pc}{cl r e:Bool}{ss:List Tq}(h:fitsP cs cl r ss e=true){i:Nat}{c:Pc}(hc:cs[i]?=some c):∃s,ss[i]?=some s/\fitsM c s=true:=by
 unfold fitsP at h;split at h
 .cases h
 .rename_i ds hd;obtain⟨hl,es,rfl⟩:=ny hd;have hi:=(List.getElem?_eq_some_iff.mp hc).1;have hs:ss[i]?=some ss[i]:=List.getElem?_eq_getElem `l;refine⟨_,hs,?_⟩;have ha:=(Bool.and_eq_true _ _▸h).2;have hz:(List.zipWith fitsM (cs++es) ss)[i]?=some (fitsM c ss[i]):=by rw[List.getElem?_zipWith,List.getElem?_append_left hi,hc,hs]
  exact all_eq_true.mp ha _ (mem_of_getElem? hz)
theorem BN {n s:Tq}(h:fitsM (.num n) s=true):1<=s.length/\s.length<=60/\s.all isFig=true:=by unfold fitsM numB at h;simp only[Bool.and_eq_true,decide_eq_true_eq] at h;exact⟨h.2.1.1.1,h.2.1.1.2,h.2.1.2⟩
theorem BO {h n t s:Tq}(hf:fitsM (.part h n t) s=true):(Pc.part h n t).head.length+(Pc.part h n t).tail.length<=s.length:=by unfold fitsM partB at hf;simp only[Bool.and_eq_true,decide_eq_true_eq] at hf;have:=hf.2.2.2;show h.length+`t<=s.length;lia
theorem io (xs:`V):cutV xs (some (-1)) none=xs.drop (`x - 1):=by
 unfold cutV;rw[HT.sIx_none];have e:HT.sIx `x 0 (some (-1))=`x - 1:=by unfold HT.sIx;simp only[if_pos (show (-1:Int) < 0 by decide)];lia
 rw[e,take_of_length_le (by rw[length_drop];lia)]
theorem PcAll.drop {K:`F}{H:Hp}{cs:List Pc}{xs:`V}(h:PcAll K H cs xs)(i:Nat):PcAll K H (cs.drop i) (xs.drop i):=by
 induction h generalizing i with
 |nil=>rw[drop_nil,drop_nil];exact .nil
 |cons a r ih=>cases i with
  |zero=>exact .cons a r
  |succ i=>exact ih i
theorem PcAll.reps {K:`F}{H:Hp}{cs:List Pc}{xs:`V}(h:PcAll K H cs xs):∀m:Nat,PcAll K H (List.replicate m cs).flatten (List.replicate m xs).flatten
 |0=>.nil
 |m+1=>by rw[replicate_succ,replicate_succ,flatten_cons,flatten_cons];exact (h.reps m).append h
theorem BP {α:Type}(xs:List α)(m:Nat)(h:`x<=1):(List.replicate m xs).flatten.length<=m:=by
 induction m with
 |zero=>simp
 |succ m ih=>rw[replicate_succ,flatten_cons,length_append];lia
def PcSz (cs:List Pc):Prop:=∀c∈cs,c.head.length<=100000/\c.tail.length<=100000
theorem BQ {cs ds:List Pc}{n:Nat}(h:spreadM cs n=some ds):∀c∈ds,c∈cs:=by
 unfold spreadM at h;split at h
 .cases h;intro c hc;rcases mem_append.mp hc with hc|hc
  .exact hc
  .obtain⟨l,hl,hc⟩:=List.mem_flatten.mp hc;rw[List.eq_of_mem_replicate hl] at hc;exact mem_of_mem_drop hc
 .split at h
  .cases h;exact λc hc=>hc
  .cases h
theorem o0 {cs ds:List Pc}{n:Nat}(h:spreadM cs n=some ds):ds.length=n:=by
 unfold spreadM at h;split at h
 .rename_i hh;cases h;have dl:cs≠[]:=by rintro rfl;exact absurd hh.1 `d
  have hp:=length_pos_iff.mpr dl;have e:∀m,(List.replicate m (cs.drop (cs.length - 1))).flatten.length=m:=λm=>by
   induction m with
   |zero=>simp
   |succ m ih=>rw[replicate_succ,flatten_cons,length_append,ih,length_drop];lia
  rw[length_append,e];lia
 .split at h
  .rename_i hh;cases h;lia
  .cases h
theorem ip (xs:`V)(i:Nat):cutV xs (some (i:Int)) none=xs.drop i:=by
 unfold cutV;rw[HT.sIx_none,HT.sIx_nat];by_cases h:i<=`x
 .rw[Nat.min_eq_left h,take_of_length_le (by rw[length_drop];lia)]
 .rw[Nat.min_eq_right `l,List.drop_of_length_le `n,List.drop_of_length_le `l];simp
theorem BR (i:Int):∃c,atI smaL (i % 26)=some c/\isSma c=true:=by
 have h1:=Int.emod_nonneg i (show (26:Int)≠0 by decide);have h2:=Int.emod_lt_of_pos i (show (0:Int) < 26 by decide);have hl:smaL.length=26:=by fail "k"
 have h3:(i % 26).toNat < smaL.length:=by lia
 refine⟨smaL[(i % 26).toNat],?_,(ni _ (nn _ (getElem_mem h3))).mp (getElem_mem h3)⟩;have:=a7 (List.getElem?_eq_getElem h3);rw[Int.toNat_of_nonneg h1] at this;exact this
def PcOk:Pc->Prop
 |.step s=>0 < s.length/\s.length<=100/\(∀c∈s,isSg c=true)/\isDot s=false
 |.part h _ t=>h.length<=100/\`t<=100/\(∀c∈h,isSg c=true)/\(∀c∈t,isSg c=true)/\h++t≠[]
 |_=>True
theorem BS (l:Tq)(d:Nat)(h:d≠46):isDot (l++[d])=false:=by
 refine bx.mpr ⟨λz=>?_,λz=>?_⟩
 .have:(l++[d]).getLast?=sUp.getLast?:=by rw[z]
  rw[List.getLast?_append] at this;exact h (by simpa [sUp] using this)
 .have:(l++[d]).getLast?=sStay.getLast?:=by rw[z]
  rw[List.getLast?_append] at this;exact h (by simpa [sStay] using this)
theorem iq {H:Hp}:∀(ss:Tq),IsAll H (ss.map λc=>st [c]) (ss.map λc=>V.str ⟨#[c]⟩)
 |[]=>.nil
 |c::ss=>.cons (.str _) (iq ss)
theorem layL {n:Nat}{ds:List PyData}(h:∀d∈ds,LayAt n d):LayAt (n+1) (.list ds):=by obtain⟨h1,h2⟩:=layAll h;exact⟨by simp only[PyData.canLay0,h1],by simp only[PyData.depth];lia⟩
theorem o5 {ss:Tq}(h:∀c∈ss,isSg c=true):SeqAt.shaped (.list (ss.map λc=>st [c]))=true:=by refine LayAt.shaped (n:=1) (layL (n:=0) λd hd=>?_) `d;obtain⟨c,hc,rfl⟩:=mem_map.mp hd;exact .st λe he=>by rw[mem_singleton.mp he];exact h c hc
theorem BU (l:Tq):(l.filter λc=>!decide (c∈fgS)).isEmpty=l.all isFig:=by
 rw[<- nu];induction l with
 |nil=>rfl
 |cons c l ih=>
  rw[filter_cons,all_cons];by_cases h:c∈fgS
  .rw[decide_eq_true h];simpa using ih
  .rw[decide_eq_false h];rfl
theorem BV (l:Tq):(l.filter λc=>!decide (c∈smaL)).isEmpty=l.all isSma:=by
 rw[ik];induction l with
 |nil=>rfl
 |cons c l ih=>
  rw[filter_cons,all_cons];by_cases h:c∈smaL
  .rw[decide_eq_true h];simpa using ih
  .rw[decide_eq_false h];rfl
theorem iu {H:Hp}:∀(ls:List Tq),IsAll H (ls.map st) (ls.map tV)
 |[]=>.nil
 |l::ls=>.cons (.str _) (iu ls)
theorem o6 {l:Tq}(h:l.all isSma=true):∀c∈l,isSg c=true:=λc hc=>by have:=all_eq_true.mp h c hc;simp only[isSma,decide_eq_true_eq] at this;simp only[isSg,Bool.and_eq_true,decide_eq_true_eq,Bool.not_eq_true',decide_eq_false_iff_not];lia
def PatOk (ps:List Pc):Prop:=(∀c∈ps,PcOk c)/\∀i c,ps[i]?=some c->c.isRest=true->i+1=ps.length
def NmAt (X:Int)(a k:Nat)(n:Tq):Prop:=∃d,n[a]?=some d/\atI smaL ((X+(k:Int)) % 26)=some d
theorem NmAt.app {X:Int}{a k:Nat}{n m:Tq}(h:NmAt X a k n):NmAt X a k (n++m):=by obtain⟨d,h1,h2⟩:=h;exact⟨d,by rw[List.getElem?_append_left (List.getElem?_eq_some_iff.mp h1).1];exact h1,h2⟩
theorem BW:∀i,i < 26->∀j,j < 26->smaL[i]?=smaL[j]?->i=j:=`k
theorem BX {X:Int}{a:Nat}{ns:List Tq}(h:∀(k:Nat) (n:Tq),ns[k]?=some n->NmAt X a k n)(hl:ns.length<=26):ns.Nodup:=by
 rw[List.nodup_iff_pairwise_ne,List.pairwise_iff_getElem];intro i j hi hj mt e;obtain⟨d,h1,h2⟩:=h i _ (List.getElem?_eq_getElem hi);obtain⟨d',h3,h4⟩:=h j _ (List.getElem?_eq_getElem hj);rw[e,h3] at h1;cases h1;have m1:=Int.emod_nonneg (X+(i:Int)) (show (26:Int)≠0 by decide);have m2:=Int.emod_lt_of_pos (X+(i:Int)) (show (0:Int) < 26 by decide);have m3:=Int.emod_nonneg (X+(j:Int)) (show (26:Int)≠0 by decide);have m4:=Int.emod_lt_of_pos (X+(j:Int)) (show (0:Int) < 26 by decide);have dl:∀{z:Int},0<=z->z < 26->atI smaL z=smaL[z.toNat]?:=λ{z} z0 z1=>by
  obtain⟨n,rfl⟩:=Int.eq_ofNat_of_zero_le z0;have hl:smaL.length=26:=by fail "k"
  have hn:n < smaL.length:=by lia
  rw[a7 (List.getElem?_eq_getElem hn),<- List.getElem?_eq_getElem hn];rfl
 rw[dl m1 m2] at h2;rw[dl m3 m4] at h4;have:=BW _ `l _ `l (h2.trans h4.symm);lia
inductive PcT (H:Hp):List Pc->`V->Prop
 |nil:PcT H [] []
 |cons {c:Pc}{p:Addr}{cs:List Pc}{xs:`V}:H p=some (.tup c.vals)->PcT H cs xs->PcT H (c::cs) (.ref p::xs)
theorem PcT.mono {H H':Hp}(s:SameT H H'){cs:List Pc}{xs:`V}(hh:PcT H cs xs):PcT H' cs xs:=by
 induction hh with
 |nil=>exact .nil
 |cons h r ih=>exact .cons (s _ _ h) ih
theorem PcT.all {K:`F}{H:Hp}{cs:List Pc}{xs:`V}(hh:PcT H cs xs):PcAll K H cs xs:=by
 induction hh with
 |nil=>exact .nil
 |cons h r ih=>exact .cons (.of h) ih
theorem PcT.length {H:Hp}{cs:List Pc}{xs:`V}(hh:PcT H cs xs):`x=cs.length:=by
 induction hh with
 |nil=>exact rfl
 |cons _ r ih=>simp[ih]
theorem PcT.append {H:Hp}{ds:List Pc}{ys:`V}(h2:PcT H ds ys){cs:List Pc}{xs:`V}(hh:PcT H cs xs):PcT H (cs++ds) (xs++ys):=by
 induction hh with
 |nil=>exact h2
 |cons h r ih=>exact .cons h ih
theorem PcT.take {H:Hp}:∀{cs:List Pc}{xs:`V} (n:Nat),PcT H cs xs->PcT H (cs.take n) (xs.take n)
 |_,_,0,_=>.nil
 |_,_,_+1,.nil=>.nil
 |_,_,n+1,.cons h r=>.cons h (PcT.take n r)
theorem PcT.get {H:Hp}{cs:List Pc}{xs:`V}(hh:PcT H cs xs){i:Nat}{v:V}(e:xs[i]?=some v):∃c p,cs[i]?=some c/\v=.ref p/\H p=some (.tup c.vals):=by
 induction hh generalizing i with
 |nil=>cases e
 |cons h _ ih=>
  cases i with
  |zero=>cases e;exact⟨_,_,rfl,rfl,h⟩
  |succ i=>exact ih e
noncomputable def pcD (c:Pc):PyData:=.tuple (.str c.kw::match c with
 |.step s=>[st s]
 |.part h n t=>[st h,st n,st t]
 |.num n=>[st n]
 |.word n=>[st n]
 |.gap n=>[st n]
 |.rest n=>[st n])
theorem PcT.isT {H:Hp}:∀{cs:List Pc}{xs:`V},PcT H cs xs->IsTAll H (cs.map pcD) xs
 |_,_,.nil=>.nil
 |c::_,_,.cons h r=>by
  refine .cons ?_ (PcT.isT r);cases c with
  |step s=>exact .tup h (.cons (.str _) (.cons (.str _) .nil))
  |part a b d=>exact .tup h (.cons (.str _) (.cons (.str _) (.cons (.str _) (.cons (.str _) .nil))))
  |num n=>exact .tup h (.cons (.str _) (.cons (.str _) .nil))
  |word n=>exact .tup h (.cons (.str _) (.cons (.str _) .nil))
  |gap n=>exact .tup h (.cons (.str _) (.cons (.str _) .nil))
  |rest n=>exact .tup h (.cons (.str _) (.cons (.str _) .nil))
def PcSg (c:Pc):Prop:=(∀l,c=.step l->∀x∈l,isSg x=true)/\(∀h n t,c=.part h n t->(∀x∈h,isSg x=true)/\∀x∈t,isSg x=true)/\∀x∈c.name,isSg x=true
theorem o7 {c:Pc}(h:PcSg c):LayAt 1 (pcD c):=by
 have dl:∀s:Str,s∈[ofString "step",ofString "part",ofString "number",ofString "word",ofString "gap",ofString "rest"]->LayAt 0 (PyData.str s):=λs hs=>by
  have mt:∀s∈[ofString "step",ofString "part",ofString "number",ofString "word",ofString "gap",ofString "rest"],∀x∈s.cps.toList,isSg x=true:=by fail "k"
  exact LayAt.st (l:=s.cps.toList) (mt s hs)
 have one:∀(k:Str) (l:Tq),k∈[ofString "step",ofString "part",ofString "number",ofString "word",ofString "gap",ofString "rest"]->(∀x∈l,isSg x=true)->LayAt 1 (.tuple [.str k,st l]):=λk l hk hl=>LayAt.tup (n:=0) λd hd=>by
  simp only[mem_cons,not_mem_nil,or_false] at hd;rcases hd with rfl|rfl
  .exact dl k hk
  .exact LayAt.st hl
 cases c with
 |step s=>exact one _ s (by simp[Pc.kw]) (h.1 s rfl)
 |part a b d=>
  obtain⟨h1,h2⟩:=h.2.1 a b d rfl;refine LayAt.tup (n:=0) λx hx=>?_;simp only[mem_cons,not_mem_nil,or_false] at hx;rcases hx with rfl|rfl|rfl|rfl
  .exact dl _ (by simp[Pc.kw])
  .exact LayAt.st h1
  .exact LayAt.st h.2.2
  .exact LayAt.st h2
 |num n=>exact one _ n (by simp[Pc.kw]) h.2.2
 |word n=>exact one _ n (by simp[Pc.kw]) h.2.2
 |gap n=>exact one _ n (by simp[Pc.kw]) h.2.2
 |rest n=>exact one _ n (by simp[Pc.kw]) h.2.2
theorem BY {cs:List Pc}(h:∀c∈cs,PcSg c):LayAt 2 (.list (cs.map pcD)):=layL λd hd=>by obtain⟨c,hc,rfl⟩:=mem_map.mp hd;exact o7 (h c hc)
end Wm
namespace L2
open PySem PySem.Spec PyProof.Rows
section
variable {p:Addr}{fv:St}{tt:TT}{te:TE}{Q:VK}{H H1:Hp}{K:`F}
theorem BZ {tl:TE}{fr:Tq}{Z:St}:(tComp2 K (iList K tl) fr tt te Z H Q)=(tl Z H λx H1=>∃a,x=.ref a/\(∃xs,SqL K H1 a xs)/\∀p,H1 p=none->CompI2 K (Itl K a) p (frV Z fr) tt te Q H1):=rfl
theorem C0 {a:Addr}{xs:`V}(f:Nat->V×V)(t:Nat->Bool)(g:Nat->V)(hxs:SqL K H1 a xs)(hlen:`x<=sizeLine)(hp:H1 p=none)
  (hit:∀(i:Nat) (x:V) (H':Hp),xs[i]?=some x->Same H1 H'->∃b,x=.ref b/\SqT K H' b [(f i).1,(f i).2])
  (ht:∀(i:Nat),i < `x->∀(H':Hp) (R:Bool->Hp->Prop),Same H1 H'->(∀H'',Same H' H''->R (t i) H'')->tt (some (f i).1::some (f i).2::fv) H' R)
  (he:∀(i:Nat),i < `x->t i=true->∀(H':Hp) (T:VK),Same H1 H'->(∀H'',Same H' H''->T (g i) H'')->te (some (f i).1::some (f i).2::fv) H' T)
  (hQ:∀H',Same H1 H'->H' p=some (.lst (((List.range `x).filter t).map g))->Q (.ref p) H'):CompI2 K (Itl K a) p fv tt te Q H1:=by
 refine⟨λi m ys H2=>m=`x - i/\i<=`x/\ys=((List.range i).filter t).map g/\H2 p=some (.lst ys)/\Same H1 H2,⟨`x,`s,Nat.zero_le _,`s,aB,λb o e=>by rw[aD (aG e hp)];exact e⟩,?_⟩;rintro i m ys H2 ⟨rfl,hi,rfl,mt,sm⟩;refine⟨mt,?_⟩;have q:=sm.seq hxs;by_cases dl:i < `x
 .refine .inr ⟨⟨xs,xs[i],q,by simp[dl]⟩,?_,λx H3 y=>?_⟩
  .rw[length_map];have:=length_filter_le t (List.range i);rw[length_range] at this;lia
  .obtain⟨rfl,y⟩:=y;have hc:=y xs q;obtain⟨b,rfl,hb⟩:=hit i x H3 hc sm;refine⟨b,_,_,rfl,hb,?_⟩;refine ht i dl _ _ sm λH4 s4=>?_;by_cases hf:t i=true
   .rw[if_pos hf];refine he i dl hf _ _ (sm.trans s4) λH5 s5=>⟨(s4.trans s5) _ _ mt,`x - (i+1),`l,rfl,dl,?_,aB,λb o e=>?_⟩
    .rw[range_succ,filter_append,map_append];simp[hf]
    .rw[aD (aG e hp)];exact (s4.trans s5) _ _ (sm _ _ e)
   .rw[if_neg hf];refine⟨`x - (i+1),`l,rfl,dl,?_,s4 _ _ mt,sm.trans s4⟩;rw[range_succ,filter_append,map_append];simp[hf]
 .have e:i=`x:=by lia
  subst e;exact .inl ⟨⟨xs,q,Nat.le_refl _⟩,hQ H2 sm mt⟩
theorem C1 {a:Addr}{xs:`V}(t:Nat->Bool)(g:Nat->V)(hxs:SqT K H1 a xs)(hlen:`x<=sizeLine)(hp:H1 p=none)
  (ht:∀(i:Nat) (x:V),xs[i]?=some x->∀(H':Hp) (R:Bool->Hp->Prop),Same H1 H'->(∀H'',Same H' H''->R (t i) H'')->tt (some x::fv) H' R)
  (he:∀(i:Nat) (x:V),xs[i]?=some x->t i=true->∀(H':Hp) (T:VK),Same H1 H'->(∀H'',Same H' H''->T (g i) H'')->te (some x::fv) H' T)
  (hQ:∀H',Same H1 H'->H' p=some (.lst (((List.range `x).filter t).map g))->Q (.ref p) H'):CompI (Itt K a) p fv tt te Q H1:=by
 refine⟨λi m ys H2=>m=`x - i/\i<=`x/\ys=((List.range i).filter t).map g/\H2 p=some (.lst ys)/\Same H1 H2,⟨`x,`s,Nat.zero_le _,`s,aB,λb o e=>by rw[aD (aG e hp)];exact e⟩,?_⟩;rintro i m ys H2 ⟨rfl,hi,rfl,dl,sm⟩;refine⟨dl,?_⟩;have q:=sm.tup hxs;by_cases mt:i < `x
 .refine .inr ⟨⟨xs,xs[i],q,by simp[mt]⟩,?_,λx H3 y=>?_⟩
  .rw[length_map];have:=length_filter_le t (List.range i);rw[length_range] at this;lia
  .obtain⟨rfl,y⟩:=y;have hc:=y xs q;refine ht i x hc _ _ sm λH4 s4=>?_;by_cases hf:t i=true
   .rw[if_pos hf];refine he i x hc hf _ _ (sm.trans s4) λH5 s5=>⟨(s4.trans s5) _ _ dl,`x - (i+1),`l,rfl,mt,?_,aB,λb o e=>?_⟩
    .rw[range_succ,filter_append,map_append];simp[hf]
    .rw[aD (aG e hp)];exact (s4.trans s5) _ _ (sm _ _ e)
   .rw[if_neg hf];refine⟨`x - (i+1),`l,rfl,mt,?_,s4 _ _ dl,sm.trans s4⟩;rw[range_succ,filter_append,map_append];simp[hf]
 .have e:i=`x:=by lia
  subst e;exact .inl ⟨⟨xs,q,Nat.le_refl _⟩,hQ H2 sm dl⟩
end
end L2
namespace Wm
open PySem L2
theorem o8 {α β:Type}(f:α->Bool)(g:α->β)(d:β):∀(l:List α),((List.range `L).filter λi=>(l[i]?.map f).getD false).map (λi=>(l[i]?.map g).getD d)=(l.filter f).map g
 |[]=>rfl
 |a::l=>by
  have ih:=o8 f g d l;have e2:((((List.range `L).map Nat.succ).filter λi=>(((a::l)[i]?).map f).getD false).map λi=>(((a::l)[i]?).map g).getD d)=(l.filter f).map g:=by rw[filter_map,map_map,<- ih];rfl
  rw[length_cons,List.range_succ_eq_map,filter_cons];by_cases hf:f a=true
  .rw[if_pos (by simp[hf]),map_cons,e2,filter_cons,if_pos hf,map_cons];rfl
  .rw[if_neg (by simp[hf]),e2,filter_cons,if_neg hf]
noncomputable def canD:PyData->Bool
 |.str s=>s.cps.toList.all isSg && decide (0 < s.length) && !isDot s.cps.toList
 |_=>false
noncomputable def txD:PyData->Tq
 |.str s=>s.cps.toList
 |_=>[]
noncomputable def isValD (c:Pc)(d:PyData):Bool:=match c with
 |.rest _=>match d with
  |.list ds=>decide (0 < ds.length) && ds.all canD
  |_=>false
 |.num _=>match d with
  |.int i=>decide (0<=i/\i < 10 ^ 60)
  |_=>false
 |.word _=>match d with
  |.str s=>wordB s.cps.toList
  |_=>false
 |.step _=>false
 |.part h _ t=>ftx d && !isDot (h++txD d++t)
 |.gap _=>ftx d && !isDot (txD d)
noncomputable def stpsD (c:Pc)(d:PyData):List Tq:=match c with
 |.rest _=>match d with
  |.list ds=>ds.map txD
  |_=>[]
 |.num _=>match d with
  |.int i=>[dg i]
  |_=>[]
 |.step s=>[s]
 |c=>[c.head++txD d++c.tail]
inductive VlsV (H:Hp):List (Tq×PyData)->`V->Prop
 |nil:VlsV H [] []
 |cons {n:Tq}{d:PyData}{p:Addr}{v:V}{vs:List (Tq×PyData)}{xs:`V}:H p=some (.tup [tV n,v])->Is H d v->VlsV H vs xs->VlsV H ((n,d)::vs) (.ref p::xs)
theorem VlsV.append {H:Hp}{ws:List (Tq×PyData)}{ys:`V}(h2:VlsV H ws ys){vs:List (Tq×PyData)}{xs:`V}(hh:VlsV H vs xs):VlsV H (vs++ws) (xs++ys):=by
 induction hh with
 |nil=>exact h2
 |cons h a r ih=>exact .cons h a ih
noncomputable def gapsM (cs:List Pc):List Tq:=(cs.filter λc=>!c.isStep).map Pc.name
noncomputable def named (vs:List (Tq×PyData))(n:Tq):List PyData:=(vs.filter λp=>decide (p.1=n)).map (·.2)
noncomputable def fillS (c:Pc)(vs:List (Tq×PyData)):Except Tq (List Tq):=match c with
 |.step s=>.ok [s]
 |c=>match named vs c.name with
  |[d]=>if isValD c d=true then .ok (stpsD c d) else .error c.name
  |_=>.error c.name
noncomputable def prAt (H:Hp)(ys:`V)(i:Nat):V×V:=match ys[i]? with
 |some (.ref p)=>match H p with
  |some (.tup [a,b])=>(a,b)
  |_=>(.non,.non)
 |_=>(.non,.non)
theorem o9 {H:Hp}{ys:`V}{i:Nat}{p:Addr}{a b:V}(h:ys[i]?=some (.ref p))(hp:H p=some (.tup [a,b])):prAt H ys i=(a,b):=by unfold prAt;rw[h];dsimp only;rw[hp]
end Wm
namespace L2
open PySem
end L2
namespace Wm
open PySem L2
theorem C2 (cs:List Pc):(gapsM cs).length<=cs.length:=by unfold gapsM;rw[length_map];exact length_filter_le _ _
theorem C3:∀(k:Nat) (ds:Tq),ds.length=k->ds≠[]->(∀c∈ds,48<=c/\c<=57)->(ds=[48]\/ds.head?≠some 48)->(Nat.toDigits 10 (valD ds)).map Char.toNat=ds:=by
 intro k;induction k with
 |zero=>intro ds hl hn;exact absurd (length_eq_zero_iff.mp hl) hn
 |succ k ih=>
  intro ds hl hn hd h0;have mt:∀n,n < 10->([Nat.digitChar n].map Char.toNat)=[48+n]:=by fail "k"
  obtain⟨as,c,rfl⟩:∃as c,ds=as++[c]:=⟨ds.dropLast,ds.getLast hn,(dropLast_concat_getLast hn).symm⟩;have hc:=hd c (mem_append_right _ (mem_singleton.mpr rfl));rw[eZ];cases has:as with
  |nil=>
   have ev:valD ([]:Tq)=0:=rfl;rw[ev,Nat.zero_mul,Nat.zero_add,Nat.toDigits_of_lt_base `l,mt _ `l];show [48+(c - 48)]=[c]
   congr 1;lia
  |cons a as'=>
   rw[<- has];have BT:as≠[]:=by rw[has];simp
   have dl:a≠48:=λz=>by
    rcases h0 with h0|h0
    .have:=congrArg List.length h0;rw[length_append,has] at this;simp at this
    .refine h0 ?_;rw[has,z];rfl
   have ha:=hd a (by rw[has];simp);have hp:=Bk has `l;have hi:=ih as (by rw[length_append,length_singleton] at hl;lia) BT (λx hx=>hd x (mem_append_left _ hx)) (.inr (by rw[has];intro z;exact dl (Option.some.inj z)));rw[Nat.toDigits_of_base_le `d `l,map_append];rw[show (valD as * 10+(c - 48)) / 10=valD as by lia,show (valD as * 10+(c - 48)) % 10=c - 48 by lia,hi,mt _ `l]
   congr 1
   show [48+(c - 48)]=[c]
   congr 1;lia
theorem C4:∀(k:Nat) (ds:Tq),ds.length=k->(∀c∈ds,48<=c/\c<=57)->valD ds < 10 ^ k:=by
 intro k;induction k with
 |zero=>intro ds hl _;rw[length_eq_zero_iff.mp hl];decide
 |succ k ih=>
  intro ds hl hd;have hn:ds≠[]:=λz=>by rw[z] at hl;cases hl
  obtain⟨as,c,rfl⟩:∃as c,ds=as++[c]:=⟨ds.dropLast,ds.getLast hn,(dropLast_concat_getLast hn).symm⟩;have hc:=hd c (mem_append_right _ (mem_singleton.mpr rfl));have:=ih as (by rw[length_append,length_singleton] at hl;lia) (λx hx=>hd x (mem_append_left _ hx));rw[eZ,Nat.pow_succ];lia
theorem C5 {l:Tq}(h:l.all isFig=true)(h0:1<=`L)(h1:`L<=60):intOf l=(valD l:Int):=by
 have e:=intText_digits (x:=`A) (λc hc=>by have:=all_eq_true.mp h c (by simpa using hc);simpa [isFig] using this) (by intro z;simp at z;rw[z] at h0;simp at h0) (by show `L<=4300;lia)
 unfold intOf;rw[e];rfl
theorem C6 {l:Tq}(h:l.all isFig=true):∀c∈l,48<=c/\c<=57:=λc hc=>by have:=all_eq_true.mp h c hc;simpa [isFig] using this
theorem C7 {s:Tq}(h:numB s=true):dg (intOf s)=s/\0<=intOf s/\intOf s < 10 ^ 60:=by
 unfold numB at h;simp only[Bool.and_eq_true,decide_eq_true_eq,Bool.or_eq_true,Bool.not_eq_true',decide_eq_false_iff_not] at h;obtain⟨⟨⟨h1,h2⟩,h3⟩,h4⟩:=h;have hf:=C6 h3;rw[C5 h3 h1 h2];have hn:s≠[]:=length_pos_iff.mp h1;refine⟨?_,`l,?_⟩
 .unfold dg;rw[PySem.W.KIN.signs_num];exact C3 _ s rfl hn hf h4
 .have:=C4 _ s rfl hf;have dl:10 ^ s.length<=10 ^ 60:=Nat.pow_le_pow_right `d h2;have:valD s < 10 ^ 60:=Nat.lt_of_lt_of_le this dl
  exact_mod_cast this
theorem oA:∀(cs:List Pc) (ss:List Tq),(boundM cs ss).map (·.1)=gapsM cs
 |[],_=>rfl
 |c::cs,ss=>by have ih:=oA cs (ss.drop 1);show ((if c.isStep then [] else [(c.name,bvM c ss)])++boundM cs (ss.drop 1)).map (·.1)=_;rw[map_append,ih];unfold gapsM;rw[filter_cons];cases c.isStep <;> rfl
theorem iw {ns:List Tq}(hn:ns.Nodup):∀{cs:List Pc} (k:Nat),(∀(i:Nat) (c:Pc),cs[i]?=some c->c.isStep=false->ns[k+i]?=some c.name)->(gapsM cs).Nodup/\∀n∈gapsM cs,∃j,k<=j/\ns[j]?=some n
 |[],_,_=>⟨nodup_nil,λn h=>by cases h⟩
 |c::cs,k,h=>by
  obtain⟨i1,i2⟩:=iw hn (cs:=cs) (k+1) λi d hd hs=>by have:=h (i+1) d (by simpa using hd) hs;rw[<- this];congr 1;lia
  have e:gapsM (c::cs)=(if c.isStep then [] else [c.name])++gapsM cs:=by unfold gapsM;rw[filter_cons];cases c.isStep <;> rfl
  rw[e];cases hs:c.isStep with
  |true=>exact⟨i1,λn dl=>by obtain⟨j,h1,h2⟩:=i2 n dl;exact⟨j,`l,h2⟩⟩
  |false=>
   have h0:ns[k]?=some c.name:=h 0 c rfl hs;refine⟨?_,λn dl=>?_⟩
   .show (c.name::gapsM cs).Nodup;rw[nodup_cons];refine⟨λz=>?_,i1⟩;obtain⟨j,h1,h2⟩:=i2 _ z;obtain⟨a1,a2⟩:=List.getElem?_eq_some_iff.mp h0;obtain⟨b1,b2⟩:=List.getElem?_eq_some_iff.mp h2;rw[List.nodup_iff_pairwise_ne,List.pairwise_iff_getElem] at hn;exact hn k j a1 b1 `l (a2.trans b2.symm)
   .rcases mem_cons.mp (show n∈c.name::gapsM cs from dl) with rfl|z
    .exact⟨k,Nat.le_refl _,h0⟩
    .obtain⟨j,h1,h2⟩:=i2 n z;exact⟨j,`l,h2⟩
theorem C8 {cs:List Pc}{cl r e:Bool}{ss:List Tq}(h:fitsP cs cl r ss e=true):r=true/\e=cl/\((∀c∈cs,c.isRest=false)->ss.length=cs.length)/\cs.length<=ss.length/\∀s∈ss,isDot s=false:=by
 unfold fitsP at h;cases hs:spreadM cs ss.length with
 |none=>rw[hs] at h;cases h
 |some ds=>
  rw[hs] at h;have h:(r && decide (e=cl) && (List.zipWith fitsM ds ss).all id)=true:=h;rw[Bool.and_eq_true,Bool.and_eq_true,decide_eq_true_eq] at h;have hdl:=o0 hs;refine⟨h.1.1,h.1.2,λhn=>?_,(ny hs).1,λs dl=>?_⟩
  .unfold spreadM at hs;by_cases hr:hasRest cs=true/\cs.length<=ss.length
   .exfalso;have hh:=hr.1;unfold hasRest at hh;cases hg:cs.getLast? with
    |none=>rw[hg] at hh;cases hh
    |some c=>rw[hg] at hh;have hc:=hn c (mem_of_getLast? hg);have hh:c.isRest=true:=hh;rw[hc] at hh;cases hh
   .rw[if_neg hr] at hs;by_cases hl:ss.length=cs.length
    .exact hl
    .rw[if_neg hl] at hs;cases hs
  .obtain⟨i,hi⟩:=mem_iff_getElem?.mp dl;have hil:=(List.getElem?_eq_some_iff.mp hi).1;have hd:ds[i]?=some ds[i]:=List.getElem?_eq_getElem `l;have hz:fitsM ds[i] s∈List.zipWith fitsM ds ss:=by
    rw[mem_iff_getElem?];exact⟨i,by rw[List.getElem?_zipWith,hd,hi]⟩
   have:=all_eq_true.mp h.2 _ hz;have this:fitsM ds[i] s=true:=this;unfold fitsM at this;rw[Bool.and_eq_true,Bool.not_eq_true'] at this;exact this.1
theorem C9 {c:Nat}(h:48<=c/\c<=57):isSg c=true:=by simp only[isSg,Bool.and_eq_true,decide_eq_true_eq,Bool.not_eq_true',decide_eq_false_iff_not];lia
theorem Ca {k:Nat}:∀{n:Nat},0 < k->n < 10 ^ k->(Nat.toDigits 10 n).length<=k:=by
 induction k with
 |zero=>intro n h;cases h
 |succ k ih=>
  intro n _ h;by_cases hn:n < 10
  .rw[Nat.toDigits_of_lt_base hn];simp
  .rw[Nat.toDigits_of_base_le `d `l,length_append,length_singleton];cases k with
   |zero=>lia
   |succ k=>have:=ih (n:=n / 10) `l (by rw[Nat.pow_succ] at h;lia);lia
theorem oB {n:Nat}(h:n < 10 ^ 60):(Nat.toDigits 10 n).length<=60:=Ca `d h
theorem Cb {h t s:Tq}:∀c∈amid h t s,c∈s:=λc hc=>mem_of_mem_drop (mem_of_mem_take hc)
theorem Cc {h t s:Tq}:(amid h t s).length<=s.length:=by unfold amid;rw[length_take,length_drop];lia
theorem oC (xs:`V)(i:Nat):cutV xs none (some (i:Int))=xs.take i:=by
 unfold cutV;rw[HT.sIx_none,HT.sIx_nat,drop_zero,Nat.sub_zero];by_cases h:i<=`x
 .rw[Nat.min_eq_left h]
 .rw[Nat.min_eq_right `l,take_length,take_of_length_le `l]
noncomputable def trS:Tq:=[97,98,48,49]
noncomputable def trialsM (h t:Tq):List Tq:=trS.map λc=>h++[c]++t
def PcTx (c:Pc):Prop:=c.head.length<=40000/\c.tail.length<=40000/\∀w,c=.step w->w.length<=40000
noncomputable def fitT (c:Pc):List Tq:=(match c with|.step w=>[w]|c=>trialsM c.head c.tail).filter (fitsM c)
noncomputable def stepBey (c d:Pc):Option Tq:=(fitT c).find? λs=>!fitsM d s
theorem oE {c:Pc}(h:PcTx c):∀s∈fitT c,s.length<=90000:=λs hs=>by
 unfold fitT at hs;have hs:=(mem_filter.mp hs).1;have gen:∀a b:Tq,a.length<=40000->b.length<=40000->s∈trialsM a b->s.length<=90000:=λa b ha hb h=>by obtain⟨x,_,rfl⟩:=mem_map.mp h;simp only[length_append,length_singleton];lia
 cases c with
 |step w=>have:=h.2.2 w rfl;rw[mem_singleton.mp hs];lia
 |part a b d=>exact gen _ _ h.1 h.2.1 hs
 |num n=>exact gen _ _ h.1 h.2.1 hs
 |word n=>exact gen _ _ h.1 h.2.1 hs
 |gap n=>exact gen _ _ h.1 h.2.1 hs
 |rest n=>exact gen _ _ h.1 h.2.1 hs
theorem oF {α:Type}{p:α->Bool}:∀{l:List α}{i:Nat}{s:α},l[i]?=some s->(∀z∈l.take i,p z=true)->(!p s)=true->l.find? (λz=>!p z)=some s
 |[],_,_,h,_,_=>by cases h
 |a::l,0,s,h,_,hs=>by cases h;exact List.find?_cons_of_pos hs
 |a::l,i+1,s,h,hp,hs=>by have ha:=hp a `s;rw[List.find?_cons_of_neg (by rw[ha];decide)];exact oF (i:=i) (by simpa using h) (λz hz=>hp z (by simp[hz])) hs
theorem oG {c:Pc}{s:Tq}(h:fitsM c s=true):isDot s=false:=by unfold fitsM at h;rw[Bool.and_eq_true] at h;simpa using h.1
theorem oH {c:Pc}{s:Tq}(h:c.isRest=true)(hs:isDot s=false):fitsM c s=true:=by
 cases c <;> first|cases h|skip
 show (!isDot s && true)=true;rw[hs];rfl
theorem oI {c:Pc}{s:Tq}(oc:PcOk c)(h:s∈fitT c):fitsM c s=true/\s≠[]/\s.length<=300/\∀x∈s,isSg x=true:=by
 obtain⟨h1,h2⟩:=mem_filter.mp h;have dl:∀a b:Tq,a.length<=100->b.length<=100->(∀x∈a,isSg x=true)->(∀x∈b,isSg x=true)->s∈trialsM a b->s≠[]/\s.length<=300/\∀x∈s,isSg x=true:=λa b ha hb sa sb h=>by
  obtain⟨x,hx,rfl⟩:=mem_map.mp h;refine⟨`s,?_,λy hy=>?_⟩
  .simp only[length_append,length_singleton];lia
  .have mt:∀z∈trS,isSg z=true:=by decide
   simp only[mem_append,mem_singleton] at hy;rcases hy with (hy|rfl)|hy
   .exact sa y hy
   .exact mt y hx
   .exact sb y hy
 have no:∀x∈([]:Tq),isSg x=true:=λx hx=>by cases hx
 refine⟨h2,?_⟩;cases c with
 |step w=>rw[mem_singleton.mp h1];exact⟨length_pos_iff.mp oc.1,by have:=oc.2.1;lia,oc.2.2.1⟩
 |part a n b=>exact dl a b oc.1 oc.2.1 oc.2.2.1 oc.2.2.2.1 h1
 |num n=>exact dl [] [] `d `d no no h1
 |word n=>exact dl [] [] `d `d no no h1
 |gap n=>exact dl [] [] `d `d no no h1
 |rest n=>exact dl [] [] `d `d no no h1
theorem cK {ds ts:List Pc}{n:Nat}(h:spreadM ds n=some ts):ts.length=n/\∀i,i < n->(i < ds.length/\ts[i]?=ds[i]?)\/(ds.length<=i/\hasRest ds=true/\∃c,ts[i]?=some c/\c.isRest=true/\c∈ds):=by
 unfold spreadM at h;by_cases hr:hasRest ds=true/\ds.length<=n
 .rw[if_pos hr] at h;cases h;have dl:ds≠[]:=λe=>by subst e;exact absurd hr.1 `d
  obtain⟨c,hc⟩:∃c,ds.getLast?=some c:=⟨_,List.getLast?_eq_some_getLast dl⟩;have Cl:c.isRest=true:=by have:=hr.1;unfold hasRest at this;rw[hc] at this;exact this
  have hd:ds.drop (ds.length - 1)=[c]:=by rw[List.getLast?_eq_getElem?] at hc;have hl:=length_pos_iff.mpr dl;obtain⟨h1,h2⟩:=List.getElem?_eq_some_iff.mp hc;rw[drop_eq_getElem_cons h1,h2,drop_eq_nil_of_le `l]
  rw[hd];have BT:∀k:Nat,(List.replicate k [c]).flatten=List.replicate k c:=λk=>by
   induction k with
   |zero=>rfl
   |succ k ih=>rw[replicate_succ,flatten_cons,ih];rfl
  rw[BT];refine⟨by rw[length_append,length_replicate];lia,λi hi=>?_⟩;by_cases mt:i < ds.length
  .exact .inl ⟨mt,List.getElem?_append_left mt⟩
  .refine .inr ⟨`l,hr.1,c,?_,Cl,mem_of_getLast? hc⟩;rw[List.getElem?_append_right `l,List.getElem?_replicate,if_pos `l]
 .rw[if_neg hr] at h;by_cases e:n=ds.length
  .rw[if_pos e] at h;cases h;exact⟨e.symm,λi hi=>.inl ⟨`l,rfl⟩⟩
  .rw[if_neg e] at h;cases h
theorem Cd {ds:List Pc}{n:Nat}(h:(hasRest ds=true/\ds.length<=n)\/n=ds.length):∃ts,spreadM ds n=some ts:=by
 unfold spreadM;by_cases hr:hasRest ds=true/\ds.length<=n
 .rw[if_pos hr];exact⟨_,rfl⟩
 .rw[if_neg hr];rcases h with h|h
  .exact absurd h hr
  .rw[if_pos h];exact⟨_,rfl⟩
theorem oJ:∀{ms:List Pc}{ss:List Tq},(List.zipWith fitsM ms ss).all id=true↔∀(i:Nat) (c:Pc) (s:Tq),ms[i]?=some c->ss[i]?=some s->fitsM c s=true
 |[],ss=>⟨λ_ i c s h=>by simp at h,λ_=>rfl⟩
 |c::ms,[]=>⟨λ_ i c s _ h=>by simp at h,λ_=>rfl⟩
 |c::ms,s::ss=>by
  rw[List.zipWith_cons_cons,all_cons,Bool.and_eq_true,oJ];constructor
  .rintro⟨h1,h2⟩ i c' s' hc hs;cases i with
   |zero=>cases hc;cases hs;exact h1
   |succ i=>exact h2 i c' s' hc hs
  .intro h;exact⟨h 0 c s rfl rfl,λi c' s' hc hs=>h (i+1) c' s' hc hs⟩
theorem f6 {cs:List Pc}{cl r e:Bool}{ss:List Tq}:fitsP cs cl r ss e=true↔∃ms,spreadM cs ss.length=some ms/\r=true/\e=cl/\∀(i:Nat) (c:Pc) (s:Tq),ms[i]?=some c->ss[i]?=some s->fitsM c s=true:=by
 unfold fitsP;cases h:spreadM cs ss.length with
 |none=>exact⟨λh=>(by cases h),λ⟨_,h,_⟩=>(by cases h)⟩
 |some ms=>show (r && decide (e=cl) && _)=true↔_;rw[Bool.and_eq_true,Bool.and_eq_true,decide_eq_true_eq,oJ];exact⟨λ⟨⟨a,b⟩,c⟩=>⟨ms,rfl,a,b,c⟩,λ⟨dl,e',a,b,c⟩=>by cases e';exact⟨⟨a,b⟩,c⟩⟩
theorem f7 {cs ms:List Pc}{n:Nat}(ok:∀c∈cs,PcOk c)(h:spreadM cs n=some ms):∀c∈ms,PcOk c:=λc hc=>by
 obtain⟨i,hi⟩:=mem_iff_getElem?.mp hc;obtain⟨h1,h2⟩:=cK h;rcases h2 i (by have:=(List.getElem?_eq_some_iff.mp hi).1;lia) with⟨_,e⟩|⟨_,_,c',e,_,hm⟩
 .exact ok c (mem_of_getElem? (e.symm.trans hi))
 .rw[hi] at e;cases e;exact ok _ hm
end Wm
namespace L2
open PySem
section
variable {p:Addr}{fv:St}{tt:TT}{te:TE}{Q:VK}{H1:Hp}
theorem Ce {n:Nat}(f:Nat->Bool)(g:Nat->V)(hlen:n<=sizeLine)(hp:H1 p=none)
  (ht:∀i,i < n->∀(H':Hp) (R:Bool->Hp->Prop),Same H1 H'->(∀H'',Same H' H''->R (f i) H'')->tt (some (.int (0+(i:Int)))::fv) H' R)
  (he:∀i,i < n->f i=true->∀(H':Hp) (T:VK),Same H1 H'->(∀H'',Same H' H''->T (g i) H'')->te (some (.int (0+(i:Int)))::fv) H' T)
  (hQ:∀H',Same H1 H'->H' p=some (.lst (((List.range n).filter f).map g))->Q (.ref p) H'):CompI (Itr 0 n) p fv tt te Q H1:=by
 refine⟨λi m ys H2=>m=n - i/\i<=n/\ys=((List.range i).filter f).map g/\H2 p=some (.lst ys)/\Same H1 H2,⟨n,`s,Nat.zero_le _,`s,aB,λb o e=>by rw[aD (aG e hp)];exact e⟩,?_⟩;rintro i m ys H2 ⟨rfl,hi,rfl,mt,sm⟩;refine⟨mt,?_⟩;by_cases dl:i < n
 .refine .inr ⟨dl,?_,λx H3 y=>?_⟩
  .rw[length_map];have:=length_filter_le f (List.range i);rw[length_range] at this;lia
  .obtain⟨rfl,rfl⟩:=y;refine ht i dl _ _ sm λH4 s4=>?_;by_cases hf:f i=true
   .rw[if_pos hf];refine he i dl hf _ _ (sm.trans s4) λH5 s5=>⟨(s4.trans s5) _ _ mt,n - (i+1),`l,rfl,dl,?_,aB,λb o e=>?_⟩
    .rw[range_succ,filter_append,map_append];simp[hf]
    .rw[aD (aG e hp)];exact (s4.trans s5) _ _ (sm _ _ e)
   .rw[if_neg hf];refine⟨n - (i+1),`l,rfl,dl,?_,s4 _ _ mt,sm.trans s4⟩;rw[range_succ,filter_append,map_append];simp[hf]
 .have e:i=n:=by lia
  subst e;exact .inl ⟨Nat.le_refl _,hQ H2 sm mt⟩
end
end L2
namespace Wm
open PySem L2
theorem f8 {H:Hp}:∀l:List Int,IsAll H (l.map PyData.int) (l.map V.int)
 |[]=>.nil
 |c::ss=>.cons (.int _) (f8 ss)
theorem Cf (l:List Int):SeqAt.shaped (.list (l.map PyData.int))=true:=by refine LayAt.shaped (n:=1) (layL (n:=0) λd hd=>?_) `d;obtain⟨c,hc,rfl⟩:=mem_map.mp hd;exact⟨rfl,Nat.le_refl _⟩
theorem Cg {cs:List Pc}{c:Pc}{n:Nat}(hc:cs.getLast?=some c)(hr:c.isRest=true)(hn:cs.length<=n):spreadM cs n=some (cs++List.replicate (n - cs.length) c):=by
 have h:hasRest cs=true:=by unfold hasRest;rw[hc];exact hr
 unfold spreadM;rw[if_pos ⟨h,hn⟩];have hd:cs.drop (cs.length - 1)=[c]:=by rw[List.getLast?_eq_getElem?] at hc;obtain⟨h1,h2⟩:=List.getElem?_eq_some_iff.mp hc;rw[drop_eq_getElem_cons h1,h2,drop_eq_nil_of_le `l]
 rw[hd];have dl:∀k:Nat,(List.replicate k [c]).flatten=List.replicate k c:=λk=>by
  induction k with
  |zero=>rfl
  |succ k ih=>rw[replicate_succ,flatten_cons,ih];rfl
 rw[dl]
theorem oK {cs:List Pc}{n:Nat}(h:hasRest cs=false\/n < cs.length):spreadM cs n=if cs.length=n then some cs else none:=by
 unfold spreadM;rw[if_neg (λz=>by rcases h with h|h;rw[h] at z;exact absurd z.1 `d;lia)];by_cases e:n=cs.length
 .rw[if_pos e,if_pos e.symm]
 .rw[if_neg e,if_neg (λz=>e z.symm)]
theorem range_all (Zb:List Bool):((List.range Zb.length).filter λi=>!(Zb[i]?.getD true)).isEmpty=Zb.all id:=by
 rw[Bool.eq_iff_iff,List.isEmpty_iff,List.filter_eq_nil_iff,all_eq_true];constructor
 .intro h b hb;obtain⟨i,hi⟩:=mem_iff_getElem?.mp hb;have:=h i (mem_range.mpr (List.getElem?_eq_some_iff.mp hi).1);rw[hi] at this;simpa using this
 .intro h i hi;have hi:=mem_range.mp hi;have:=h Zb[i] (getElem_mem hi);rw[List.getElem?_eq_getElem hi];simpa using this
def PtAt (H:Hp)(cs:List Pc)(e:Bool)(p:Addr):Prop:=∃(q:Addr) (xs:`V),H p=some (.tup [.ref q,.bl e])/\H q=some (.tup xs)/\PcT H cs xs
theorem PtAt.mono {H H':Hp}{cs:List Pc}{e:Bool}{p:Addr}(s:SameT H H')(h:PtAt H cs e p):PtAt H' cs e p:=by obtain⟨q,xs,h1,h2,h3⟩:=h;exact⟨q,xs,s _ _ h1,s _ _ h2,h3.mono s⟩
def PcsOk (cs:List Pc):Prop:=cs.length<=90/\∀c∈cs,PcOk c/\PcSg c
theorem f9 {c:Pc}(o:PcOk c)(hn:∀x∈c.name,isSg x=true):PcSg c:=
 ⟨λl h=>by subst h;exact o.2.2.1,λh n t e=>by subst e;exact⟨o.2.2.1,o.2.2.2.1⟩,hn⟩
theorem oM {H H':Hp}{l:Addr}{ys:`V}(s:Same H H')(h:H l=none):Same H (upd H' l (.lst ys)):=λb o hb=>by rw[aD (λw=>by subst w;rw[h] at hb;cases hb)];exact s _ _ hb
theorem dz {H:Hp}{l:Addr}{ys zs:`V}(h:H l=some (.lst zs)):SameT H (upd H l (.lst ys)):=λb o hb=>by rw[aD (λw=>by subst w;rw[h] at hb;cases hb)];exact hb
noncomputable def alikeM:Pc->Pc->Bool
 |.step v,.step w=>decide (v=w)
 |.part h _ t,.part h' _ t'=>decide (h=h') && decide (t=t')
 |.num _,.num _=>true
 |.word _,.word _=>true
 |.gap _,.gap _=>true
 |.rest _,.rest _=>true
 |_,_=>false
structure Wid (c d:Pc):Prop where
 ok:PcOk d
 nr:d.isRest=false
 fits:∀s,fitsM c s=true->fitsM d s=true
 grown:alikeM c d=true\/stepBey d c≠none
noncomputable def restM (cs:List Pc):Nat:=if hasRest cs=true then cs.length - 1 else cs.length
structure WidAll (cs ds:List Pc):Prop where
 len:ds.length=restM cs
 wid:∀(i:Nat) (c d:Pc),cs[i]?=some c->ds[i]?=some d->Wid c d
end Wm
namespace L2
open PySem PySem.Spec PySem.W PySem.Calls PyProof.Rows
section
variable {prog:Program}{w:World}{A:Around}{R:Result->Shared->Prop}{I S:Addr}{fp wr:List Addr}{P:Nat->Value->Prop}{St:Nat->Heap->Prop}{n:Nat}
noncomputable abbrev bestO (xs:Array Value)(c:Nat):Obj:={ cls:=.type "list",dict:=none,data:=.seq xs c,slots:=#[]}
theorem Ch (W:Walks prog w A.in1 I fp wr n P St)(hSf:S∉fp){k v x:Value}{c:Nat}{s:Shared}(hst:St n s.heap)(hS:s.heap.get? S=some (bestO #[v,x] c))
  (hR:∀h' tk,(∀b o,b∉wr->b≠S->s.heap.get? b=some o->h'.get? b=some o)->R (.ok (.ret v)) {s with heap:=h',toks:=tk}):codeAny `M A (.builtin "max.loop" ⟨[.ref I,k,.ref S],[]⟩) R s:=by
 have nw:S∉wr:=λh=>hSf (W.sub _ h);refine codeAny_builtin (PySem.F.entry_max_loop) ?_;rw[Around.under_plainId PySem.F.plain_max_loop];refine wpAny_bind <| wpAny_seqItems hS rfl ?_
 refine wpAny_bind (wpAny_tryCatch (W.done s _ _ hst λh1 t1 k1=>?_));exact wpAny_bind (wpAny_updateSeq (k1 S _ nw hS) rfl (wpAny_bind (wpAny_letGo (wpAny_pure (hR _ t1 λb o hw hb e=>(Heap.get?_update_other _ _ (Ne.symm hb)).trans (k1 b o hw e))))))
theorem Ci (W:Walks prog w A.in1 I fp wr n P St)(hSf:S∉fp)(hn:0 < n)(hP:∀i v,P i v->∃z t,v=.str z t/\z.length<=sizeLine){c:Nat}{s:Shared}(hst:St 0 s.heap)(hS:s.heap.get? S=some (bestO #[] c))
  (hR:∀z t x tx c' h' tk,P 0 (.str z t)->x=.int z.length tx->St 1 h'->h'.get? S=some (bestO #[.str z t,x] c')->(∀b o,b∉wr->b≠S->s.heap.get? b=some o->h'.get? b=some o)->codeAny `M A (.builtin "max.loop" ⟨[.ref I,.builtin "len",.ref S],[]⟩) R {s with heap:=h',toks:=tk}) :
  codeAny `M A (.builtin "max.loop" ⟨[.ref I,.builtin "len",.ref S],[]⟩) R s:=by
 have nw:S∉wr:=λh=>hSf (W.sub _ h);have dl:toString "max" ++ toString ".loop"=("max.loop" : String):=by decide
 refine codeAny_builtin (PySem.F.entry_max_loop) ?_;rw[Around.under_plainId PySem.F.plain_max_loop];refine wpAny_bind <| wpAny_seqItems hS rfl ?_
 refine wpAny_bind (wpAny_tryCatch (W.item 0 s _ _ hn hst λv h1 t1 p1 mt k1=>?_));obtain⟨z,t,rfl,hz⟩:=hP 0 v p1;have h63:=line63;refine wpAny_bind (wpAny_tryCatch (wpAny_holding (len_str `l ?_)));refine wpAny_bind (wpAny_updateSeq (k1 S _ nw hS) rfl ?_);rw[dl];refine wpAny_pure ⟨plainId_quiet PySem.F.plain_max_loop _,hR z t _ _ _ _ _ p1 rfl (W.frame _ _ _ mt λb hf o e=>?_) (Heap.get?_update_self _ (k1 S _ nw hS) rfl) λb o hw hb e=>(Heap.get?_update_other _ _ (Ne.symm hb)).trans (k1 b o hw e)⟩;exact (Heap.get?_update_other _ _ (λh:S=b=>hSf (by rw[h];exact hf))).trans e
theorem Cj (W:Walks prog w A.in1 I fp wr n P St)(hSf:S∉fp)(hn:1 < n)(hP:∀i v,P i v->∃z t,v=.str z t/\z.length<=sizeLine){c m:Nat}{s:Shared}{v:Value}{tx:Tok}(hst:St 1 s.heap)(hS:s.heap.get? S=some (bestO #[v,.int (m:Int) tx] c))
  (hR:∀z t x c' h' tk,P 1 (.str z t)->St 2 h'->h'.get? S=some (bestO #[if m < z.length then .str z t else v,x] c')->(∀b o,b∉wr->b≠S->s.heap.get? b=some o->h'.get? b=some o)->codeAny `M A (.builtin "max.loop" ⟨[.ref I,.builtin "len",.ref S],[]⟩) R {s with heap:=h',toks:=tk}) :
  codeAny `M A (.builtin "max.loop" ⟨[.ref I,.builtin "len",.ref S],[]⟩) R s:=by
 have nw:S∉wr:=λh=>hSf (W.sub _ h);have dl:toString "max" ++ toString ".loop"=("max.loop" : String):=by decide
 refine codeAny_builtin (PySem.F.entry_max_loop) ?_;rw[Around.under_plainId PySem.F.plain_max_loop];refine wpAny_bind <| wpAny_seqItems hS rfl ?_
 refine wpAny_bind (wpAny_tryCatch (W.item 1 s _ _ hn hst λv1 h1 t1 p1 BT k1=>?_));obtain⟨z,t,rfl,hz⟩:=hP 1 v1 p1;have h63:=line63;have Cl:=k1 S _ nw hS;refine wpAny_bind (wpAny_tryCatch (wpAny_holding (len_str `l ?_)));refine wpAny_bind (wpAny_tryCatch (wpAny_holding (wpAny_bind (CmpOf.ints_gt (A:=A.in1) (P:=λi v=>∃t,v=.int (if i=0 then (z.length:Int) else (m:Int)) t) (λi=>if i=0 then (z.length:Int) else (m:Int)) (λi v h=>h) 0 1 _ _ _ _ _ `o ⟨tx,rfl⟩ ?_))));refine wpAny_bind (wpAny_holding (wpAny_truthy_bool (wpAny_bind (wpAny_letGo (wpAny_pure ?_)))));split
 .next hc=>
  have mt:m < z.length:=by have:=of_decide_eq_true hc;simp at this;lia
  refine wpAny_bind ?_;refine wpAny_updateSeq Cl rfl ?_;refine wpAny_bind <| wpAny_letGo ?_
  rw[dl];refine wpAny_pure ⟨plainId_quiet PySem.F.plain_max_loop _,hR z t _ _ _ _ p1 (W.frame _ _ _ BT λb hf o e=>?_) (by rw[if_pos mt];exact Heap.get?_update_self _ Cl rfl) λb o hw hb e=>(Heap.get?_update_other _ _ (Ne.symm hb)).trans (k1 b o hw e)⟩;exact (Heap.get?_update_other _ _ (λh:S=b=>hSf (by rw[h];exact hf))).trans e
 .next hc=>
  have mt:¬ m < z.length:=λhl=>hc (decide_eq_true (by simp;lia));refine wpAny_bind <| wpAny_letGo ?_
  rw[dl];exact wpAny_pure ⟨plainId_quiet PySem.F.plain_max_loop _,hR z t _ _ _ _ p1 BT (by rw[if_neg mt];exact Cl) λb o hw hb e=>k1 b o hw e⟩
theorem Ck (a b v:Value):argsOk "max" ⟨[a,b],[(ofString "key",v)]⟩:=by unfold argsOk;kernel_rfl
end
section
variable {A:Around}{prog:Program}{w:World}{s:Shared}{E:`T}
theorem Cm {a b:Str}{t u:Tok}{Q:`T}(hh:A.handled=none)(ha:a.length<=sizeLine)(hb:b.length<=sizeLine)
  (h:∀h' tk,(∀c o,s.heap.get? c=some o->h'.get? c=some o)->Q (if a.length < b.length then .str b u else .str a t) {s with heap:=h',toks:=tk}) :
  wpAny `M A (call (.builtin "max") [.str a t,.str b u] [(ofString "key",.builtin "len")]) Q E s:=by
 have mt:toString "max" ++ toString ".loop"=("max.loop" : String):=by decide
 refine kmk_tree PySem.F.kind_max PySem.F.plain_max PySem.F.entry_max (Ck _ _ _) ?_;show wpAny _ A.in1 (Builtin.Builtins.bindParams "max" ["key","default"] 0 ⟨[],[(ofString "key",.builtin "len")]⟩ >>= _) _ _ s;refine wpAny_bind (wpAny_of_eq (show Builtin.Builtins.bindParams "max" ["key","default"] 0 ⟨[],[(ofString "key",.builtin "len")]⟩=pure [some (.builtin "len"),none] from rfl) ?_);show wpAny _ A.in1 (newTuple [.str a t,.str b u] >>= _) _ _ s;refine wpAny_bind <| wpAny_newObj_type ?_
 have hT:(s.heap.push {cls:=.type "tuple",data:=.seq #[.str a t,.str b u]}).IsTuple `z #[.str a t,.str b u]:=⟨_,Heap.get?_push_size _ rfl,rfl,0,rfl⟩;refine wpAny_bind (wpAny_pyIter_tuple hT ?_);have BT:(s.heap.push {cls:=.type "tuple",data:=.seq #[.str a t,.str b u]}).objs.size=`z+1:=Heap.size_push ..;refine wpAny_bind <| wpAny_newObj_type ?_
 rw[mt];refine wpAny_pure <| And.intro (plainId_quiet PySem.F.plain_max_loop _) ?_
 have W:=Walks.tuple (prog:=prog) (w:=w) (A:=A.in1) hh (s.heap.push {cls:=.type "tuple",data:=.seq #[.str a t,.str b u]}).objs.size `z (by rw[BT];exact Nat.ne_of_lt (Nat.lt_succ_self _)) #[.str a t,.str b u];have hP:∀(i:Nat) (v:Value),(#[Value.str a t,.str b u]:Array Value)[i]?=some v->∃z t,v=.str z t/\z.length<=sizeLine:=λi v hv=>by
  match i with
  |0=>cases hv;exact⟨a,t,rfl,ha⟩
  |1=>cases hv;exact⟨b,u,rfl,hb⟩
  |i+2=>exact absurd hv `s
 have dl:((s.heap.push {cls:=.type "tuple",data:=.seq #[.str a t,.str b u]}).push {cls:=.type "tuple_iterator",data:=.fields #[.ref `z,.int 0 0]}).objs.size=`z+2:=by rw[Heap.size_push,BT]
 have Cl:((s.heap.push {cls:=.type "tuple",data:=.seq #[.str a t,.str b u]}).push {cls:=.type "tuple_iterator",data:=.fields #[.ref `z,.int 0 0]}).objs.size∉[(s.heap.push {cls:=.type "tuple",data:=.seq #[.str a t,.str b u]}).objs.size,`z]:=by rw[dl,BT];simp
 refine Ci W Cl (show 0 < 2 by decide) hP (W.frame _ _ _ ⟨⟨_,Heap.get?_push_size _ rfl,rfl,rfl⟩,hT.push _⟩ λb _ o e=>Heap.get?_push_of_some _ e) (Heap.get?_push_size _ rfl) λz t0 x tx c1 h1 Ge p0 hx Ga Gc k1=>?_;cases p0;subst hx;refine Cj W Cl (show 1 < 2 by decide) hP Ga Gc λz t0 x c2 h2 Gd p1 Fr Gb k2=>?_;cases p1;refine Ch W Cl Fr Gb λh3 Fn k3=>?_;show Q (if a.length < b.length then .str b u else .str a t) _;refine h h3 Fn λc o e=>?_;have hc:=Heap.lt_size e;have n1:c∉[(s.heap.push {cls:=.type "tuple",data:=.seq #[.str a t,.str b u]}).objs.size]:=by rw[BT,mem_singleton];exact Nat.ne_of_lt (Nat.lt_succ_of_lt hc)
 have n2:c≠((s.heap.push {cls:=.type "tuple",data:=.seq #[.str a t,.str b u]}).push {cls:=.type "tuple_iterator",data:=.fields #[.ref `z,.int 0 0]}).objs.size:=by rw[dl];exact Nat.ne_of_lt (Nat.lt_of_lt_of_le hc (Nat.le_add_right _ 2))
 exact k3 c o n1 n2 (k2 c o n1 n2 (k1 c o n1 n2 (Heap.get?_push_of_some _ (Heap.get?_push_of_some _ (Heap.get?_push_of_some _ e)))))
end
section
variable {X:Cx}{p pos kp kpos:Pos}{e e2:Expr}{t:TA}
def rMaxLen:`V->Hp->VK->Prop:=λvs H Q=>∃a b:Str,vs=[.str a,.str b]/\a.length<=sizeLine/\b.length<=sizeLine/\Q (.str (if a.length < b.length then b else a)) H
theorem oN (hc:X.calm=true)(hg:Gl X "max")(hm:X.mg "max"=none)(hg2:Gl X "len")(hm2:X.mg "len"=none)(hv2:bootBuiltins "len"=some (.builtin "len"))(hv:bootBuiltins "max"=some (.builtin "max"))(ha:PA X [e,e2] t)
  (he:backTo pos (starEach [e,e2] X.env)=(false,eval e X.env)::backTo pos (starEach [e2] X.env):=by rfl) (hpl:(backTo pos (starEach [e,e2] X.env)).any (·.1)=false:=by rfl) :
  PE X (.Call (.Name "max" p) [e,e2] [⟨some "key",.Name "len" kp,kpos⟩] pos) (tCB rMaxLen t):=by
 intro dl s Z H Q I h;refine wpAny_Call_Name_kw (bL I hg hm hv ?_ `d `d);refine callWith_kw ?_ he hpl;refine thn (ha pos dl s Z H _ I h) λus s1 W'=>?_;obtain⟨vs,H1,I1,r,a,b,rfl,la,lb,q⟩:=W';obtain⟨u,u2,rfl,⟨ta,rfl⟩,⟨tb,rfl⟩⟩:=vals2 r;show wpAny _ _ (evalAll [(do let v <- eval (.Name "len" kp) X.env;standAt pos;pure v)]) _ _ s1;refine wpAny_evalAll_cons (wpAny_bind (bL I1 hg2 hm2 hv2 ?_ `d `d));refine wpAny_bind <| wpAny_standAt <| wpAny_pure ?_
 refine wpAny_evalAll_nil ?_;refine Cm (I1.ok.hd hc) la lb λh' tk k=>⟨_,H1,I1.kept k,?_,q⟩;by_cases hj:a.length < b.length
 .rw[if_pos hj,if_pos hj];exact⟨_,rfl⟩
 .rw[if_neg hj,if_neg hj];exact⟨_,rfl⟩
end
end L2
namespace Wm
open PySem L2
noncomputable def longM (a b:Tq):Tq:=if a.length < b.length then b else a
noncomputable def bothT (c d:Pc):List Tq:=if c.isStep=true\/d.isStep=true then fitT c++fitT d else trialsM (longM c.head d.head) (longM c.tail d.tail)
noncomputable def stepBoth (c d:Pc):Option Tq:=(bothT c d).find? λs=>fitsM c s && fitsM d s
theorem Co {c d:Pc}(hc:PcTx c)(hd:PcTx d):∀s∈bothT c d,s.length<=90000:=λs hs=>by
 unfold bothT at hs;split at hs
 .rcases mem_append.mp hs with y|y
  .exact oE hc s y
  .exact oE hd s y
 .obtain⟨x,_,rfl⟩:=mem_map.mp hs;have h1:(longM c.head d.head).length<=40000:=by unfold longM;split;exact hd.1;exact hc.1
  have h2:(longM c.tail d.tail).length<=40000:=by unfold longM;split;exact hd.2.1;exact hc.2.1
  simp only[length_singleton,length_append];lia
noncomputable def meetM (cs:List Pc)(e:Bool)(ds:List Pc)(e':Bool):Option (List Tq):=if e≠e' then none else match spreadM cs (max cs.length ds.length),spreadM ds (max cs.length ds.length) with
 |some ms,some ts=>(List.zipWith stepBoth ms ts).mapM id
 |_,_=>none
theorem oO:∀L:List (Option Tq),(inV .non (L.map otV)=true/\L.mapM id=none)\/(inV .non (L.map otV)=false/\∃w,L.mapM id=some w/\L.map otV=w.map tV)
 |[]=>.inr ⟨rfl,[],rfl,rfl⟩
 |none::L=>.inl ⟨rfl,by rw[mapM_cons];rfl⟩
 |some s::L=>by
  have e:inV .non ((some s::L).map otV)=inV .non (L.map otV):=rfl;rw[e,mapM_cons];rcases oO L with⟨h1,h2⟩|⟨h1,w,h2,h3⟩
  .exact .inl ⟨h1,by rw[h2];rfl⟩
  .exact .inr ⟨h1,s::w,by rw[h2];rfl,by rw[map_cons,h3];rfl⟩
theorem fA (a b:Tq):longM a b=a\/longM a b=b:=by unfold longM;split <;> simp
theorem Cp {h t s:Tq}:partB h t s=true↔h <+: s/\t <:+ s/\h.length+`t < s.length:=by unfold partB;simp only[decide_eq_true_eq,Bool.and_eq_true];rw[List.prefix_iff_eq_take,List.suffix_iff_eq_drop];exact⟨λ⟨a,b,c⟩=>⟨a.symm,b.symm,c⟩,λ⟨a,b,c⟩=>⟨a.symm,b.symm,c⟩⟩
theorem PcOk.ends {c:Pc}(o:PcOk c):c.head.length<=100/\c.tail.length<=100:=by
 cases c with
 |part h n t=>exact⟨o.1,o.2.1⟩
 |_=>exact⟨Nat.zero_le _,Nat.zero_le _⟩
theorem Cq {c d:Pc}{s:Tq}(oc:PcOk c)(od:PcOk d)(h:stepBoth c d=some s):fitsM c s=true/\fitsM d s=true/\s≠[]/\s.length<=300/\∀x∈s,isSg x=true:=by
 have hf:=List.find?_some h;have hm:=List.mem_of_find?_eq_some h;rw[Bool.and_eq_true] at hf;refine⟨hf.1,hf.2,?_⟩;unfold bothT at hm;split at hm
 .rcases mem_append.mp hm with y|y
  .exact (oI oc y).2
  .exact (oI od y).2
 .obtain⟨y0,hx,rfl⟩:=mem_map.mp hm;have l4:(longM c.head d.head).length<=100:=by rcases fA c.head d.head with e|e <;> rw[e];exact oc.ends.1;exact od.ends.1
  have t4:(longM c.tail d.tail).length<=100:=by rcases fA c.tail d.tail with e|e <;> rw[e];exact oc.ends.2;exact od.ends.2
  have sg:∀{c:Pc},PcOk c->(∀x∈c.head,isSg x=true)/\∀x∈c.tail,isSg x=true:=λ{c} o=>by
   cases c with
   |part h n t=>exact⟨o.2.2.1,o.2.2.2.1⟩
   |_=>exact⟨λx hx=>absurd hx not_mem_nil,λx hx=>absurd hx not_mem_nil⟩
  refine⟨`s,by simp only[length_append,length_singleton];lia,λy hy=>?_⟩;have dl:∀z∈trS,isSg z=true:=by decide
  simp only[mem_append,mem_singleton] at hy;rcases hy with (hy|rfl)|hy
  .rcases fA c.head d.head with e|e <;> rw[e] at hy
   .exact (sg oc).1 y hy
   .exact (sg od).1 y hy
  .exact dl y hx
  .rcases fA c.tail d.tail with e|e <;> rw[e] at hy
   .exact (sg oc).2 y hy
   .exact (sg od).2 y hy
theorem oP:∀{L:List (Option Tq)}{w:List Tq},L.mapM id=some w->w.length=L.length/\∀(i:Nat) (s:Tq),w[i]?=some s->L[i]?=some (some s)
 |[],w,h=>by
  have:w=[]:=by simpa using h.symm
  subst this;exact⟨rfl,λi s h=>by simp at h⟩
 |none::L,w,h=>by rw[mapM_cons] at h;cases h
 |some t::L,w,h=>by
  rw[mapM_cons] at h;cases e:L.mapM id with
  |none=>(rw[e] at h;cases h)
  |some w'=>
   rw[e] at h;have h:some (t::w')=some w:=h;cases h;obtain⟨h1,h2⟩:=oP e;refine⟨by simp[h1],λi s hs=>?_⟩;cases i with
   |zero=>cases hs;rfl
   |succ i=>exact h2 i s hs
theorem oQ {cs ds:List Pc}{e e':Bool}{w:List Tq}(oc:∀c∈cs,PcOk c)(od:∀c∈ds,PcOk c)(h:meetM cs e ds e'=some w) :
  fitsP cs e true w e=true/\fitsP ds e' true w e=true/\(∀s∈w,s≠[]/\s.length<=300/\∀x∈s,isSg x=true)/\w.length=max cs.length ds.length:=by
 unfold meetM at h;by_cases dl:e≠e'
 .rw[if_pos dl] at h;cases h
 rw[if_neg dl] at h;have dl:e=e':=Classical.byContradiction dl;subst dl;generalize hN:max cs.length ds.length=N at h;cases hms:spreadM cs N with
 |none=>rw[hms] at h;cases h
 |some ms=>
  cases hts:spreadM ds N with
  |none=>rw[hms,hts] at h;cases h
  |some ts=>
   rw[hms,hts] at h;obtain⟨h1,h2⟩:=oP (show (List.zipWith stepBoth ms ts).mapM id=some w from h);have m1:=(cK hms).1;have t1:=(cK hts).1;rw[length_zipWith,m1,t1,Nat.min_self] at h1;have mt:∀(i:Nat) (c d:Pc) (s:Tq),ms[i]?=some c->ts[i]?=some d->w[i]?=some s->fitsM c s=true/\fitsM d s=true/\s≠[]/\s.length<=300/\∀x∈s,isSg x=true:=λi c d s hc hd hs=>by have:=h2 i s hs;rw[List.getElem?_zipWith,hc,hd] at this;exact Cq (f7 oc hms c (mem_of_getElem? hc)) (f7 od hts d (mem_of_getElem? hd)) (Option.some.inj this)
   have gm:∀i,i < N->∃c d,ms[i]?=some c/\ts[i]?=some d:=λi hi=>⟨_,_,List.getElem?_eq_getElem `l,List.getElem?_eq_getElem `l⟩;refine⟨f6.mpr ⟨ms,by rw[h1];exact hms,rfl,rfl,λi c s hc hs=>?_⟩,f6.mpr ⟨ts,by rw[h1];exact hts,rfl,rfl,λi d s hd hs=>?_⟩,λs hs=>?_,h1⟩
   .obtain⟨_,d,_,hd⟩:=gm i (by have:=(List.getElem?_eq_some_iff.mp hs).1;lia);exact (mt i c d s hc hd hs).1
   .obtain⟨c,_,hc,_⟩:=gm i (by have:=(List.getElem?_eq_some_iff.mp hs).1;lia);exact (mt i c d s hc hd hs).2.1
   .obtain⟨i,hi⟩:=mem_iff_getElem?.mp hs;obtain⟨c,d,hc,hd⟩:=gm i (by have:=(List.getElem?_eq_some_iff.mp hi).1;lia);exact (mt i c d s hc hd hi).2.2
def StOk (l:Tq):Prop:=0 < `L/\`L<=70/\(∀x∈l,isSg x=true)/\isDot l=false
theorem Cr (cs:List Pc):spreadM cs cs.length=some cs:=by
 unfold spreadM;by_cases h:hasRest cs=true/\cs.length<=cs.length
 .rw[if_pos h,Nat.sub_self];simp
 .rw[if_neg h,if_pos rfl]
theorem Cs {ds:List Pc}{ss:List Tq}{e:Bool}(hl:ds.length=ss.length)(hf:∀(i:Nat) (c:Pc) (s:Tq),ds[i]?=some c->ss[i]?=some s->fitsM c s=true):fitsP ds e true ss e=true:=
 f6.mpr ⟨ds,by rw[<- hl];exact Cr ds,rfl,rfl,hf⟩
theorem Ct {ds:List Pc}{ss:List Tq}{e:Bool}{m:Nat}{n:Tq}(hl:ds.length=ss.length)(hm:m < ss.length)(hf:∀(i:Nat) (c:Pc) (s:Tq),ds[i]?=some c->ss[i]?=some s->fitsM c s=true):fitsP (ds.take m++[.rest n]) e true ss e=true:=by
 have BT:(ds.take m++[Pc.rest n]).length=m+1:=by rw[length_append,length_take,length_singleton];lia
 have hr:hasRest (ds.take m++[Pc.rest n])=true:=by unfold hasRest;simp[Pc.isRest]
 obtain⟨ts,dl⟩:=Cd (ds:=ds.take m++[Pc.rest n]) (n:=ss.length) (.inl ⟨hr,`l⟩);refine f6.mpr ⟨ts,dl,rfl,rfl,λi c s hc hs=>?_⟩;have Fn:=(List.getElem?_eq_some_iff.mp hs).1;have hd:ds[i]?=some ds[i]:=List.getElem?_eq_getElem `l;have mt:=hf i _ s hd hs;rcases (cK dl).2 i Fn with⟨a1,a2⟩|⟨_,_,c',a2,a3,_⟩
 .rw[hc] at a2;by_cases Cl:i < m
  .rw[List.getElem?_append_left (by rw[length_take];lia),List.getElem?_take,if_pos Cl,hd] at a2;cases a2;exact mt
  .have e1:i=m:=by lia
   subst e1;rw[List.getElem?_append_right (by rw[length_take];lia),length_take,Nat.min_eq_left `l,Nat.sub_self] at a2;cases a2;exact oH rfl (oG mt)
 .rw[hc] at a2;cases a2;exact oH a3 (oG mt)
end Wm
namespace HT
open PySem PyProof.Rows
theorem Cu (A:Around)(s:Shared)(a:Int)(t:Tok)(c:Int)(u:Tok)(prog:Program)(w:World)(E:`T)(Q:`T)(h:Q (.bool (decide (c < a))) s) :
  wpAny `M A (richCompare .Gt (.int a t) (.int c u)) Q E s:=
 (PyProof.Rows.gt_int h:wpAny `M A (compareOp .Gt (.int a t) (.int c u)) Q E s)
section
open PySem.SeqAt
open PySem.AutoSeq1 (wpAny_loadPart')
open PySem.MeetsSeq PySem.MeetsSeq2 PySem.MeetsSeq3
theorem Cv (l b:Addr)(items items2:Array Value)(n n2:Nat)(dd dd2:Option Addr)(sl sl2:Array (Option Value))(ns ms:List Int)(hi:IntsAre items.toList ns)(hj:IntsAre items2.toList ms) :
  Meets (Builtin.«tuple.__gt__» ⟨[.ref l,.ref b],[]⟩)
   (λ_ R s=>s.heap.get? l=some {cls:=.type "tuple",dict:=dd,data:=.seq items n,slots:=sl}/\s.heap.get? b=some {cls:=.type "tuple",dict:=dd2,data:=.seq items2 n2,slots:=sl2}/\
    R (.ok (.ret (.bool (lexLt ms ns)))) s):=
 .of_wp λprog w A R s h=>by
  obtain⟨hp,g,d,tk,os⟩:=s;obtain⟨hl,hb,h⟩:=h;have f2:=AutoSeq1.sub_tuple_tuple;have z1:items.size=ns.length:=by rw[<- hi.length];simp
  have z2:items2.size=ms.length:=by rw[<- hj.length];simp
  wp_walk using wpAny_loadPart' hl,wpAny_loadPart' hb,wpAny_forIn_list _ (λrest b s'=>b.1=none/\s'=⟨hp,g,d,tk,os⟩/\∃(vs ws:List Value) (ns' ms':List Int),rest=vs.zip ws/\
   IntsAre vs ns'/\IntsAre ws ms'/\ns'.length+items2.size=ms'.length+items.size/\R (.ok (.ret (.bool (lexLt ms' ns')))) ⟨hp,g,d,tk,os⟩) _
  case turn=>
   rintro⟨y,x⟩ rest b s' ⟨hb',rfl,vs,ws,ns',ms',hz,hvi,hwi,hlen,hR⟩;cases hvi with
   |nil=>rw[List.zip_nil_left] at hz;cases hz
   |cons a t hvi'=>
    cases hwi with
    |nil=>rw[List.zip_nil_right] at hz;cases hz
    |cons c u hwi'=>
     rw[List.zip_cons_cons] at hz;injection hz with hyx hrest;injection hyx with hy hx;subst hy hx;rw[vi] at hR;simp only[length_cons] at hlen;obtain⟨e,he,hiff⟩:=vn A.in1 ⟨hp,g,d,tk,os⟩ a t c u;refine wpAny_bind (he prog w _ _ ?_);cases e with
     |true=>
      rw[if_pos (hiff.mp rfl).symm] at hR
      wp_walk
      exact⟨rfl,rfl,_,_,_,_,hrest,hvi',hwi',`l,hR⟩
     |false=>
      rw[if_neg (λq=>absurd (hiff.mpr q.symm) Bool.false_ne_true)] at hR;have hri:=Cu A.in1 ⟨hp,g,d,tk,os⟩ a t c u prog w
      wp_walk using hri
      exact⟨_,rfl,by simpa using hR⟩
  case fin=>
   rintro⟨b1,b2⟩ s' ⟨hb',rfl,vs,ws,ns',ms',hz,hvi,hwi,hlen,hR⟩;simp only at hb';subst hb';have hv:lexLt ms' ns'=decide (items2.size < items.size):=by
    cases hvi with
    |nil=>
     cases hwi with
     |nil=>simp only[length_nil] at hlen;rw[vj];exact (decide_eq_false `l).symm
     |cons c u hw=>simp only[length_nil,length_cons] at hlen;rw[vm];exact (decide_eq_false `l).symm
    |cons a t hv=>
     cases hwi with
     |nil=>simp only[length_nil,length_cons] at hlen;rw[vk];exact (decide_eq_true `l).symm
     |cons c u hw=>rw[List.zip_cons_cons] at hz;cases hz
   rw[hv] at hR
   wp_walk
   exact⟨_,rfl,by simpa [Builtin.Tuple.tupleCompareSizes] using hR⟩
  case h=>
   exact⟨rfl,rfl,items.toList,items2.toList,ns,ms,rfl,hi,hj,`l,h⟩
end
section
variable {prog:Program}{w:World}{A:Around}{E:`T}{s:Shared}
theorem gt_tupInts {l b:Addr}{items items2:Array Value}{ns ms:List Int}{Q:`T}(hl:IsTup s.heap l items)(hb:IsTup s.heap b items2)(hi:IntsAre items.toList ns)(hj:IntsAre items2.toList ms)
  (hu:A.units < cLine) (h:Q (.bool (lexLt ms ns)) s):wpAny `M A (compareOp .Gt (.ref l) (.ref b)) Q E s:=by
 obtain⟨⟨cls,dd,Ga,sl⟩,ho,hc,n,hd⟩:=id hl;obtain⟨⟨Gb,Fr,Cl,Fn⟩,dl,BT,n2,mt⟩:=id hb;simp only at hc hd BT mt;subst hc hd BT mt;exact richCompare_meets_room (op:=.Gt) ⟨_,ho,rfl⟩ ⟨_,dl,rfl⟩ PySem.F.slot_tuple_gt PySem.F.entry_tuple_gt (PySem.F.args_tuple_gt_2 _ _) (Cv l b items items2 n n2 dd Fr sl Fn ns ms hi hj)
  ⟨ho,dl,show Value.bool (lexLt ms ns)≠Value.notImplemented/\Q (.bool (lexLt ms ns)) s from ⟨(λx=>nomatch x),h⟩⟩ hu
end
end HT
namespace L2
open PySem PySem.Spec PyProof.Rows PyProof.V
section
variable {X:Cx}{o i:Expr}{x:Str}{np pos:Pos}{td ty:TE}
def tTab (p:Addr)(D:List (PyData×PyData))(td ty:TE):TE:=λZ H Q=>td Z H λx H1=>ty Z H1 λy H2=>x=.ref p/\∃(k:Str) (n:Int),y=.str k/\lookup (.str k) D=some (.int n)/\Q (.int n) H2
theorem Cw {p:Addr}{D:List (PyData×PyData)}{Z:St}{H:Hp}{Q:VK}:(tTab p D td ty Z H Q)=(td Z H λx H1=>ty Z H1 λy H2=>x=.ref p/\∃(k:Str) (n:Int),y=.str k/\lookup (.str k) D=some (.int n)/\Q (.int n) H2):=rfl
theorem oR {p:Addr}{D:List (PyData×PyData)}(T:∀h:Heap,X.K.In h->StrTab X.prog X.w h p D)(ho:PE X (.Name x np) td)(hi:PE X i ty)(hs:∀ov iv,subscripted i false ov iv=operate [ov,iv] (getItem ov iv)):PE X (.Subscript (.Name x np) i pos) (tTab p D td ty):=by intro dl s Z H Q I h;refine Subscript_ (thn (ho dl s Z H _ I h) λu s1 ⟨x,H1,I1,rx,q1⟩=>thn (hi dl s1 Z H1 _ I1 q1) λiv s2 W'=>?_);obtain⟨y,H2,I2,ry,ex,k,n,ey,hl,q2⟩:=W';subst ex ey;obtain rfl:u=Value.ref p:=rx;obtain⟨t,rfl⟩:=ry;refine item_strTab (T _ I2.kIn) hl (λv hv=>?_) (hs _ _);obtain⟨t',rfl⟩:=hv.int_inv;exact⟨.int n,H2,I2.tok _,⟨t',rfl⟩,q2⟩
def rGtT (K:`F):R2:=λx y H Q=>∃a b ns ms,x=.ref a/\y=.ref b/\SqT K H a (ns.map V.int)/\SqT K H b (ms.map V.int)/\Q (.bl (HT.lexLt ms ns)) H
theorem Cy {K:`F}(hK:X.K=K)(hu:X.A.units+64 < cLine):OpR X (compareOp .Gt) (rGtT K):=by subst hK;intro pins s Z H x y v u Q I rx ry h;obtain⟨a,b,ns,ms,rfl,rfl,ha,hb,q⟩:=h;cases rx;cases ry;obtain⟨us,r1,p1,_⟩:=I.tuple ha;obtain⟨ws,r2,p2,_⟩:=I.tuple hb;exact HT.gt_tupInts p1 p2 (ka r1) (ka r2) `l ⟨.bl (HT.lexLt ms ns),H,I,rfl,q⟩
end
end L2
namespace Wm
open PySem L2
noncomputable def wordW:Pc->Int
 |.step _=>6
 |.part ..=>5
 |.num _=>4
 |.word _=>3
 |.gap _=>2
 |.rest _=>1
noncomputable def worthM (c:Pc):List Int:=[wordW c,((c.head.length+c.tail.length:Nat):Int),(c.head.length:Int)]
noncomputable def moreM:List Pc->List Pc->Bool
 |[],[]=>false
 |[],_::_=>true
 |_::_,[]=>false
 |c::cs,d::ds=>if worthM c=worthM d then moreM cs ds else HT.lexLt (worthM d) (worthM c)
theorem Cz:∀{A B:List Pc},A=[]\/B=[]->moreM A B=decide (A.length < B.length)
 |[],[],_=>rfl
 |[],_::_,_=>by simp[moreM]
 |_::_,[],_=>by simp[moreM]
 |_::_,_::_,h=>by rcases h with h|h <;> cases h
noncomputable def mostM {α:Type}(mr:α->α->Bool)(b:α):List α->α
 |[]=>b
 |e::r=>mostM mr (if mr e b=true then e else b) r
theorem CA (a b:Int):PyData.eqv (.int a) (.int b)=true↔a=b:=by simp[PyData.eqv]
theorem CB (a b:List Int):PyData.eqv (.tuple (a.map PyData.int)) (.tuple (b.map PyData.int))=decide (a=b):=by rw[Bool.eq_iff_iff,decide_eq_true_eq,PyData.eqv];exact eK CA _ _
theorem oS (l:List Int):SeqAt.shaped (.tuple (l.map PyData.int))=true:=by refine LayAt.shaped (n:=1) (LayAt.tup (n:=0) λd hd=>?_) `d;obtain⟨c,hc,rfl⟩:=mem_map.mp hd;exact⟨rfl,Nat.le_refl _⟩
theorem PcOk.tx {c:Pc}(o:PcOk c):PcTx c:=by
 cases c with
 |step w=>exact⟨Nat.zero_le _,Nat.zero_le _,λw' h=>by cases h;have:=o.2.1;lia⟩
 |part a n b=>exact⟨by have:=o.1;show a.length<=_;lia,by have:=o.2.1;show b.length<=_;lia,λw h=>by cases h⟩
 |_=>exact⟨Nat.zero_le _,Nat.zero_le _,λw h=>by cases h⟩
structure Wdr (c d:Pc):Prop where
 ok:PcOk d
 fit:∀s,fitsM c s=true->fitsM d s=true
 le:HT.lexLt (worthM c) (worthM d)=false
 nr:d.isRest=c.isRest
end Wm
namespace L2
open PySem PySem.Spec PyProof.Rows
section
variable {X:Cx}
def rIndexL:V->`V->Hp->VK->Prop:=λx vs H Q=>∃(l:Addr) (xs:`V) (k:Str) (j:Nat),x=.ref l/\vs=[.str k]/\H l=some (.lst xs)/\(∀v∈xs,∃z,v=.str z)/\xs[j]?=some (.str k)/\(∀i,i < j->xs[i]?≠some (.str k))/\Q (.int j) H
noncomputable def strIs (k:Str):Value->Bool
 |.str z _=>z == k
 |_=>false
theorem CC:MtR X "list.index" rIndexL:=by
 intro Cl s Z H x vs v us Q I rx rv h;obtain⟨l,xs,k,j,rfl,rfl,hH,mt,hj,Fn,q⟩:=h;cases rx;obtain⟨u,rfl,t,rfl⟩:=vals1 rv;obtain⟨z,dl,n,r,hl,e⟩:=I.lstM hH;have hjl:=(List.getElem?_eq_some_iff.mp hj).1;have hz:sizeLine < 2 ^ 62:=by decide
 have BT:∀(i:Nat) (h:i < dl.length),∃y t',xs[i]?=some (.str y)/\dl[i]=.str y t':=λi h=>by have hx:xs[i]?=some xs[i]:=List.getElem?_eq_getElem `l;obtain⟨y,hy⟩:=mt _ (mem_of_getElem? hx);rw[hy] at hx;obtain⟨u,hu,t',rfl⟩:=r.get hx;refine⟨y,t',hx,?_⟩;rw[List.getElem?_eq_getElem h] at hu;injection hu
 refine call_meets F.slot_list_index ⟨_,e,rfl⟩ F.entry_list_index (F.args_list_index_2 _ _) (SeqAt.list_indexAt l dl.toArray n none #[] (.str k t) (strIs k) j (by rw[size_toArray];lia) `l ?_ ?_) ⟨e,λy hy=>?_,⟨.int j,H,I.tok _,`o,q⟩⟩
 .obtain⟨y,t',h1,h2⟩:=BT j `l;rw[hj] at h1;cases h1;show strIs k dl[j]=true;rw[h2];exact beq_self_eq_true k
 .intro i hi Fr;rw[size_toArray] at hi;obtain⟨y,t',h1,h2⟩:=BT i hi;show strIs k dl[i]=false;rw[h2];exact beq_eq_false_iff_ne.mpr λz=>Fn i Fr (by rw[h1,z])
 .obtain⟨i,hi,rfl⟩:=List.getElem_of_mem (show y∈dl by simpa using hy);obtain⟨y,t',h1,h2⟩:=BT i hi;rw[h2];exact SeqAt.EqAt.str_str y t' k t
theorem CD {l:Addr}{k:Str}{H:Hp}{Q:VK}:rIndexL (.ref l) [.str k] H Q↔∃(xs:`V) (j:Nat),H l=some (.lst xs)/\(∀v∈xs,∃z,v=.str z)/\xs[j]?=some (.str k)/\(∀i,i < j->xs[i]?≠some (.str k))/\Q (.int j) H:=
 ⟨λ⟨_,xs,_,j,e1,e2,h⟩=>by cases e1;cases e2;exact⟨xs,j,h⟩,λ⟨xs,j,h⟩=>⟨l,xs,k,j,rfl,rfl,h⟩⟩
end
end L2
namespace HT
open PySem PyProof.Rows
section
open PySem.SeqAt
open PySem.AutoSeq1 (wpAny_loadPart')
open PySem.MeetsSeq PySem.MeetsSeq2 PySem.MeetsSeq3
variable {α:Type}{eqf gtf:α->α->Bool}{l b:Addr}{us ws:Array Value}{n n2:Nat}{dd dd2:Option Addr}{sl sl2:Array (Option Value)}{xs ys:List α}
end
end HT
namespace L2
open PySem PySem.Spec PyProof.Rows
section
variable {X:Cx}
end
section
variable {X:Cx}
theorem oU:∀(l:List Str) (n:Nat),Vals (l.map V.str) (strsFrom n l)
 |[],_=>.nil
 |z::l,n=>.cons ⟨n,rfl⟩ (oU l (n+1))
def rSplit:V->`V->Hp->VK->Prop:=λx vs H Q=>∃(z:Str) (c:Nat),x=.str z/\vs=[.str ⟨#[c]⟩]/\z.length<=100000/\∀p,H p=none->Q (.ref p) (upd H p (.lst ((Txt.split z ⟨#[c]⟩).map V.str)))
theorem oW:MtR X "str.split" rSplit:=by
 intro mt s Z H x vs v us Q I rx rv h;obtain⟨z,c,rfl,rfl,hz,q⟩:=h;obtain⟨t,rfl⟩:=rx;obtain⟨u,rfl,t',rfl⟩:=vals1 rv;have hf:H `z=none:=I.hok.fresh `n;have q:=q _ hf;have hw:=split_weight z ⟨#[c]⟩ (Nat.le_refl 1);have BT:z.length<=sizeLine:=Nat.le_trans hz `d;unfold Txt.split at q hw;cases h1:(decide (z.length < (⟨#[c]⟩:Str).length) || decide (Builtin.Str.strKind z < Builtin.Str.strKind ⟨#[c]⟩)) with
 |true=>rw[if_pos h1] at q;refine call_meets F.slot_str_split (typeIs_str _ _ _) F.entry_str_split (F.args_str_split_2 _ _) (meets_str_split_cannot_occur z ⟨#[c]⟩ t t' h1) ?_;refine⟨.ref `z,_,I.laid (t':=s.toks) (o:=.lst [.str z]) (λb u e=>Heap.get?_push_of_some _ e) `n ?_,rfl,q⟩;exact⟨by show 1<=sizeLine;decide,[.str z t],0,.cons `o .nil,Heap.get?_push_size _ rfl⟩
 |false=>
  rw[if_neg (by rw[h1];decide)] at q hw;cases h2:(Builtin.Str.occurrences z ⟨#[c]⟩ 0 z.length (z.length+1)).isEmpty with
  |true=>rw[if_pos h2] at q;refine call_meets F.slot_str_split (typeIs_str _ _ _) F.entry_str_split (F.args_str_split_2 _ _) (meets_str_split_not_found z ⟨#[c]⟩ t t' h1 rfl h2) ?_;refine⟨.ref `z,_,I.laid (t':=s.toks) (o:=.lst [.str z]) (λb u e=>Heap.get?_push_of_some _ e) `n ?_,rfl,q⟩;exact⟨by show 1<=sizeLine;decide,[.str z t],0,.cons `o .nil,Heap.get?_push_size _ rfl⟩
  |false=>
   rw[if_neg (by rw[h2];decide)] at q hw;have hn:(Builtin.Str.partsBetween z (Builtin.Str.occurrences z ⟨#[c]⟩ 0 z.length (z.length+1)) (⟨#[c]⟩:Str).length).length<=100001:=by lia
   have dl:(Builtin.Str.partsBetween z (Builtin.Str.occurrences z ⟨#[c]⟩ 0 z.length (z.length+1)) (⟨#[c]⟩:Str).length).length<=sizeLine:=Nat.le_trans hn `d;refine call_meets F.slot_str_split (typeIs_str _ _ _) F.entry_str_split (F.args_str_split_2 _ _) (meets_str_split_sep z ⟨#[c]⟩ t t' h1 rfl h2 BT dl) ?_;refine⟨.ref `z,_,I.laid (o:=.lst _) (λb u e=>Heap.get?_push_of_some _ e) `n ?_,rfl,q⟩;exact⟨by rw[length_map];exact dl,_,0,oU _ _,Heap.get?_push_size _ rfl⟩
end
theorem CF {z:Str}{c:Nat}{H:Hp}{Q:VK}:rSplit (.str z) [.str ⟨#[c]⟩] H Q↔z.length<=100000/\∀p,H p=none->Q (.ref p) (upd H p (.lst ((Txt.split z ⟨#[c]⟩).map V.str))):=by
 constructor
 .rintro⟨z',c',e1,e2,h⟩;cases e1;cases e2;exact h
 .exact λh=>⟨z,c,rfl,rfl,h⟩
section
variable {prog:Program}{w:World}{A:Around}{E:`T}{s:Shared}
end
section
variable {X:Cx}{elts:List Expr}{kk:Nat}{tpos:Pos}
variable {Z:St}{H:Hp}{D:Ends}{g:TG}{tb:TS}{aa:TA}
end
section
variable {κ:Type}[DecidableEq κ]
noncomputable def valV (kvs:List (κ×V))(k:κ):Option V:=(kvs.find? λkv=>decide (kv.1=k)).map (·.2)
noncomputable def putK (kvs:List (κ×V))(k:κ)(v:V):List (κ×V):=
 if (kvs.any λkv=>decide (kv.1=k))=true then kvs.map (λkv=>if kv.1=k then (kv.1,v) else kv) else kvs++[(k,v)]
end
section
variable {P:Program}{w:World}{H:Hp}{h:Heap}{a:Addr}
end
def DGet (H:Hp)(a:Addr)(y:V)(r:Option V):Prop:=
 (∃kvs k,Rd H a (.dK kvs)/\y=kV k/\r=valV kvs k)\/∃kvs k b,Rd H a (.dT kvs)/\y=.ref b/\H b=some (.tup (k.map kV))/\r=valV kvs k
def DPut (H:Hp)(a:Addr)(y v:V)(H':Hp):Prop:=
 (∃kvs k,H a=some (.dK kvs)/\y=kV k/\kvs.length < sizeLine/\H'=upd H a (.dK (putK kvs k v)))\/
 ∃kvs k b,H a=some (.dT kvs)/\y=.ref b/\H b=some (.tup (k.map kV))/\kvs.length < sizeLine/\H'=upd H a (.dT (putK kvs k v))
theorem DGet.t {H:Hp}{a b:Addr}{kvs:List (List Key×V)}{k:List Key}(e:H a=some (.dT kvs))(eb:H b=some (.tup (k.map kV))):DGet H a (.ref b) (valV kvs k):=.inr ⟨kvs,k,b,.inl e,rfl,eb,rfl⟩
theorem DPut.t {H:Hp}{a b:Addr}{kvs:List (List Key×V)}{k:List Key}{v:V}(e:H a=some (.dT kvs))(eb:H b=some (.tup (k.map kV)))(hl:kvs.length < sizeLine) :
  DPut H a (.ref b) v (upd H a (.dT (putK kvs k v))):=.inr ⟨kvs,k,b,e,rfl,eb,hl,rfl⟩
section
variable {X:Cx}{pins:`O}{Z:St}{H:Hp}{s:Shared}{a:Addr}{y v:V}{u r:Value}{o:Option V}{A:Around}{E:`T}
end
section
variable {X:Cx}{pins:`O}{Z:St}{H:Hp}{s:Shared}{a:Addr}{kvs:List (Key×V)}{k:Key}{u:Value}{A:Around}{E:`T}
end
section
variable {X:Cx}{o i e value:Expr}{pos pos' tpos:Pos}{td ty tv:TE}
end
section
variable {X:Cx}{pos:Pos}
end
structure M1 (X:Cx)(o:Expr)(m:Str)(apos:Pos)(e:Expr)(cpos:Pos):Prop where
 base:attributeBase o m X.env (eval o X.env)=eval o X.env
 few:((backTo cpos (starEach [e] X.env)).all (λx=>!x.1) && (backToKw cpos (keywordEach [] X.env)).all (λx=>x.1.isSome)
  && decide (([e]:List Expr).length+([]:List Keyword).length+(if ([]:List Keyword).isEmpty then 0 else 1) < 30))=true
 line:(apos.endLine == cpos.line)=true
 trees:backTo cpos (starEach [e] X.env)=[(false,eval e X.env)]
structure M2 (X:Cx)(o:Expr)(m:Str)(apos:Pos)(e f:Expr)(cpos:Pos):Prop where
 base:attributeBase o m X.env (eval o X.env)=eval o X.env
 few:((backTo cpos (starEach [e,f] X.env)).all (λx=>!x.1) && (backToKw cpos (keywordEach [] X.env)).all (λx=>x.1.isSome)
  && decide (([e,f]:List Expr).length+([]:List Keyword).length+(if ([]:List Keyword).isEmpty then 0 else 1) < 30))=true
 line:(apos.endLine == cpos.line)=true
 trees:backTo cpos (starEach [e,f] X.env)=[(false,eval e X.env),(false,eval f X.env)]
section
variable {X:Cx}{pins:`O}{Z:St}{H:Hp}{s:Shared}{a:Addr}{y d:V}{u r:Value}{o:Option V}{A:Around}{E:`T}
end
section
variable {X:Cx}{o e f:Expr}{apos cpos:Pos}{td ty tx:TE}
end
section
variable {X:Cx}{pins:`O}{Z:St}{H:Hp}{s:Shared}{a:Addr}{kvs:List (Key×V)}{A:Around}{E:`T}
end
section
variable {X:Cx}{pins:`O}{Z:St}{H:Hp}{s:Shared}{a:Addr}{y:V}{u:Value}{A:Around}{E:`T}
end
end L2
namespace PySem
open PyProof.Rows
section
variable {K:Type}[DecidableEq K]
noncomputable def fstU (l:List K):List K:=l.foldl (λacc k=>if k∈acc then acc else acc++[k]) []
theorem iy (l:List K)(k:K):fstU (l++[k])=if k∈fstU l then fstU l else fstU l++[k]:=by unfold fstU;rw[foldl_append];rfl
theorem j0:∀(n:Nat) (l:List K),`L=n->∀k,k∈fstU l↔k∈l
 |0,l,h,k=>by rw[length_eq_zero_iff.mp h];exact Iff.rfl
 |n+1,l,h,k=>by
  obtain⟨l',x,rfl⟩:∃l' x,l=l'++[x]:=⟨l.dropLast,l.getLast (λz=>by rw[z] at h;cases h),(dropLast_concat_getLast _).symm⟩;have ih:=j0 n l' (by rw[length_append,length_singleton] at h;lia);rw[iy,mem_append,mem_singleton];split
  .next hx=>
   rw[ih k];exact⟨.inl,λz=>by rcases z with z|rfl;exact z;exact (ih _).mp hx⟩
  .rw[mem_append,mem_singleton,ih k]
theorem fB:∀(n:Nat) (l:List K),`L=n->((fstU l).length<=`L/\((fstU l).length=`L↔l.Nodup))
 |0,l,h=>by rw[length_eq_zero_iff.mp h];simp[fstU]
 |n+1,l,h=>by
  obtain⟨l',x,rfl⟩:∃l' x,l=l'++[x]:=⟨l.dropLast,l.getLast (λz=>by rw[z] at h;cases h),(dropLast_concat_getLast _).symm⟩;have hl:l'.length=n:=by rw[length_append,length_singleton] at h;lia
  obtain⟨i1,i2⟩:=fB n l' hl;have im:=j0 n l' hl x;have hp:(l'++[x]).Nodup↔x∉l'/\l'.Nodup:=by rw[<- nodup_cons];exact (List.perm_append_singleton x l').nodup_iff
  rw[hp,iy,length_append,length_singleton];split
  .next hx=>
   refine⟨`l,λz=>?_,λz=>absurd (im.mp hx) z.1⟩;exact absurd z `l
  .next hx=>
   rw[length_append,length_singleton];refine⟨`l,λz=>⟨λy=>hx (im.mpr y),i2.mp `l⟩,λz=>by rw[i2.mpr z.2]⟩
end
section
variable {prog:Program}{w:World}{K:Type}[DecidableEq K]{knd:KeyKind prog w K}{A:Around}{R:Result->Shared->Prop}{h0:Heap}{d it l:Addr}{items:Array Value}{ks:List K}
theorem oX {h:Heap}{S S':K->Bool}{n n':Nat}(e:∀k,S k=S' k)(en:n=n')(hs:h.SetOf knd d S n):h.SetOf knd d S' n':=by subst en;rw[<- (funext e:S=S')];exact hs
theorem CG (hd0:h0.get? d=none)(hi0:h0.get? it=none)(hdi:d≠it)(hl:h0.IsList l items)(hp:∀(i:Nat) (x:Value),items[i]?=some x->∃k,ks[i]?=some k/\knd.is k x=true/\x.scannable=true)(hn:items.size=ks.length)(hsz:ks.length+1 < scanBound)(hh:A.in1.handled=none) :
  ∀(k i:Nat) (s:Shared),items.size - i=k->i<=items.size->(∀b o,h0.get? b=some o->s.heap.get? b=some o)->s.heap.IsListIter it l i->s.heap.SetOf knd d (λk=>decide (k∈ks.take i)) (fstU (ks.take i)).length ->
  (∀(h':Heap) (n:Nat),(∀b o,h0.get? b=some o->h'.get? b=some o)->h'.SetOf knd d (λk=>decide (k∈ks)) (fstU ks).length->R (.ok (.ret .none)) {s with heap:=h',toks:=n}) ->
  codeAny `M A (.builtin "set.update.loop" ⟨[.ref d,.ref it],[]⟩) R s:=by
 intro k;induction k with
 |zero=>intro i s hk hi sm hit hd hR;have Gb:i=items.size:=Nat.le_antisymm hi `l;obtain⟨o,ho,r⟩:=hl;refine codeAny_builtin F.entry_set_update_loop ?_;rw[Around.under_plainId F.plain_set_update_loop _];show wpAny _ A.in1 (pyNext (.ref it) >>= _) _ _ s;refine wpAny_bind (wpAny_pyNext_list_end hh hit ⟨o,sm _ _ ho,r⟩ (by rw[Gb];simp) λh' he=>?_);rw[Gb,hn,take_length] at hd;refine wpAny_pure (hR h' s.toks (λb o e=>he b o (λz=>by rw[z,hi0] at e;cases e) (sm b o e)) ?_);obtain⟨o,es,ep,t,h1,h2⟩:=hd;exact⟨o,es,ep,t,he d o hdi h1,h2⟩
 |succ k ih=>
  intro i s hk hi sm hit hd hR;have Ga:i < items.size:=Nat.lt_of_sub_pos `l;obtain⟨mt,Gg,dl,Ge⟩:=hp i items[i] (Array.getElem?_eq_getElem Ga);obtain⟨ol,Gf,rl⟩:=id hl;refine codeAny_builtin F.entry_set_update_loop ?_;rw[Around.under_plainId F.plain_set_update_loop _];show wpAny _ A.in1 (pyNext (.ref it) >>= _) _ _ s;refine wpAny_bind (wpAny_pyNext_list_item hit ⟨ol,sm _ _ Gf,rl⟩ (x:=items[i]) (Array.getElem?_eq_getElem Ga) λh1 Cl Fr=>?_);have Gd:∀b o,h0.get? b=some o->h1.get? b=some o:=λb o e=>by rw[Fr.2 b (λz=>by rw[z,hi0] at e;cases e)];exact sm b o e
  have Gj:h1.SetOf knd d (λk=>decide (k∈ks.take i)) (fstU (ks.take i)).length:=by obtain⟨o,es,ep,t,e1,e2⟩:=hd;exact⟨o,es,ep,t,by rw[Fr.2 d hdi];exact e1,e2⟩
  have Gk:=(fB _ (ks.take i) rfl).1;have Gh:=j0 _ (ks.take i) rfl;rw[length_take] at Gk;refine wpAny_bind (wpAny_holding ?_);unfold setAdd;refine wpAny_holding (wpAny_bind (knd.pyHash dl ?_));refine wpAny_setAddHashed_of (s:={ s with heap:=h1,toks:=_}) dl Ge Gj `l λh2 Fn Gi=>?_;have Gc:∀b o,h0.get? b=some o->h2.get? b=some o:=λb o e=>by rw[Fn.2 b (λz=>by rw[z,hd0] at e;cases e)];exact Gd b o e
  have BT:h2.IsListIter it l (i+1):=by obtain⟨o,e1,e2⟩:=Cl;exact⟨o,by rw[Fn.2 it (Ne.symm hdi)];exact e1,e2⟩
  have et:ks.take (i+1)=ks.take i++[mt]:=by rw[take_add_one,Gg];rfl
  refine wpAny_pure ⟨plainId_quiet F.plain_set_update_loop _,?_⟩;refine ih (i+1) _ `l `l Gc BT (oX (λk=>?_) ?_ Gi) (λh' n e1 e2=>hR h' n e1 e2)
  .rw[et];by_cases h1:k∈ks.take i
   .rw[decide_eq_true h1,decide_eq_true (mem_append_left _ h1)];rfl
   .by_cases h2:k=mt
    .rw[decide_eq_true h2,decide_eq_true (mem_append_right _ (mem_singleton.mpr h2)),Bool.or_true]
    .rw[decide_eq_false h1,decide_eq_false h2,decide_eq_false (λz=>by rcases mem_append.mp z with y|y;exact h1 y;exact h2 (mem_singleton.mp y))];rfl
  .rw[et,iy];by_cases h1:mt∈ks.take i
   .rw[if_pos (decide_eq_true h1),if_pos ((Gh _).mpr h1)]
   .rw[if_neg (by rw[decide_eq_false h1];decide),if_neg (λz=>h1 ((Gh _).mp z)),length_append];rfl
end
section
variable {prog:Program}{w:World}{K:Type}[DecidableEq K]{knd:KeyKind prog w K}{A:Around}{E:`T}{s:Shared}{l:Addr}{items:Array Value}{ks:List K}{Q:`T}
theorem CH (hl:s.heap.IsList l items)(hp:∀(i:Nat) (x:Value),items[i]?=some x->∃k,ks[i]?=some k/\knd.is k x=true/\x.scannable=true)(hn:items.size=ks.length)(hsz:ks.length+1 < scanBound)(hA:A.handled=none)
  (h:∀(h':Heap) (n:Nat),(∀b o,s.heap.get? b=some o->h'.get? b=some o)->h'.SetOf knd `z (λk=>decide (k∈ks)) (fstU ks).length->Q (.ref `z) {s with heap:=h',toks:=n}) :
  wpAny `M A (call (.type "set") [.ref l]) Q E s:=by
 obtain⟨c,tl,Cl⟩:=F.called_set.mro;have Ga:=F.called_set.made;have Ge:=F.called_set.sub;have h1:=F.called_set.notType;have h2:=F.called_set.canCreate;refine wpAny_call (codeAny_of_tree (wpAny_pure ⟨Code.quiet_builtin _ `k,codeAny_builtin F.entry_type_call ?_⟩));rw[Around.under_plain (weight_type_call_type "set" [.ref l] []) rfl];unfold Builtin.«type.__call__»;refine wpAny_ite_false (by rw[h1];rfl) ?_;refine wpAny_ite_false (by rw[h2];rfl) ?_;refine wpAny_bind (wpAny_of_eq (F.typeCall_set_1 _) ?_);refine wpAny_bind (wpAny_of_eq Cl ?_);refine wpAny_ite_false rfl ?_;refine wpAny_bind (wpAny_of_eq Ga ?_);refine wpAny_bind (wpAny_pure ?_);show wpAny _ _ (holding [Value.builtin "set.__new__"] (call (Value.builtin "set.__new__") [.type "set",.ref l] []) >>= _) _ _ _;refine wpAny_bind (wpAny_holding (wpAny_call (codeAny_mono (code_set_new_1 (E:=E) (Q₁:=λx s₁=>∃dl,x=.ref `z/\s₁={ s with heap:=s.heap.push {cls:=.type "set",data:=.set #[] 0 (SetTable.fresh 0 0 dl)} }) (.ref l) λdl=>⟨dl,rfl,rfl⟩) λr s₁ hr=>?_)));cases r with
 |error e=>exact hr
 |ok fl=>
  cases fl with
  |next=>exact hr
  |brk=>exact hr
  |cont=>exact hr
  |ret v=>
   obtain⟨dl,rfl,rfl⟩:=hr;have ns:(s.heap.push {cls:=.type "set",data:=.set #[] 0 (SetTable.fresh 0 0 dl)}).get? `z=some {cls:=.type "set",data:=.set #[] 0 (SetTable.fresh 0 0 dl)}:=Heap.get?_push_size _ rfl;have ty:({s with heap:=s.heap.push {cls:=.type "set",data:=.set #[] 0 (SetTable.fresh 0 0 dl)} }:Shared).TypeIs (.ref `z) "set" := ⟨_,ns,rfl⟩;refine wpAny_bind (wpAny_isInstance ty Ge ?_);refine wpAny_ite_false rfl ?_;refine wpAny_bind (wpAny_holding ?_);unfold callSpecial?;refine wpAny_bind (wpAny_specialOf ty F.called_set.init.lookup ?_);refine wpAny_holding (wpAny_bind (wpAny_of_eq (F.called_set.init.bind _) ?_));refine wpAny_bind (wpAny_call (codeAny_mono (R:=wants (λr s₂=>r=Value.none/\Q (.ref `z) s₂) E) (codeAny_call_builtin F.called_set.init.plain F.entry_set_init (check_set_init_1 ty ?_)) λr₂ s₂ mt=>?_));rotate_left
   .cases r₂ with
    |error e=>exact mt
    |ok fl=>
     cases fl with
     |next=>exact mt
     |brk=>exact mt
     |cont=>exact mt
     |ret v=>obtain⟨rfl,hq⟩:=mt;exact wpAny_pure (wpAny_ite_false rfl (wpAny_pure hq))
   have BT:∀b o,s.heap.get? b=some o->(s.heap.push {cls:=.type "set",data:=.set #[] 0 (SetTable.fresh 0 0 dl)}).get? b=some o:=λb o e=>Heap.get?_push_of_some _ e;obtain⟨ol,Fr,rl⟩:=id hl;have Gc:(s.heap.push {cls:=.type "set",data:=.set #[] 0 (SetTable.fresh 0 0 dl)}).IsList l items:=⟨ol,BT _ _ Fr,rl⟩;have Gd:({s with heap:=s.heap.push {cls:=.type "set",data:=.set #[] 0 (SetTable.fresh 0 0 dl)} }:Shared).TypeIs (.ref l) "list" := ⟨ol,BT _ _ Fr,rl.1⟩;have hsub1:=F.sub_list_set;have hsub2:=F.sub_list_frozenset;generalize hG:s.heap.push {cls:=.type "set",data:=.set #[] 0 (SetTable.fresh 0 0 dl)}=G at ns ty BT Gc Gd ⊢;unfold Builtin.«set.__init__»
   wp_walk using wpAny_pyIter_list Gc
   have Fn:∀b,`z<=b->s.heap.get? b=none:=λb hb=>by
    cases e:s.heap.get? b with
    |none=>rfl
    |some o=>exact absurd (Heap.lt_size e) (Nat.not_lt.mpr hb)
   have Gb:`z < G.objs.size:=Heap.lt_size ns;have Gf:(G.push {cls:=.type "list_iterator",data:=.fields #[.ref l,.int 0 0]}).SetOf knd `z (λk=>decide (k∈ks.take 0)) (fstU (ks.take 0)).length:=by
    letI:BEq K:=instBEqOfDecidableEq
    refine oX (S:=λ_=>false) (λk=>?_) rfl ((setObjOf_fresh (knd:=knd) dl).setOf (Heap.get?_push_of_some _ ns) `d);rw[take_zero,decide_eq_false not_mem_nil]
   exact @CG prog w K _ knd A.in1.in1 _ s.heap `z G.objs.size l items ks (Fn _ `n) (Fn _ (Nat.le_of_lt Gb)) (Nat.ne_of_lt Gb) hl hp hn hsz hA items.size 0
    { s with heap:=G.push {cls:=.type "list_iterator",data:=.fields #[.ref l,.int 0 0]} } rfl (Nat.zero_le _) (λb o e=>Heap.get?_push_of_some _ (BT b o e)) ⟨_,Heap.get?_push_size _ rfl,rfl,rfl⟩ Gf (λh' n e1 e2=>wpAny_pure (wpAny_pure ⟨rfl,h h' n e1 e2⟩))
end
end PySem
namespace L2
open PySem PySem.Spec PyProof.Rows
section
variable {X:Cx}
theorem oY:∀{ss:List Str}{its:List Value},Vals (ss.map V.str) its->its.length=ss.length/\∀(i:Nat) (x:Value),its[i]?=some x->∃z t,ss[i]?=some z/\x=.str z t
 |[],_,h=>by cases h;exact⟨rfl,λi x h=>by simp at h⟩
 |z::ss,_,h=>by
  cases h with
  |cons r rs=>
   obtain⟨h1,h2⟩:=oY rs;obtain⟨t,rfl⟩:=r;refine⟨by simp[h1],λi x hx=>?_⟩;cases i with
   |zero=>cases hx;exact⟨z,t,rfl,rfl⟩
   |succ i=>exact h2 i x (by simpa using hx)
def tLenSet (ta:TA):TE:=λZ H Q=>ta Z H λvs H1=>∃(l:Addr) (ss:List Str),vs=[.ref l]/\H1 l=some (.lst (ss.map V.str))/\ss.length<=1000/\Q (.int ((fstU ss).length:Nat)) H1
theorem CI {a:Expr}{ta:TA}{p p' pos pos':Pos}(hc:X.calm=true)(hg:Gl X "set")(hm:X.mg "set"=none)(hl:Gl X "len")(hlm:X.mg "len"=none)(hb:bootBuiltins "len"=some (.builtin "len"))(ha:PA X [a] ta)
  (hs:starEach [a] X.env=[(false,eval a X.env)]:=by rfl)
  (hs':starEach [.Call (.Name "set" p) [a] [] pos] X.env=[(false,eval (.Call (.Name "set" p) [a] [] pos) X.env)]:=by rfl) :
  PE X (.Call (.Name "len" p') [.Call (.Name "set" p) [a] [] pos] [] pos') (tLenSet ta):=by
 intro dl s Z H Q I h;refine wpAny_Call_Name_kw (bL I hl hlm hb (PyProof.Rows.callWith_builtin1 ?_ hs' rfl) `d `d);rw[hs'];refine Calls.spliced_cons ?_;refine wpAny_Call_Name_kw (bL I hg hm boot_set (PyProof.Rows.callWith_type1 (thn (ha pos dl s Z H _ I h) λus s1 W'=>?_) hs rfl) `d `d);obtain⟨vs,H1,I1,r1,q1⟩:=W';obtain⟨l,ss,e,Cl,hz,q⟩:=q1;subst e;obtain⟨u,rfl,r⟩:=vals1 r1;cases r;obtain⟨z,BT,n,rv,e⟩:=I1.hok l _ Cl;obtain⟨v1,v2⟩:=oY rv;have hfn:=(fB _ ss rfl).1;refine CH (knd:=PySem.strKind X.prog X.w) (ks:=ss) (items:=BT.toArray) ⟨_,e,rfl,_,rfl⟩ (λi x hx=>?_) (by rw[size_toArray];exact v1) (by show ss.length+1 < 4096;lia) (I1.ok.hd hc) λh' t' sm mt=>?_
 .obtain⟨y,t,h1,rfl⟩:=v2 i x (by simpa using hx);exact⟨y,h1,PySem.strKind_is _ _ _ _,rfl⟩
 have I2:Inv X dl Z H1 {s1 with heap:=h',toks:=t' }:=I1.kept sm;refine Calls.spliced_nil ?_;obtain⟨o,es,ep,tt,g1,g2,g3,g4,g5,g6,g7,g8⟩:=mt;refine call_len_set (s:={ s1 with heap:=h',toks:=t' }) g1 g2 g3 g7 (by rw[g8];lia) ?_;rw[g8];refine⟨.int _,H1,I1.kept (t':=t'+1+1) sm,`o,q⟩
end
theorem CJ {ta:TA}{Z:St}{H:Hp}{Q:VK}:(tLenSet ta Z H Q)=(ta Z H λvs H1=>∃(l:Addr) (ss:List Str),vs=[.ref l]/\H1 l=some (.lst (ss.map V.str))/\ss.length<=1000/\Q (.int ((fstU ss).length:Nat)) H1):=rfl
end L2
namespace L2
open PySem PyProof.Rows PySem.Spec
section
variable {td ty tv:TE}{Z:St}{H:Hp}{Q:VK}{D:Ends}
end
end L2
namespace L2
open PySem
section
variable {K:`F}{p:Addr}{fv:St}{tt:TT}{te:TE}{Q:VK}{H1:Hp}
theorem CK {a:Addr}{xs:`V}(t:Nat->Bool)(g:Nat->V)(hxs:SqL K H1 a xs)(hlen:`x<=sizeLine)(hp:H1 p=none)
  (ht:∀(i:Nat) (x:V),xs[i]?=some x->∀(H':Hp) (R:Bool->Hp->Prop),Same H1 H'->(∀H'',Same H' H''->R (t i) H'')->tt (some x::fv) H' R)
  (he:∀(i:Nat) (x:V),xs[i]?=some x->t i=true->∀(H':Hp) (T:VK),Same H1 H'->(∀H'',Same H' H''->T (g i) H'')->te (some x::fv) H' T)
  (hQ:∀H',Same H1 H'->H' p=some (.lst (((List.range `x).filter t).map g))->Q (.ref p) H'):CompI (Itl K a) p fv tt te Q H1:=by
 refine⟨λi m ys H2=>m=`x - i/\i<=`x/\ys=((List.range i).filter t).map g/\H2 p=some (.lst ys)/\Same H1 H2,⟨`x,`s,Nat.zero_le _,`s,aB,λb o e=>by rw[aD (aG e hp)];exact e⟩,?_⟩;rintro i m ys H2 ⟨rfl,hi,rfl,dl,sm⟩;refine⟨dl,?_⟩;have q:=sm.seq hxs;by_cases mt:i < `x
 .refine .inr ⟨⟨xs,xs[i],q,by simp[mt]⟩,?_,λx H3 y=>?_⟩
  .rw[length_map];have:=length_filter_le t (List.range i);rw[length_range] at this;lia
  .obtain⟨rfl,y⟩:=y;have hc:=y xs q;refine ht i x hc _ _ sm λH4 s4=>?_;by_cases hf:t i=true
   .rw[if_pos hf];refine he i x hc hf _ _ (sm.trans s4) λH5 s5=>⟨(s4.trans s5) _ _ dl,`x - (i+1),`l,rfl,mt,?_,aB,λb o e=>?_⟩
    .rw[range_succ,filter_append,map_append];simp[hf]
    .rw[aD (aG e hp)];exact (s4.trans s5) _ _ (sm _ _ e)
   .rw[if_neg hf];refine⟨`x - (i+1),`l,rfl,mt,?_,s4 _ _ dl,sm.trans s4⟩;rw[range_succ,filter_append,map_append];simp[hf]
 .have e:i=`x:=by lia
  subst e;exact .inl ⟨⟨xs,q,Nat.le_refl _⟩,hQ H2 sm dl⟩
end
end L2
namespace Wm
open PySem L2
noncomputable abbrev Rw:=Tq×(List Pc×Bool)
noncomputable def mrR (a b:Rw):Bool:=moreM a.2.1 b.2.1
theorem oZ {α:Type}{mr:α->α->Bool}:∀(L:List α) (b e:α),mostM mr b (L++[e])=if mr e (mostM mr b L)=true then e else mostM mr b L
 |[],b,e=>rfl
 |x::L,b,e=>by show mostM mr _ (L++[e])=_;rw[oZ L];rfl
theorem fC {α:Type}{mr:α->α->Bool}:∀(L:List α) (b:α),mostM mr b L∈b::L
 |[],b=>mem_singleton.mpr rfl
 |x::L,b=>by
  have:=fC (mr:=mr) L (if mr x b=true then x else b);show mostM mr (if mr x b=true then x else b) L∈_;rcases mem_cons.mp this with h|h
  .rw[h];split <;> simp
  .exact mem_cons_of_mem _ (mem_cons_of_mem _ h)
def RwAt (H:Hp)(r:Rw)(v:V):Prop:=∃a p:Addr,v=.ref a/\H a=some (.tup [tV r.1,.ref p])/\PtAt H r.2.1 r.2.2 p
theorem RwAt.mono {H H':Hp}{r:Rw}{v:V}(s:SameT H H'):RwAt H r v->RwAt H' r v:=λ⟨a,p,e,h1,h2⟩=>⟨a,p,e,s _ _ h1,h2.mono s⟩
inductive TbV (H:Hp):List Rw->`V->Prop
 |nil:TbV H [] []
 |cons {r:Rw}{v:V}{rs:List Rw}{vs:`V}:RwAt H r v->TbV H rs vs->TbV H (r::rs) (v::vs)
theorem TbV.mono {H H':Hp}(s:SameT H H'){rs:List Rw}{vs:`V}(hh:TbV H rs vs):TbV H' rs vs:=by
 induction hh with
 |nil=>exact .nil
 |cons h t ih=>exact .cons (h.mono s) ih
theorem TbV.length {H:Hp}{rs:List Rw}{vs:`V}(hh:TbV H rs vs):vs.length=rs.length:=by
 induction hh with
 |nil=>exact rfl
 |cons h t ih=>rw[length_cons,length_cons,ih]
theorem TbV.get {H:Hp}{rs:List Rw}{vs:`V}(hh:TbV H rs vs){i:Nat}{v:V}(e:vs[i]?=some v):∃r,rs[i]?=some r/\RwAt H r v:=by
 induction hh generalizing i with
 |nil=>cases e
 |cons h _ ih=>
  cases i with
  |zero=>cases e;exact⟨_,rfl,h⟩
  |succ i=>exact ih e
theorem TbV.append {H:Hp}{ss:List Rw}{ws:`V}(h2:TbV H ss ws){rs:List Rw}{vs:`V}(hh:TbV H rs vs):TbV H (rs++ss) (vs++ws):=by
 induction hh with
 |nil=>exact h2
 |cons h t ih=>exact .cons h ih
theorem TbV.drop {H:Hp}{rs:List Rw}{vs:`V}(h:TbV H rs vs)(n:Nat):TbV H (rs.drop n) (vs.drop n):=by
 induction h generalizing n with
 |nil=>rw[drop_nil,drop_nil];exact .nil
 |cons h t ih=>cases n with
  |zero=>exact .cons h t
  |succ n=>exact ih n
theorem TbV.pick {H:Hp}{f:Rw->Bool}:∀{rs:List Rw}{vs:`V},TbV H rs vs->TbV H (rs.filter f) (((List.range vs.length).filter λi=>match rs[i]? with|some r=>f r|none=>false).map λi=>vs[i]?.getD .non):=by
 intro rs vs h;induction h with
 |nil=>exact .nil
 |@cons r v rs vs h t ih=>
  have e:(List.range (v::vs).length).filter (λi=>match (r::rs)[i]? with|some r=>f r|none=>false)=(if f r=true then [0] else [])++((List.range vs.length).filter λi=>match rs[i]? with|some r=>f r|none=>false).map (·+1):=by rw[length_cons,List.range_succ_eq_map,filter_cons,filter_map];simp only[List.getElem?_cons_zero];split <;> rename_i hh <;> simp[hh,Function.comp_def]
  rw[e,map_append,map_map,filter_cons];have tl:(((List.range vs.length).filter λi=>match rs[i]? with|some r=>f r|none=>false).map ((λi=>(v::vs)[i]?.getD .non) ∘ (·+1)))=(((List.range vs.length).filter λi=>match rs[i]? with|some r=>f r|none=>false).map λi=>vs[i]?.getD .non):=by apply map_congr_left;intro i _;simp
  rw[tl];split
  .exact .cons h ih
  .exact ih
noncomputable abbrev mkS (l:Tq):Str:=`A
theorem oa (t:Tq)(c i:Nat):(decide (i+(mkS [c]).length<=(mkS t).length) && Builtin.Str.subAt (mkS t) (mkS [c]) i)=decide (t[i]?=some c):=by
 by_cases hi:i<=`t
 .rw[iX t [c] i hi,decide_eq_decide];cases h:t.drop i with
  |nil=>have:t[i]?=none:=List.getElem?_eq_none (by have:=congrArg List.length h;rw[length_drop,length_nil] at this;lia);rw[this];simp
  |cons d r=>
   have:t[i]?=some d:=by rw[<- List.head?_drop,h];rfl
   rw[this];simp
 .rw[List.getElem?_eq_none `l,aE,aE,decide_eq_false (by rw[length_singleton];lia)];rfl
theorem j1 (t:Tq)(c:Nat):Builtin.Str.occurrences (mkS t) (mkS [c]) 0 (mkS t).length 1=((List.range' 0 (`t+1)).find? λi=>decide (t[i]?=some c)).toList:=by rw[StrLaws.occ_eq,occ1 _ _ _ _ (λi _=>Nat.zero_le i)];simp only[oa];rw[aE];rfl
theorem fD {t:Tq}{c:Nat}(h:c∉t):Txt.partition (mkS t) (mkS [c])=(mkS t,⟨#[]⟩,⟨#[]⟩):=by unfold Txt.partition;rw[j1,List.find?_eq_none.mpr λi _ z=>h (mem_of_getElem? (of_decide_eq_true z))];rfl
theorem c0 {a b:Tq}{c:Nat}(h:c∉a):Txt.partition (mkS (a++c::b)) (mkS [c])=(mkS a,mkS [c],mkS b):=by
 unfold Txt.partition;have e:(List.range' 0 ((a++c::b).length+1)).find? (λi=>decide ((a++c::b)[i]?=some c))=some a.length:=by
  rw[List.find?_range'_eq_some];refine⟨decide_eq_true `s,?_,λj _ hj=>?_⟩
  .rw[mem_range'_1];simp only[length_append,length_cons];lia
  .rw[decide_eq_false λz=>?_]
   .rfl
   .rw[List.getElem?_append_left hj] at z;exact h (mem_of_getElem? z)
 rw[j1,e];show (Builtin.Str.strSub (mkS (a++c::b)) 0 a.length,mkS [c],Builtin.Str.strSub (mkS (a++c::b)) (a.length+(mkS [c]).length) (mkS (a++c::b)).length)=_;rw[aE,aE];refine Prod.ext ?_ (Prod.ext rfl ?_)
 .show (⟨(a++c::b).toArray.extract 0 a.length⟩:Str)=_;simp
 .show (⟨(a++c::b).toArray.extract (a.length+1) (a++c::b).length⟩:Str)=_;simp;exact take_of_length_le `l
theorem og {K:`F}{H:Hp}:∀{ss:List Str}{xs:`V},IsKAll K H (ss.map PyData.str) xs->xs=ss.map V.str
 |[],_,.nil=>rfl
 |s::ss,_,.cons h r=>by cases h;rw[og r];rfl
theorem bb {K:`F}{H:Hp}{ss:List Str}{p:Addr}(h:IsK K H (.tuple (ss.map PyData.str)) (.ref p)):SqT K H p (ss.map V.str):=by
 cases h with
 |tup hp r=>rw[<- og r];exact hp
theorem ai (k:Str):∀ss:List Str,inV (.str k) (ss.map V.str)=decide (k∈ss)
 |[]=>rfl
 |s::ss=>by
  have ih:=ai k ss;have e:eqV (.str s) (.str k)=decide (k=s):=by show (s == k)=decide (k=s);rw[Bool.eq_iff_iff,beq_iff_eq,decide_eq_true_eq];exact⟨Eq.symm,Eq.symm⟩
  unfold inV at ih ⊢;rw[map_cons,any_cons,ih,e,Bool.eq_iff_iff,Bool.or_eq_true,decide_eq_true_eq,decide_eq_true_eq,decide_eq_true_eq,mem_cons]
theorem oh (sep:Nat):∀ys:List Tq,Str.join (mkS [sep]) (ys.map mkS)=mkS (joinT sep ys)
 |[]=>by rw[map_nil,Str.join.eq_1];rfl
 |[x]=>by rw[map_cons,map_nil,Str.join.eq_2];simp[joinT,tlT]
 |x::y::r=>by rw[map_cons,Str.join.eq_3 _ _ _ `s,oh sep (y::r),ah,ah];simp[joinT,tlT]
theorem fF (z:Str):mkS z.cps.toList=z:=by cases z;simp
theorem oi {c:Nat}{ts:List Tq}(hf:Free c ts)(h:ts≠[]):Txt.split (mkS (joinT c ts)) ⟨#[c]⟩=ts.map mkS:=by
 obtain⟨qs,hq⟩:∃qs:List Tq,qs=(Txt.split (mkS (joinT c ts)) ⟨#[c]⟩).map (λz=>z.cps.toList):=`o;have e:Txt.split (mkS (joinT c ts)) ⟨#[c]⟩=qs.map mkS:=by
  rw[hq,map_map]
  conv=>lhs;rw[<- map_id (Txt.split (mkS (joinT c ts)) ⟨#[c]⟩)]
  exact map_congr_left λz _=>(fF z).symm
 have hj:=StrLaws.join_split (mkS (joinT c ts)) ⟨#[c]⟩;rw[e] at hj;have dl:joinT c qs=joinT c ts:=aH.mp ((oh c qs).symm.trans hj);have mt:Free c qs:=λs hs d hd=>by rw[hq] at hs;obtain⟨z,hz,rfl⟩:=mem_map.mp hs;exact λy=>StrLaws.split_free _ c z hz (by rw[<- y];exact hd)
 have hn:qs≠[]:=λz=>by
  have hl:=PyProof.Rows.len_of_split (l:=(Txt.split (mkS (joinT c ts)) ⟨#[c]⟩).map λz=>(z,0)) (x:=mkS (joinT c ts)) (y:=⟨#[c]⟩) (by
   rw[map_map]
   conv=>rhs;rw[<- map_id (Txt.split (mkS (joinT c ts)) ⟨#[c]⟩)]
   rfl)
  rw[length_map,e,z] at hl;exact absurd hl `d
 rw[e,A4 mt hf hn h dl]
def NmOk (n:Tq):Prop:=(1<=n.length/\n.length<=8)/\n.all isSma=true
inductive PcW:Pc->Tq->Prop
 |step {s w:Tq}:WrT frS s w->s≠[]->PcW (.step s) w
 |part {h n t a b:Tq}:WrT frS h a->WrT frS t b->h++t≠[]->NmOk n->PcW (.part h n t) (a++123::(n++125::b))
 |gap {n:Tq}:NmOk n->PcW (.gap n) (123::(n++[125]))
 |num {n:Tq}:NmOk n->PcW (.num n) (123::(n++58::([110,117,109,98,101,114]++[125])))
 |word {n:Tq}:NmOk n->PcW (.word n) (123::(n++58::([119,111,114,100]++[125])))
 |rest {n:Tq}:NmOk n->PcW (.rest n) (123::(n++58::([114,101,115,116]++[125])))
theorem fG {n:Tq}(h:n.all isSma=true):∀c∈n,97<=c/\c<=122:=λc hc=>by have:=all_eq_true.mp h c hc;unfold isSma at this;simpa using this
theorem cx {s w:Tq}(h:WrT frS s w):∀c∈w,c≠47/\c≠123/\c≠125:=by
 have dl:∀c,(isPl c=true\/c∈frS)->c≠47/\c≠123/\c≠125:=λc hc=>by
  rcases hc with hc|hc
  .refine⟨λz=>?_,λz=>?_,λz=>?_⟩ <;> (rw[z] at hc;exact absurd hc `k)
  .refine⟨λz=>?_,λz=>?_,λz=>?_⟩ <;> (rw[z] at hc;exact absurd hc `k)
 induction h with
 |nil=>intro c hc;cases hc
 |self h1 h2 _ ih=>
  intro c hc;rcases mem_cons.mp hc with rfl|hc
  .exact dl c h1
  .exact ih c hc
 |pair h1 _ ih=>
  intro c hc;obtain⟨f1,f2,f3,_⟩:=iY h1;simp only[mem_cons] at hc;have fg:∀{a b d:Nat},sgO a b=some d->(a≠47/\a≠123/\a≠125)/\(b≠47/\b≠123/\b≠125):=λ{a b d} h=>by refine⟨⟨λz=>?_,λz=>?_,λz=>?_⟩,⟨λz=>?_,λz=>?_,λz=>?_⟩⟩ <;> (subst z;unfold sgO at h;simp[fig] at h)
  obtain⟨g1,g2⟩:=fg h1;rcases hc with rfl|rfl|rfl|hc
  .decide
  .exact g1
  .exact g2
  .exact ih c hc
noncomputable def kwN:List Str:=[ofString "number",ofString "word",ofString "gap",ofString "rest"]
noncomputable def restsL (cs:List Pc):Bool:=cs.dropLast.all λc=>!c.isRest
theorem CL:ofString "number" ≠ ofString "step"/\ofString "word" ≠ ofString "step"/\ofString "gap" ≠ ofString "step"/\ofString "rest" ≠ ofString "step"/\ofString "part" ≠ ofString "step"/\ofString "number" ≠ ofString "part"/\ofString "word" ≠ ofString "part"/\ofString "gap" ≠ ofString "part"/\ofString "rest" ≠ ofString "part"/\ofString "word" ≠ ofString "number"/\ofString "gap" ≠ ofString "number"/\ofString "rest" ≠ ofString "number"/\ofString "gap" ≠ ofString "word"/\ofString "rest" ≠ ofString "word"/\ofString "rest" ≠ ofString "gap" := by fail "k"
theorem fH {n:Nat}{ds:List PyData}:tupN (n:Int) (.tuple ds)=true↔ds.length=n:=by show decide ((ds.length:Int)=(n:Int))=true↔_;rw[decide_eq_true_iff];lia
theorem oj (xs:`V):cutV xs none (some (-1))=xs.dropLast:=mZ xs
theorem on {H:Hp}:∀{l:List Tq}{xs:`V},IsAll H (l.map st) xs->xs=l.map tV
 |[],_,.nil=>rfl
 |a::l,_,.cons h r=>by cases h;rw[on r];rfl
theorem j2 {H:Hp}{c:Pc}{x:V}(h:Is H (pcD c) x):∃p,x=.ref p/\H p=some (.tup c.vals):=by
 have dl:∀(k:Str) (l:List Tq),Is H (.tuple (.str k::l.map st)) x->∃p,x=.ref p/\H p=some (.tup (.str k::l.map tV)):=λk l h=>by
  cases h with
  |tup hp r=>
   cases r with
   |cons h1 r=>cases h1;have e:=on r;subst e;exact⟨_,rfl,hp⟩
 cases c with
 |step s=>exact dl _ [s] h
 |part a n t=>exact dl _ [a,n,t] h
 |num n=>exact dl _ [n] h
 |word n=>exact dl _ [n] h
 |gap n=>exact dl _ [n] h
 |rest n=>exact dl _ [n] h
theorem CM {l:List Tq}:(l.map mkS).Nodup↔l.Nodup:=by
 constructor
 .intro h;rw[List.nodup_iff_pairwise_ne] at h ⊢;rw[List.pairwise_map] at h;exact h.imp λa b=>a (congrArg mkS b)
 .intro h;rw[List.nodup_iff_pairwise_ne] at h ⊢;rw[List.pairwise_map];exact h.imp λa b=>a (aH.mp b)
noncomputable def pcT:Pc->Tq
 |.step s=>wr s
 |.part h n t=>wr h++123::(n++125::wr t)
 |.gap n=>123::(n++[125])
 |.num n=>123::(n++58::([110,117,109,98,101,114]++[125]))
 |.word n=>123::(n++58::([119,111,114,100]++[125]))
 |.rest n=>123::(n++58::([114,101,115,116]++[125]))
theorem CN {c:Pc}(ok:PcOk c)(hn:c.isStep=false->NmOk c.name):PcW c (pcT c):=by
 cases c with
 |step s=>exact .step (bS ok.2.2.1) (length_pos_iff.mp ok.1)
 |part h n t=>exact .part (bS ok.2.2.1) (bS ok.2.2.2.1) ok.2.2.2.2 (hn rfl)
 |gap n=>exact .gap (hn rfl)
 |num n=>exact .num (hn rfl)
 |word n=>exact .word (hn rfl)
 |rest n=>exact .rest (hn rfl)
inductive PcWs:List Pc->List Tq->Prop
 |nil:PcWs [] []
 |cons {c:Pc}{w:Tq}{cs:List Pc}{ws:List Tq}:PcW c w->PcWs cs ws->PcWs (c::cs) (w::ws)
theorem PcWs.length {cs:List Pc}{ws:List Tq}(h:PcWs cs ws):ws.length=cs.length:=by
 induction h with
 |nil=>rfl
 |cons _ _ ih=>rw[length_cons,length_cons,ih]
theorem PcWs.get {cs:List Pc}{ws:List Tq}(h:PcWs cs ws):∀{i:Nat}{w:Tq},ws[i]?=some w->∃c,cs[i]?=some c/\PcW c w:=by
 induction h with
 |nil=>intro i w h;simp at h
 |cons a r ih=>
  intro i w hw;cases i with
  |zero=>cases hw;exact⟨_,rfl,a⟩
  |succ i=>exact ih (by simpa using hw)
theorem j3 {s w:Tq}(h:WrT frS s w):und frS w=some s:=by
 induction h with
 |nil=>exact lY _
 |self h1 h2 _ ih=>rw[lc h2 (by rcases h1 with h|h;rw[h];rfl;rw[decide_eq_true h,Bool.or_true]),ih];rfl
 |pair h1 _ ih=>rw[lZ h1,ih];rfl
theorem j4 {s w:Tq}(h:WrT frS s w):∀c∈w,c < 128:=Bo `k h
theorem oo {c:Pc}{w:Tq}(h:PcW c w):w≠[]/\∀x∈w,x≠47:=by
 have nm:∀{n:Tq},NmOk n->∀x∈n,x≠47:=λ{n} hn x hx=>by have:=fG hn.2 x hx;lia
 cases h with
 |@step s w h hs=>refine⟨λz=>?_,λx hx=>(cx h x hx).1⟩;have:=eY h;rw[z,length_nil] at this;exact hs (length_eq_zero_iff.mp `l)
 |part h1 h2 h3 h4=>
  refine⟨`s,λx hx=>?_⟩;simp only[mem_append,mem_cons] at hx;rcases hx with hx|rfl|hx|rfl|hx
  .exact (cx h1 x hx).1
  .decide
  .exact nm h4 x hx
  .decide
  .exact (cx h2 x hx).1
 |gap h1=>
  refine⟨`s,λx hx=>?_⟩;simp only[mem_append,mem_cons,not_mem_nil,or_false] at hx;rcases hx with rfl|hx|rfl
  .decide
  .exact nm h1 x hx
  .decide
 |num h1=>
  refine⟨`s,λx hx=>?_⟩;simp only[mem_append,mem_cons,not_mem_nil,or_false] at hx;rcases hx with rfl|hx|hx
  .decide
  .exact nm h1 x hx
  .lia
 |word h1=>
  refine⟨`s,λx hx=>?_⟩;simp only[mem_append,mem_cons,not_mem_nil,or_false] at hx;rcases hx with rfl|hx|hx
  .decide
  .exact nm h1 x hx
  .lia
 |rest h1=>
  refine⟨`s,λx hx=>?_⟩;simp only[mem_append,mem_cons,not_mem_nil,or_false] at hx;rcases hx with rfl|hx|hx
  .decide
  .exact nm h1 x hx
  .lia
theorem CO {cs:List Pc}{ws:List Tq}{e:Bool}(h:PcWs cs ws)(h0:cs=[]->e=true):slT true ws e=47::joinT 47 (ws++if e then [[]] else [])/\Free 47 (ws++if e then [[]] else [])/\(ws++if e then [[]] else [])≠[]:=by
 have hl:=h.length;refine⟨?_,λs hs c hc=>?_,?_⟩
 .unfold slT;cases ws with
  |nil=>rw[length_nil] at hl;rw[h0 (length_eq_zero_iff.mp hl.symm)];rfl
  |cons w ws=>
   cases e with
   |false=>simp
   |true=>have e:=A5 47 [] (show w::ws≠[] by simp);simp;rw[show w::(ws++[[]])=(w::ws)++[[]] from rfl,e]
 .rcases mem_append.mp hs with z|z
  .obtain⟨i,hi,ei⟩:=List.getElem_of_mem z;obtain⟨d,_,hd⟩:=h.get (List.getElem?_eq_some_iff.mpr ⟨hi,ei⟩);exact (oo hd).2 c hc
  .cases e with
   |false=>cases z
   |true=>rw[mem_singleton.mp z] at hc;cases hc
 .cases ws with
  |nil=>rw[length_nil] at hl;rw[h0 (length_eq_zero_iff.mp hl.symm)];simp
  |cons w ws=>simp
noncomputable def kwW:List Str:=[ofString "number",ofString "word",ofString "rest"]
theorem j5 {t:Tq}(h:`t<=100000):smallD (st t)=true:=by show decide ((mkS t).length<=100000)=true;rw[aE];exact decide_eq_true h
theorem bB (sep n:Nat):∀{ws:List Tq},(∀w∈ws,w.length<=n)->(joinT sep ws).length<=ws.length * (n+1)/\(ws.map (·.length)).sum<=ws.length * n
 |[],_=>⟨by simp[joinT],`s⟩
 |w::ws,h=>by
  have tl:∀{ws:List Tq},(∀w∈ws,w.length<=n)->(tlT sep ws).length<=ws.length * (n+1)/\(ws.map (·.length)).sum<=ws.length * n:=λ{ws}=>by
   induction ws with
   |nil=>exact λ_=>⟨by simp[tlT],`s⟩
   |cons a r ih=>intro h;obtain⟨i1,i2⟩:=ih λw hw=>h w (mem_cons_of_mem _ hw);have:=h a `f;simp only[tlT,length_cons,length_append,map_cons,sum_cons,Nat.add_mul,Nat.one_mul];exact⟨`l,`l⟩
  obtain⟨i1,i2⟩:=tl λw hw=>h w (mem_cons_of_mem _ hw);have:=h w `f;simp only[joinT,length_cons,length_append,map_cons,sum_cons,Nat.add_mul,Nat.one_mul];exact⟨`l,`l⟩
theorem cy {c:Pc}(ok:PcOk c)(hn:c.isStep=false->NmOk c.name):(pcT c).length<=700:=by
 cases c with
 |step s=>have:=ok.2.1;have:=au s;show (wr s).length<=700;lia
 |part h n t=>obtain⟨o1,o2,_⟩:=ok;have l3:n.length<=8:=(hn rfl).1.2;have l1:=au h;have l2:=au t;simp only[pcT,length_append,length_cons];lia
 |gap n=>have l3:n.length<=8:=(hn rfl).1.2;simp only[pcT,length_append,length_cons,length_nil];lia
 |num n=>have l3:n.length<=8:=(hn rfl).1.2;simp only[pcT,length_append,length_cons,length_nil];lia
 |word n=>have l3:n.length<=8:=(hn rfl).1.2;simp only[pcT,length_append,length_cons,length_nil];lia
 |rest n=>have l3:n.length<=8:=(hn rfl).1.2;simp only[pcT,length_append,length_cons,length_nil];lia
theorem j6 {H:Hp}:∀{ds:List PyData}{xs:`V},IsTAll H ds xs->`x=ds.length/\∀(i:Nat) (x:V),xs[i]?=some x->∃d,ds[i]?=some d/\IsT H d x
 |_,_,.nil=>⟨rfl,λi x h=>by simp at h⟩
 |_,_,.cons q t=>by
  obtain⟨h1,h2⟩:=j6 t;refine⟨by rw[length_cons,length_cons,h1],λi x h=>?_⟩;cases i with
  |zero=>simp at h;subst h;exact⟨_,rfl,q⟩
  |succ i=>obtain⟨d,e1,e2⟩:=h2 i x (by simpa using h);exact⟨d,by simpa using e1,e2⟩
theorem oq:∀{cs:List Pc},(∀c∈cs,PcW c (pcT c))->PcWs cs (cs.map pcT)
 |[],_=>.nil
 |c::cs,h=>.cons (h c `f) (oq λd hd=>h d (mem_cons_of_mem _ hd))
theorem j7 {K:`F}{H:Hp}:∀{cs:List Pc}{xs:`V},IsTAll H (cs.map pcD) xs->PcAll K H cs xs
 |[],_,.nil=>.nil
 |c::cs,_,.cons h t=>by obtain⟨p,rfl,hp⟩:=j2 h.is;exact .cons (.of hp) (j7 t)
def PtG (cs:List Pc)(e:Bool):Prop:=PatOk cs/\(∀c∈cs,c.isStep=false->NmOk c.name)/\(gapsM cs).Nodup/\cs.length<=12/\(cs=[]->e=true)
noncomputable abbrev ptD (cs:List Pc)(e:Bool):PyData:=.tuple [.tuple (cs.map pcD),.bool e]
theorem CP {cs:List Pc}(h:PatOk cs):restsL cs=true:=all_eq_true.mpr λc hc=>by
 obtain⟨i,hi,ei⟩:=List.getElem_of_mem hc;rw[length_dropLast] at hi;rw[List.getElem_dropLast] at ei;cases er:c.isRest with
 |false=>rfl
 |true=>have:=h.2 i c (List.getElem?_eq_some_iff.mpr ⟨`l,ei⟩) er;lia
theorem CQ (c:Pc):(∃s,c=.step s)\/(∃h n t,c=.part h n t)\/c.isStep=false/\c.isPart=false/\c.tl=[tV c.name]/\c.kw∈kwN:=by
 cases c with
 |step s=>exact .inl ⟨s,rfl⟩
 |part h n t=>exact .inr (.inl ⟨h,n,t,rfl⟩)
 |_ n=>exact .inr (.inr ⟨rfl,rfl,rfl,by unfold kwN;simp[Pc.kw]⟩)
inductive GpW:Pc->Tq->Tq->Tq->Prop
 |part {h n t a b:Tq}:WrT frS h a->WrT frS t b->h++t≠[]->GpW (.part h n t) a n b
 |gap {n:Tq}:58∉n->GpW (.gap n) [] n []
 |kw {c:Pc}{n k:Tq}:58∉n->c.kw=mkS k->c.kw∈kwW->pcD c=.tuple [.str c.kw,st n]->GpW c [] (n++58::k) []
theorem CS {c:Pc}{w:Tq}(h:PcW c w):(∃s,c=.step s/\WrT frS s w)\/∃a i b,w=a++123::(i++125::b)/\123∉a/\125∉i/\GpW c a i b:=by
 have nm:∀{n:Tq},NmOk n->125∉n/\58∉n:=λ{n} hn=>⟨λz=>by have:=fG hn.2 _ z;lia,λz=>by have:=fG hn.2 _ z;lia⟩;have kw:∀(c:Pc) (k n:Tq),NmOk n->125∉k->c.kw=mkS k->c.kw∈kwW->pcD c=.tuple [.str c.kw,st n]->∃a i b,123::(n++58::(k++[125]))=a++123::(i++125::b)/\123∉a/\125∉i/\GpW c a i b:=λc k n hn hk e1 e2 e3=>
  ⟨[],n++58::k,[],`s,`s,by simp;exact⟨(nm hn).1,hk⟩,.kw (nm hn).2 e1 e2 e3⟩
 cases h with
 |step h1 h2=>exact .inl ⟨_,rfl,h1⟩
 |part h1 h2 h3 h4=>exact .inr ⟨_,_,_,rfl,λz=>(cx h1 _ z).2.1 rfl,(nm h4).1,.part h1 h2 h3⟩
 |@gap n h1=>exact .inr ⟨[],n,[],rfl,`s,(nm h1).1,.gap (nm h1).2⟩
 |num h1=>exact .inr (kw _ _ _ h1 `d (show ofString "number"=_ by fail "k") (by unfold kwW;simp[Pc.kw]) rfl)
 |word h1=>exact .inr (kw _ _ _ h1 `d (show ofString "word"=_ by fail "k") (by unfold kwW;simp[Pc.kw]) rfl)
 |rest h1=>exact .inr (kw _ _ _ h1 `d (show ofString "rest"=_ by fail "k") (by unfold kwW;simp[Pc.kw]) rfl)
end Wm
namespace L2
open PySem Wm
theorem CT {K:`F}{p a:Addr}{fv:St}{te:TE}{Q:VK}{H1:Hp}{xs:`V}{α:Type}{g:α->PyData}{l:List α}(hxs:SqL K H1 a xs)(hlen:`x<=sizeLine)(hp:H1 p=none)(hl:`L=`x)
  (he:∀(i:Nat) (x:V) (c:α),xs[i]?=some x->l[i]?=some c->∀(H':Hp) (T:VK),Same H1 H'->(∀y H'',Same H' H''->IsT H'' (g c) y->T y H'')->te (some x::fv) H' T)
  (hQ:∀ys H',Same H1 H'->IsTAll H' (l.map g) ys->H' p=some (.lst ys)->Q (.ref p) H'):CompI (Itl K a) p fv tYes te Q H1:=by
 refine⟨λi m ys H2=>m=`x - i/\i<=`x/\IsTAll H2 ((l.take i).map g) ys/\H2 p=some (.lst ys)/\Same H1 H2,⟨`x,`s,Nat.zero_le _,by rw[take_zero];exact .nil,aB,aM hp⟩,?_⟩;rintro i m ys H2 ⟨rfl,hi,dl,mt,sm⟩;refine⟨mt,?_⟩;have q:=sm.seq hxs;have Cl:=dl.length;rw[length_map,length_take] at Cl;by_cases BT:i < `x
 .refine .inr ⟨⟨xs,xs[i],q,by simp[BT]⟩,`l,λx H3 y=>?_⟩;obtain⟨rfl,y⟩:=y;have hc:=y xs q;have hd:l[i]?=some (l[i]'(hl▸BT)):=List.getElem?_eq_getElem _;unfold tYes;dsimp only;rw[if_pos rfl];refine he i x _ hc hd _ _ sm λy H5 s5 hr=>⟨s5 _ _ mt,`x - (i+1),`l,rfl,BT,?_,aB,bv hp (sm.trans s5)⟩;rw[take_add_one,hd,map_append];exact ((dl.mono s5.toT).snoc hr).mono (dz (s5 _ _ mt))
 .have e:i=`x:=by lia
  subst e;rw[<- hl,take_length] at dl;exact .inl ⟨⟨xs,q,Nat.le_refl _⟩,hQ ys H2 sm dl mt⟩
theorem CU {c A X R:Prop}[Decidable c](hA:A->X)(h1:c->A)(h2:¬ c->(A->X)->R):if c then X else R:=ite2 (λz=>hA (h1 z)) (λz=>h2 z hA)
end L2
namespace L2
open PySem PySem.Spec PyProof.Rows
structure Fd (K:`F)(mg:Str->Option Value)(x:Str)(s:Stmt)(ps:List Str) where
 a:Addr
 fd:FuncData
 F:Fun K x x s a fd
 m:mg x=some (.ref a)
 b:Binds K fd ps []
noncomputable def CV {K:`F}{h:Heap}{mg:Str->Option Value}{x:Str}{s:Stmt}{ps:List Str}{f:Addr}{oc:Value}{od an:Option Addr}{osl:Array (Option Value)}{kV doc pm cdv ct:Value}(X:K.In h)(Gl:h.Ns mainGlobals mg)
  (a:PySem.W.nsIn K mainGlobals x=some (some (.ref f))) (l:K.lookup f=some ⟨oc,od,.func (PySem.W.fnOf x x (defArgs s) (defBody s) (defScope s) .none kV doc pm an cdv ct),osl⟩) (c:PySem.W.codeIn K cdv x=true) (k:PySem.W.keepIn K (.ref f)=true)
  (hb:∀(kV doc pm:Value) (an:Option Addr) (cdv ct:Value) (us:List Value),us.length=ps.length->bindArgs (PySem.W.fnOf x x (defArgs s) (defBody s) (defScope s) .none kV doc pm an cdv ct) ⟨us,[]⟩=pure (ps.zip us)):Fd K mg x s ps:=
 ⟨f,_,aq l c k,PySem.W.mg_of X Gl a,(aq l c k).binds hb⟩
abbrev Fd.Ok {K:`F}{mg:Str->Option Value}{x:Str}{s:Stmt}{ps:List Str}(f:Fd K mg x s ps)(P:Program)(w:World)(base:Heap)(k:Nat)(sp:Sp):Prop:=FnOk P w K mg base CX0 k f.a f.fd ps sp
theorem aV {X:Cx}{k k':Nat}{sp:Sp}{x:Str}{st:Stmt}{ps:List Str}{e:Expr}{es:List Expr}{t:TA}{p pos:Pos}(f:Fd X.K X.mg x st ps)(F:FnOk X.prog X.w X.K X.mg X.base CX0 k f.a f.fd ps sp)(hr:Room k' X.A)(hg:Gl X x)
  (ha:PA X (e::es) t) (hk:k<=k':=by decide) (hdb:(x == ("__debug__" : Str))=false:=by decide) (he:starEach (e::es) X.env=(false,eval e X.env)::starEach es X.env:=by rfl) (hpl:(backTo pos (starEach es X.env)).any (·.1)=false:=by rfl) :
  PE X (.Call (.Name x p) (e::es) [] pos) (tCall sp [] E0 t):=bY F (hr.mono hk) hg f.m f.F.kp f.b .nil pass0 ha hdb he hpl
structure CpOk (X:Cx)(xs fx:List Str)(fr:Tq)(scope:Scope)(cl:List (Str×Addr))(iter:Expr):Prop where
 hc:X.calm=true
 hclos:closureFor scope X.env=pure cl
 hcell:∀y∈scope.names,y.2≠.cell
 hkind:scope.kind=.function
 hnames:∀y∈scope.names,y.2=.local->scope.names.lookup y.1=some .local
 hx:∀x∈xs,scope.names.lookup x=some .local
 hnd:(xs++fx).Nodup
 hk:(cl.all λq=>fx.contains q.1)=true
 F:Frees X (relabel scope X.env) cl fx fr
 hfx:((relabel scope X.env).names.all λp=>if (p.2 == .cell || p.2 == .free) then fx.contains p.1 else true)=true
 hs:∀x,foldedSetIterable iter X.env x=pure x
section
variable {X:Cx}{pins:`O}{Z:St}{H1:Hp}{s3:Shared}{xs fx:List Str}{fr:Tq}{scope:Scope}{cl:List (Str×Addr)}{fp:List Addr}{iter:Expr}
theorem CpOk.clo (c:CpOk X xs fx fr scope cl iter){y:Str}{a:Addr}(e:cl.lookup y=some a):X.env.cells.lookup y=some a:=by have q:=all_eq_true.mp c.hk _ (PySem.mem_of_lookup e);rw[<- (c.F.mem y (by simpa using q)).2];exact e
theorem CW (c:CpOk X xs fx fr scope cl iter)(I:Inv X pins Z H1 s3)(ffp:∀b∈fp,FpOk X pins H1 b)(flt:∀b∈fp,b < s3.heap.objs.size):(compCx X (xs++fx) scope cl s3 H1 fp).Ok where
 mod:=I.ok.mod
 kind:=c.hkind
 glob:=I.ok.glob
 blt:=I.ok.blt
 above:=Nat.le_refl _
 inj:=λy z a h1 h2=>I.ok.inj y z a (c.clo h1) (c.clo h2)
 has:=λy h=>by
  have h:(relabel scope X.env).names.lookup y=some .cell\/(relabel scope X.env).names.lookup y=some .free:=h;have key:y∈fx:=by rcases h with h|h <;> have q:=all_eq_true.mp c.hfx _ (PySem.mem_of_lookup h) <;> simpa using q
  obtain⟨k1,k2⟩:=c.F.mem y key;obtain⟨a,e⟩:=I.ok.has y (.inl k1);exact⟨a,k2.trans e⟩
 cab:=λy c h=>by cases (show false=true from h)
 hd:=I.ok.hd
 frames:=I.ok.frames
 stk:=.inl rfl
 exf:=λb hb=>⟨Nat.ne_of_lt (flt b hb),λy a e=>(ffp b hb).2.2.2.2.1 y a (c.clo e)⟩
 bs:=I.bs
 bsz:=Nat.le_trans I.ok.bsz I.sz
 noex:=λb o e hb=>by
  rcases (ffp b hb).2.2.2.1 with z|z
  .exact I.ok.noex b o e z
  .exact absurd (Nat.lt_of_lt_of_le (Heap.lt_size (I.ok.bs b o e).1) z) (Nat.lt_irrefl _)
 exfs:=λb hb z=>by
  rcases mem_cons.mp (I.stkSub b z) with q|q
  .exact (ffp b hb).2.1 q
  .exact (ffp b hb).2.2.1 q
 funs:=I.stack
 frf:=I.stkFree
theorem CY (c:CpOk X xs fx fr scope cl iter)(I:Inv X pins Z H1 s3)(ffp:∀b∈fp,FpOk X pins H1 b)(flt:∀b∈fp,b < s3.heap.objs.size){h1:Heap}{t:Nat}{m:Str->Option Value}(hn:h1.Ns s3.heap.objs.size m)
  (keep:∀b u,s3.heap.get? b=some u->h1.get? b=some u):Inv (compCx X (xs++fx) scope cl s3 H1 fp) [] (xs.map (λ_=>none)++frV Z fr) H1 {s3 with heap:=h1,toks:=t}:=by
 refine⟨CW c I ffp flt,rfl,I.bare,Un.kept keep,⟨m,hn,λi y v e1 e2 e3=>?_⟩,λy a e=>?_,I.hok.fresh `n,λy a e=>I.freeC y a (c.clo e),λp hp=>absurd (show p∈([]:`O) from hp) `s,I.hok.kept keep,?_⟩
 .by_cases hi:i < `x
  .rw[List.getElem?_append_left (by simpa using hi)] at e2;simp[List.getElem?_map] at e2
  .have e1:(xs++fx)[i]?=some y:=e1;rw[List.getElem?_append_right `l] at e1;rw[List.getElem?_append_right (by simp;lia),length_map] at e2;obtain⟨i0,k1,k2,k3,k4,k5⟩:=c.F.at (Z:=Z) _ y v e1 e2;obtain⟨m0,mt,dl⟩:=I.loc;obtain⟨u,r,l⟩:=dl i0 y v k1 k2 (.inr (.inl k3));refine⟨u,r,?_⟩;rcases l with⟨z,_⟩|⟨_,a,e,o,ho,hd⟩
   .rw[k3] at z;cases z
   .exact .inr ⟨.inl k4,a,k5.trans e,o,keep a o ho,hd⟩
 .obtain⟨v,o,ho,hd⟩:=I.cell y a (c.clo e);exact⟨v,o,keep a o ho,hd⟩
 .show (xs.map (λ_=>none)++frV Z fr).length=(xs++fx).length;simp[frV,c.F.len]
end
def CompG (J:It)(p:Addr)(g:TG)(k:Nat)(fv:St)(tt:TT)(te:TE)(Q:VK)(H1:Hp):Prop:=
 ∃W:Nat->Nat->`V->Hp->Prop,(∃m,W 0 m [] (upd H1 p (.lst [])))/\∀i m ys H2,W i m ys H2->H2 p=some (.lst ys)/\
  ((J.stop i H2/\Q (.ref p) H2)\/(J.go i H2/\ys.length < sizeLine/\∀z H3,J.yld i H2 z H3->∀os:St,os.length=k->g z (os++fv) H3 λZ' H'=>∃os':St,os'.length=k/\Z'=os'++fv/\tt Z' H' λb H4=>
   if b=true then te Z' H4 λy H5=>H5 p=some (.lst ys)/\∃m',m' < m/\W (i+1) m' (ys++[y]) (upd H5 p (.lst (ys++[y])))
   else ∃m',m' < m/\W (i+1) m' ys H4))
section
variable {C:It->Addr->St->TT->TE->VK->Hp->Prop}{X:Cx}{tg elt iter:Expr}{pos:Pos}{ifs:List Expr}{scope:Scope}{cl:List (Str×Addr)}{xs fx:List Str}{fr:Tq}{wi:TI}{tt:TT}{te:TE}{g:TG}
theorem CZ {pins:`O}{Z:St}{H3:Hp}{s3:Shared}{it p:Addr}{fp:List Addr}{tn:Nat->Heap->Prop}{J:It}{Q:VK}{W:Nat->Nat->`V->Hp->Prop}{m0 t:Nat}{h₁:Heap}{m:Str->Option Value}{RR:Result->Shared->Prop}
  (c:CpOk X xs fx fr scope cl iter) (hg:∀s H fp,PG (compCx X (xs++fx) scope cl s H fp) tg g) (ht:∀s H fp,PF (compCx X (xs++fx) scope cl s H fp) ifs tt) (he:∀s H fp,PE (compCx X (xs++fx) scope cl s H fp) elt te)
  (I3:Inv X pins Z H3 s3) (T:Turn X.prog X.w X.K tg J fp it tn) (st3:tn 0 s3.heap) (ffp:∀b∈fp,FpOk X pins H3 b) (flt3:∀b∈fp,b < s3.heap.objs.size)
  (w0:W 0 m0 [] H3) (turn:∀i m ys H2,W i m ys H2->H2 p=some (.lst ys)/\
   ((J.stop i H2/\Q (.ref p) H2)\/(J.go i H2/\ys.length < sizeLine/\∀z H3,J.yld i H2 z H3->∀os:St,os.length=`x->g z (os++frV Z fr) H3 λZ' H'=>∃os':St,os'.length=`x/\Z'=os'++frV Z fr/\tt Z' H' λb H4=>
    if b=true then te Z' H4 λy H5=>H5 p=some (.lst ys)/\∃m',m' < m/\W (i+1) m' (ys++[y]) (upd H5 p (.lst (ys++[y])))
    else ∃m',m' < m/\W (i+1) m' ys H4)))
  (hns:h₁.Ns s3.heap.objs.size m) (keep1:∀b u,s3.heap.get? b=some u->h₁.get? b=some u)
  (fin:∀s6 H5 Z',Inv (compCx X (xs++fx) scope cl s3 H3 fp) [] Z' H5 s6->Q (.ref p) H5->RR (.ok .next) s6) :
  codeAny `m X.A (.compStart (.ListComp elt [⟨tg,iter,ifs,0⟩] scope pos) 0 (.ref it) (.ref p) (compEnvC scope cl s3.heap.objs.size X.env)) RR {s3 with heap:=h₁,toks:=t}:=by
 have I4:=CY (t:=t) c I3 ffp flt3 hns keep1;have Gd:tn 0 h₁:=T.keep _ _ _ st3 λb hb o e=>keep1 b o e;have Gn:∀b∈fp,H3 b=none:=λb hb=>(ffp b hb).1;have Cl:(compCx X (xs++fx) scope cl s3 H3 fp).calm=true:=c.hc;have mt:∀{H':Hp},(∀b∈fp,H' b=none)->∀b∈fp,FpOk (compCx X (xs++fx) scope cl s3 H3 fp) [] H' b:=λ{H'} hn b hb=>by obtain⟨f0,f1,f2,f3,f4,f5⟩:=ffp b hb;exact⟨hn b hb,Nat.ne_of_lt (flt3 b hb),I4.ok.exfs b hb,.inl hb,λy a e=>f4 y a (c.clo e),λq hq=>absurd (show q∈([]:`O) from hq) `s⟩
 have BT:codeAny `m X.A (.compLoop (.ListComp elt [⟨tg,iter,ifs,0⟩] scope pos) 0 (.ref it) (.ref p) (compEnvC scope cl s3.heap.objs.size X.env)) RR {s3 with heap:=h₁,toks:=t}:=by
  refine y9 (λn s'=>∃i ys H' os,os.length=`x/\Inv (compCx X (xs++fx) scope cl s3 H3 fp) [] (os++frV Z fr) H' s'/\tn i s'.heap/\(∀b∈fp,H' b=none)/\W i n ys H') ?_ m0 ⟨0,[],_,_,length_map _,I4,Gd,Gn,w0⟩;rintro n s5 ⟨i,ys,H5,os,ho,I5,Gc,Gf,w5⟩;obtain⟨Gr,Gp⟩:=turn i n ys H5 w5;rcases Gp with⟨stop,qn⟩|⟨go,Gb,step⟩
  .refine thn (T.done (compCx X (xs++fx) scope cl s3 H3 fp) rfl rfl rfl Cl i [] s5 _ H5 _ I5 (mt Gf) Gc stop) λr s6 W'=>?_;obtain⟨hr,I6⟩:=W';subst hr;exact fin s6 H5 _ I6 qn
  .refine thn (T.item (compCx X (xs++fx) scope cl s3 H3 fp) rfl rfl rfl Cl i [] s5 _ H5 _ I5 (mt Gf) Gc go) λr s6 W'=>?_;obtain⟨u,hr,h6⟩:=W';subst hr;refine thn h6 λ_ s7 W'=>?_;obtain⟨y7,H7,I7,r7,Gg,Fr,Gm⟩:=W';have I7':=I7.pinned (mt Gm) (T.obj _ _ Fr);have dl:∀{Z':St}{H':Hp}{s':Shared},Inv (compCx X (xs++fx) scope cl s3 H3 fp) ([]++pinsAt fp s7.heap) Z' H' s'->tn (i+1) s'.heap/\∀b∈fp,H' b=none:=λ{Z' H' s'} I'=>by
    refine⟨T.keep _ _ _ Fr λb hb o e=>(I'.pin (b,o) (mem_append_right _ (mem_append_right _ (dq hb e)))).1,λb hb=>?_⟩;obtain⟨o,e,d⟩:=T.obj _ _ Fr b hb;exact (I'.pin (b,o) (mem_append_right _ (mem_append_right _ (dq hb e)))).2.1
   refine thn (hg s3 H3 fp _ s7 _ H7 y7 u _ I7' r7 (step y7 _ Gg os ho)) λ_ s8 W'=>?_;obtain⟨Z8,H8,I8,os',Ge,e8,q8⟩:=W';subst e8;refine thn (ht s3 H3 fp _ s8 _ _ _ I8 q8) λb s9 W'=>?_;obtain⟨H9,I9,q9⟩:=W';cases b with
   |false=>rw[if_neg Bool.false_ne_true] at q9 ⊢;obtain⟨m',hm,w9⟩:=q9;exact⟨m',hm,i+1,ys,H9,os',Ge,I9.unpinned,(dl I9).1,(dl I9).2,w9⟩
   |true=>rw[if_pos rfl] at q9 ⊢;refine thn (he s3 H3 fp _ s9 _ H9 _ I9 q9) λGi Gj W'=>?_;obtain⟨Fn,H10,I10,Gk,Ga,m',hm,Gh⟩:=W';refine thn (dv _ Gj _ H10 (.ref p) [Fn] (.ref p) [Gi] (λ_ H'=>H'=upd H10 p (.lst (ys++[Fn]))) I10 rfl (.cons Gk .nil) ⟨p,ys,Fn,rfl,rfl,Ga,Gb,rfl⟩) λ_ Gq W'=>?_;obtain⟨_,H11,I11,_,Go⟩:=W';subst Go;exact⟨m',hm,i+1,ys++[Fn],_,os',Ge,I11.unpinned,(dl I11).1,(dl I11).2,Gh⟩
 exact codeAny_compStart_list BT (T.self _ 0 _ _ _ Gd BT)
theorem ow {use:Option (Value->Sem Unit)}{pins:`O}{Z:St}{H:Hp}{s:Shared}{Q:VK}{R:`T}{q:Pos}
  (c:CpOk X xs fx fr scope cl iter) (hi:PI X tg iter wi) (hg:∀s H fp,PG (compCx X (xs++fx) scope cl s H fp) tg g) (ht:∀s H fp,PF (compCx X (xs++fx) scope cl s H fp) ifs tt) (he:∀s H fp,PE (compCx X (xs++fx) scope cl s H fp) elt te)
  (hC:∀{J p fv Q H1},C J p fv tt te Q H1->CompG J p g `x fv tt te Q H1) (I:Inv X pins Z H s) (h:wi Z H λJ H1=>∀p,H1 p=none->C J p (frV Z fr) tt te Q H1)
  (fin:∀(p:Addr) (s3:Shared) (H3:Hp) (fp:List Addr) (s6:Shared) (H5:Hp) (Z':St),Inv X pins Z H3 s3->(∀b∈fp,FpOk X pins H3 b)->Inv (compCx X (xs++fx) scope cl s3 H3 fp) [] Z' H5 s6->Q (.ref p) H5 ->
   compPost `m X.A X.xe use R (.ref p) s3.heap.objs.size (.ok .next) s6) :
  wpAny `m X.A (comprehension (.ListComp elt [⟨tg,iter,ifs,0⟩] scope pos) scope X.env q (newList []) false (eval iter X.env) use) R X.xe s:=by
 refine wpAny_comprehension_free rfl c.hs c.hclos c.hkind c.hnames ?_;refine thn (hi pins s Z H _ I h) λv s1 h1=>thn h1 λGe s2 h2=>?_;obtain⟨it,fp,tn,J,H2,e,I2,T,Ga,f2,q2⟩:=h2;subst e;obtain⟨W,⟨m0,w0⟩,Fn⟩:=hC (q2 _ (I2.hok.fresh `n));have flt:∀b∈fp,b < s2.heap.objs.size:=λb hb=>by obtain⟨o,e,_⟩:=T.obj _ _ Ga b hb;exact Heap.lt_size e
 refine wpAny_newObj_type (wpAny_newFunctionEnv c.hcell (by intro y hy;simp at hy) (λh₁ mt dl=>?_) c.hkind);dsimp only at mt dl ⊢;obtain⟨HH,Cl⟩:∃HH,HH=s2.heap.push {cls:=.type "list",dict:=none,data:=.seq ([]:List Value).toArray}:=`o;have BT:∀b u,s2.heap.get? b=some u->HH.get? b=some u:=λb u e=>Cl▸Heap.get?_push_of_some _ e;have Fr:HH.get? s2.heap.objs.size=some {cls:=.type "list",dict:=none,data:=.seq ([]:List Value).toArray}:=Cl▸Heap.get?_push_size _ rfl;have Gc:HH.objs.size=s2.heap.objs.size+1:=Cl▸Heap.size_push _ _;rw[<- Cl] at mt dl ⊢;have I3:Inv X pins Z (upd H2 s2.heap.objs.size (.lst [])) {s2 with heap:=HH,toks:=s2.toks}:=
  I2.laid (t':=s2.toks) (o:=.lst []) BT `n ⟨Nat.zero_le _,[],0,.nil,Fr⟩
 have Gb:∀b∈fp,FpOk X pins (upd H2 s2.heap.objs.size (.lst [])) b:=λb hb=>by obtain⟨f0,Gd⟩:=f2 b hb;exact⟨by rw[aD (Nat.ne_of_lt (flt b hb))];exact f0,Gd⟩
 exact CZ (s3:={ s2 with heap:=HH,toks:=s2.toks}) c hg ht he I3 T (T.keep _ _ _ Ga λb hb o e=>BT b o e) Gb (λb hb=>by show b < HH.objs.size;rw[Gc];exact Nat.lt_succ_of_lt (flt b hb)) w0 Fn mt
  (λb u e=>dl.extBut b u (Nat.ne_of_lt (Heap.lt_size e)) (Heap.get?_push_of_some _ e)) λs6 H5 Z' I6 qn=>fin _ _ _ fp s6 H5 Z' I3 Gb I6 qn
theorem oy (c:CpOk X xs fx fr scope cl iter)(hi:PI X tg iter wi)(hg:∀s H fp,PG (compCx X (xs++fx) scope cl s H fp) tg g)(ht:∀s H fp,PF (compCx X (xs++fx) scope cl s H fp) ifs tt)(he:∀s H fp,PE (compCx X (xs++fx) scope cl s H fp) elt te)
  (hC:∀{J p fv Q H1},C J p fv tt te Q H1->CompG J p g `x fv tt te Q H1) :
  PE X (.ListComp elt [⟨tg,iter,ifs,0⟩] scope pos) λZ H Q=>wi Z H λJ H1=>∀p,H1 p=none->C J p (frV Z fr) tt te Q H1:=by
 intro pins s Z H Q I h;rw[eval_ListComp];exact ow c hi hg ht he hC I h λp s3 H3 fp s6 H5 Z' I3 ffp I6 qn=>by obtain⟨m,hn6,_⟩:=id I6.loc;exact⟨m,hn6,λh' sb=>⟨.ref _,H5,lE I3 I6 ffp sb,rfl,qn⟩⟩
theorem oz {i:Nat}{y:Str}{py spos:Pos}(hN:X.N.Nodup)(hiN:X.N[i]?=some y)(hy:X.env.scope.names.lookup y=some .local)
  (c:CpOk X xs fx fr scope cl iter) (hi:PI X tg iter wi) (hg:∀s H fp,PG (compCx X (xs++fx) scope cl s H fp) tg g) (ht:∀s H fp,PF (compCx X (xs++fx) scope cl s H fp) ifs tt) (he:∀s H fp,PE (compCx X (xs++fx) scope cl s H fp) elt te)
  (hC:∀{J p fv Q H1},C J p fv tt te Q H1->CompG J p g `x fv tt te Q H1) (hsw:swapsWith (.ListComp elt [⟨tg,iter,ifs,0⟩] scope pos) (some (.Name y py)) spos.line X.env=pure true) :
  PS X (.Assign [.Name y py] (.ListComp elt [⟨tg,iter,ifs,0⟩] scope pos) spos) (tAsg (λZ H Q=>wi Z H λJ H1=>∀p,H1 p=none->C J p (frV Z fr) tt te Q H1) (gName i)):=by
 intro dl s Z H D I h;rw[exec_Assign_Name_used _ _ _ _ hsw];refine wpAny_bind (wpAny_standAt (wpAny_bind ?_));show wpAny _ X.A (do let _ <- comprehension (.ListComp elt [⟨tg,iter,ifs,0⟩] scope pos) scope X.env _ (newList []) false (eval iter X.env) (some (assign (.Name y py) X.env))) _ _ s;refine wpAny_bind (wpAny_mono (ow (R:=λ_ s'=>SP X dl D .next s') c hi hg ht he hC I h λp s3 H3 fp s6 H5 Z' I3 Fr I6 qn=>?_) (λ_ s' hq=>wpAny_pure (wpAny_pure hq)) λ_ _ e=>e);have nC:H5 s3.heap.objs.size=none:=I6.free;have I7:Inv X dl Z H5 s6:=lE (h':=s6.heap) I3 I6 Fr ⟨rfl,λ_ _=>rfl⟩;obtain⟨f0,f1,f2,f3,f4,f5⟩:=I3.fpOk (H':=H5) (b:=s3.heap.objs.size) `n nC;obtain⟨m,Fn,_⟩:=id I6.loc;show wpAny _ X.A (assign (.Name y py) X.env (.ref _)) _ _ s6;refine wpAny_assign_Name (k9 I7 hN hiN (.inl hy) (v:=.ref _) rfl (λs8 I8 mt=>?_) (.inr hy));obtain⟨a,sb,ha⟩:=mt;have Cl:s3.heap.objs.size≠a:=by
  rcases ha with rfl|ha
  .exact f1
  .exact λz=>f4 y a ha z.symm
 refine⟨m,Fn.sameBut sb Cl,λh' BT=>?_⟩;exact⟨_,H5,I8.turned (t':=s8.toks) (it:=s3.heap.objs.size) (λb o hb e=>BT.extBut b o hb e) f0 f1 f3 f4 f5,qn⟩
end
theorem CompI.g {J:It}{p:Addr}{fv:St}{tt:TT}{te:TE}{Q:VK}{H1:Hp}(h:CompI J p fv tt te Q H1):CompG J p (gName 0) 1 fv tt te Q H1:=by obtain⟨W,h0,h⟩:=h;refine⟨W,h0,λi m ys H2 hw=>⟨(h i m ys H2 hw).1,(h i m ys H2 hw).2.imp_right λ⟨a,b,k⟩=>⟨a,b,λz H3 y os ho=>?_⟩⟩⟩;obtain⟨o,rfl⟩:=List.length_eq_one_iff.mp ho;exact⟨[some z],rfl,rfl,k z H3 y⟩
section
variable {X:Cx}{elt iter:Expr}{x y:Str}{px py pos spos:Pos}{ifs:List Expr}{scope:Scope}{cl:List (Str×Addr)}{fx:List Str}{fr:Tq}{wi:TI}{tt:TT}{te:TE}
theorem p9 (c:CpOk X [x] fx fr scope cl iter)(s:Shared)(H:Hp)(fp:List Addr):PG (compCx X ([x]++fx) scope cl s H fp) (.Name x px) (gName 0):=
 have h:(relabel scope X.env).names.lookup x=some .local:=lookup_relabel_local (c.hx x (.head _))
 cC (i:=0) c.hnd rfl (.inl h) (.inr h)
theorem cmp1 (fx:List Str)(fr:Tq)(hi:PI X (.Name x px) iter wi)(ht:∀{s H fp},PF (compCx X ([x]++fx) scope cl s H fp) ifs tt)(he:∀{s H fp},PE (compCx X ([x]++fx) scope cl s H fp) elt te)
  (c:CpOk X [x] fx fr scope cl iter:=by exact⟨rfl,rfl,`k,rfl,`k,`k,`k,rfl,by repeat' first|exact .nil|refine .cons rfl rfl rfl rfl ?_,rfl,λ_=>rfl⟩):PE X (.ListComp elt [⟨.Name x px,iter,ifs,0⟩] scope pos) (tComp wi fr tt te):=oy c hi (p9 c) (λ_ _ _=>ht) (λ_ _ _=>he) λh=>h.g
theorem cmpS (fx:List Str)(fr:Tq)(i:Nat)(hN:X.N.Nodup)(hi:PI X (.Name x px) iter wi)(ht:∀{s H fp},PF (compCx X ([x]++fx) scope cl s H fp) ifs tt)(he:∀{s H fp},PE (compCx X ([x]++fx) scope cl s H fp) elt te)
  (hiN:X.N[i]?=some y:=by rfl) (hy:X.env.scope.names.lookup y=some .local:=by rfl) (c:CpOk X [x] fx fr scope cl iter:=by exact⟨rfl,rfl,`k,rfl,`k,`k,`k,rfl,by repeat' first|exact .nil|refine .cons rfl rfl rfl rfl ?_,rfl,λ_=>rfl⟩) (hsw:swapsWith (.ListComp elt [⟨.Name x px,iter,ifs,0⟩] scope pos) (some (.Name y py)) spos.line X.env=pure true:=by rfl) :
  PS X (.Assign [.Name y py] (.ListComp elt [⟨.Name x px,iter,ifs,0⟩] scope pos) spos) (tAsg (tComp wi fr tt te) (gName i)):=oz hN hiN hy c hi (p9 c) (λ_ _ _=>ht) (λ_ _ _=>he) (λh=>h.g) hsw
end
theorem CompI2.g {K:`F}{J:It}{p:Addr}{fv:St}{tt:TT}{te:TE}{Q:VK}{H1:Hp}(h:CompI2 K J p fv tt te Q H1):CompG J p (gTup K 2 (gCons (gName 0) (gCons (gName 1) gNil))) 2 fv tt te Q H1:=by obtain⟨W,h0,h⟩:=h;refine⟨W,h0,λi m ys H2 hw=>⟨(h i m ys H2 hw).1,(h i m ys H2 hw).2.imp_right λ⟨a,b,k⟩=>⟨a,b,λz H3 y os ho=>?_⟩⟩⟩;obtain⟨o,l,rfl⟩:=List.exists_cons_of_length_eq_add_one ho;obtain⟨o2,rfl⟩:=List.length_eq_one_iff.mp (Nat.succ.inj ho);obtain⟨a,u,v,rfl,q,k⟩:=k z H3 y;exact⟨a,[u,v],rfl,q,rfl,u,[v],rfl,v,[],rfl,rfl,[some u,some v],rfl,rfl,k⟩
section
variable {X:Cx}{K:`F}{elt iter:Expr}{x x2 y:Str}{px px2 ptx py pos spos:Pos}{kx:Nat}{ifs:List Expr}{scope:Scope}{cl:List (Str×Addr)}{fx:List Str}{fr:Tq}{wi:TI}{tt:TT}{te:TE}
theorem pA (h:X.K=K)(c:CpOk X [x,x2] fx fr scope cl iter)(s:Shared)(H:Hp)(fp:List Addr):PG (compCx X ([x,x2]++fx) scope cl s H fp) (.Tuple [.Name x px,.Name x2 px2] kx ptx) (gTup K 2 (gCons (gName 0) (gCons (gName 1) gNil))):=
 have a:(relabel scope X.env).names.lookup x=some .local:=lookup_relabel_local (c.hx x (.head _));have b:(relabel scope X.env).names.lookup x2=some .local:=lookup_relabel_local (c.hx x2 (.tail _ (.head _)))
 h▸kF c.hc (b6 (cC (i:=0) c.hnd rfl (.inl a) (.inr a)) (b6 (cC (i:=1) c.hnd rfl (.inl b) (.inr b)) cD))
theorem cmp2 (K:`F)(fx:List Str)(fr:Tq)(hi:PI X (.Tuple [.Name x px,.Name x2 px2] kx ptx) iter wi)(ht:∀{s H fp},PF (compCx X ([x,x2]++fx) scope cl s H fp) ifs tt)(he:∀{s H fp},PE (compCx X ([x,x2]++fx) scope cl s H fp) elt te)
  (h:X.K=K:=by rfl) (c:CpOk X [x,x2] fx fr scope cl iter:=by exact⟨rfl,rfl,`k,rfl,`k,`k,`k,rfl,by repeat' first|exact .nil|refine .cons rfl rfl rfl rfl ?_,rfl,λ_=>rfl⟩):PE X (.ListComp elt [⟨.Tuple [.Name x px,.Name x2 px2] kx ptx,iter,ifs,0⟩] scope pos) (tComp2 K wi fr tt te):=oy c hi (pA h c) (λ_ _ _=>ht) (λ_ _ _=>he) λh=>h.g
theorem cmpS2 (K:`F)(fx:List Str)(fr:Tq)(i:Nat)(hN:X.N.Nodup)(hi:PI X (.Tuple [.Name x px,.Name x2 px2] kx ptx) iter wi)(ht:∀{s H fp},PF (compCx X ([x,x2]++fx) scope cl s H fp) ifs tt)(he:∀{s H fp},PE (compCx X ([x,x2]++fx) scope cl s H fp) elt te)
  (hiN:X.N[i]?=some y:=by rfl) (hy:X.env.scope.names.lookup y=some .local:=by rfl) (h:X.K=K:=by rfl) (c:CpOk X [x,x2] fx fr scope cl iter:=by exact⟨rfl,rfl,`k,rfl,`k,`k,`k,rfl,by repeat' first|exact .nil|refine .cons rfl rfl rfl rfl ?_,rfl,λ_=>rfl⟩) (hsw:swapsWith (.ListComp elt [⟨.Tuple [.Name x px,.Name x2 px2] kx ptx,iter,ifs,0⟩] scope pos) (some (.Name y py)) spos.line X.env=pure true:=by rfl) :
  PS X (.Assign [.Name y py] (.ListComp elt [⟨.Tuple [.Name x px,.Name x2 px2] kx ptx,iter,ifs,0⟩] scope pos) spos) (tAsg (tComp2 K wi fr tt te) (gName i)):=oz hN hiN hy c hi (pA h c) (λ_ _ _=>ht) (λ_ _ _=>he) (λh=>h.g) hsw
end
section
variable {X:Cx}{a b e:Expr}{ta tb te:TE}{pos pos':Pos}
theorem px (K:`F)(ha:PE X a ta)(hb:PE X b tb)(h:X.K=K:=by rfl)(hs:PlainIx b:=by exact λ_ _=>rfl):PE X (.Subscript a b pos) (tOp (rIy K) ta tb):=kh (lH h) ha hb hs
theorem sx {x:Str}(i:Nat)(hN:X.N.Nodup)(he:PE X e te)(hi:X.N[i]?=some x:=by rfl)(hx:Loc X.env.scope x:=by exact .inl rfl)(hs:swapsWith e (some (.Name x pos')) pos.line X.env=pure false:=by rfl)(hf:X.fn x=true\/X.env.scope.names.lookup x=some .local:=by first|exact .inl rfl|exact .inr rfl) :
  PS X (.Assign [.Name x pos'] e pos) (tAsg te (gName i)):=gi hN hi hx he hs hf
theorem pcm {op:CmpOp}{r:R2}(ho:OpR X (compareOp op) r)(ha:PE X a ta)(hb:PE X b tb)(hm:behindInMarks op b=false:=by exact nomark _):PE X (.Compare a [op] [b] pos) (tOp r ta tb):=cZ ho ha hb hm
theorem ptm {op:CmpOp}{r:R2}(ho:OpR X (compareOp op) r)(ha:PE X a ta)(hb:PE X b tb)(hm:behindInMarks op b=false:=by exact nomark _):PT X (.Compare a [op] [b] pos) (tTest (tOp r ta tb)):=bN ho ha hb hm
theorem pgn {x:Str}(i:Nat)(hN:X.N.Nodup)(hi:X.N[i]?=some x:=by rfl)(hx:Loc X.env.scope x:=by exact .inl rfl)(hf:X.fn x=true\/X.env.scope.names.lookup x=some .local:=by first|exact .inl rfl|exact .inr rfl):PG X (.Name x pos) (gName i):=cC hN hi hx hf
end
section
variable {K:`F}{H:Hp}{a:Addr}{xs:`V}{v:V}{R:V->Prop}
end
section
variable {X:Cx}
end
end L2
namespace L2
open PySem
theorem lnT {A B C:Prop}(f:A->B->C)(b:B)(a:A:=by intro _ _ _ _ h;cases h;subst_vars;rfl):C:=f a b
end L2
namespace L2
open PySem PySem.Spec PyProof.Rows PyProof.V
section
variable {X:Cx}
def rNiT (p:Addr)(D:List (PyData×PyData)):R2:=λx y H Q=>y=.ref p/\∃k:Str,x=.str k/\Q (.bl (!(lookup (.str k) D).isSome)) H
theorem D0 {p:Addr}{D:List (PyData×PyData)}(T:∀h:Heap,X.K.In h->StrTab X.prog X.w h p D):OpR X (compareOp .NotIn) (rNiT p D):=by intro pins s Z H x y v u Q I rx ry h;obtain⟨rfl,k,rfl,q⟩:=h;obtain⟨t,rfl⟩:=rx;obtain rfl:u=Value.ref p:=ry;exact notin_strTab (T _ I.kIn) ⟨.bl (!(lookup (.str k) D).isSome),H,I.tok _,rfl,q⟩
theorem valsF:∀(l:List Str) (n:Nat),Vals (l.map V.str) (strsFrom n l)
 |[],_=>.nil
 |z::l,n=>.cons ⟨n,rfl⟩ (valsF l (n+1))
def rSplit2:V->`V->Hp->VK->Prop:=λx vs H Q=>∃(z:Str) (c k:Nat),x=.str z/\vs=[.str ⟨#[c]⟩,.int (k:Int)]/\z.length<=100000/\k < 100/\∀p,H p=none->Q (.ref p) (upd H p (.lst ((Txt.splitMax z ⟨#[c]⟩ k).map V.str)))
theorem D1:MtR X "str.split" rSplit2:=by
 intro mt s Z H x vs v us Q I rx rv h;obtain⟨z,c,k,rfl,rfl,hz,hk,q⟩:=h;obtain⟨t,rfl⟩:=rx;obtain⟨t',t3,rfl⟩:∃t' t3,us=[.str ⟨#[c]⟩ t',.int (k:Int) t3]:=by
  cases rv with
  |cons r1 rv=>cases rv with
   |cons r2 rv=>cases rv;obtain⟨t',rfl⟩:=r1;obtain⟨t3,rfl⟩:=r2;exact⟨t',t3,rfl⟩
 have hf:H `z=none:=I.hok.fresh `n;have q:=q _ hf;have BT:z.length<=sizeLine:=Nat.le_trans hz `d;have dl:(decide ((k:Int) < -(2 ^ 63:Int)) || decide ((k:Int) ≥ 2 ^ 63))=false:=by rw[decide_eq_false `l,decide_eq_false `l];rfl
 have hn:(Builtin.Str.partsBetween z (Builtin.Str.occurrences z ⟨#[c]⟩ 0 z.length (limitOf z k)) (⟨#[c]⟩:Str).length).length<=sizeLine:=by have e1:=StrLaws.occ_length_le_len z ⟨#[c]⟩ 0 z.length (limitOf z k);rw[length_partsBetween];exact Nat.le_trans (show _<=100010 by lia) `d
 unfold Txt.splitMax at q;cases h1:(decide (z.length < (⟨#[c]⟩:Str).length) || decide (Builtin.Str.strKind z < Builtin.Str.strKind ⟨#[c]⟩)) with
 |true=>rw[if_pos h1] at q;refine call_meets F.slot_str_split (typeIs_str _ _ _) F.entry_str_split (F.args_str_split_3 _ _ _) (meets_str_split_max_cannot_occur z ⟨#[c]⟩ k t t' t3 dl h1) ?_;refine⟨.ref `z,_,I.laid (t':=s.toks) (o:=.lst [.str z]) (λb u e=>Heap.get?_push_of_some _ e) `n ?_,rfl,q⟩;exact⟨by show 1<=sizeLine;decide,[.str z t],0,.cons `o .nil,Heap.get?_push_size _ rfl⟩
 |false=>
  rw[if_neg (by rw[h1];decide)] at q;cases h2:(Builtin.Str.occurrences z ⟨#[c]⟩ 0 z.length (limitOf z k)).isEmpty with
  |true=>rw[if_pos h2] at q;refine call_meets F.slot_str_split (typeIs_str _ _ _) F.entry_str_split (F.args_str_split_3 _ _ _) (meets_str_split_max_not_found z ⟨#[c]⟩ k t t' t3 dl h1 rfl h2) ?_;refine⟨.ref `z,_,I.laid (t':=s.toks) (o:=.lst [.str z]) (λb u e=>Heap.get?_push_of_some _ e) `n ?_,rfl,q⟩;exact⟨by show 1<=sizeLine;decide,[.str z t],0,.cons `o .nil,Heap.get?_push_size _ rfl⟩
  |false=>rw[if_neg (by rw[h2];decide)] at q;refine call_meets F.slot_str_split (typeIs_str _ _ _) F.entry_str_split (F.args_str_split_3 _ _ _) (meets_str_split_sep_max z ⟨#[c]⟩ k t t' t3 dl h1 rfl h2 BT hn) ?_;refine⟨.ref `z,_,I.laid (o:=.lst _) (λb u e=>Heap.get?_push_of_some _ e) `n ?_,rfl,q⟩;exact⟨by rw[length_map];exact hn,_,0,valsF _ _,Heap.get?_push_size _ rfl⟩
end
end L2
namespace Wm
open PySem L2
theorem D2 {a b:Tq}{c:Nat}(h:c∉a)(h2:c < 256):Txt.splitMax (mkS (a++c::b)) (mkS [c]) 1=[mkS a,mkS b]:=by
 have e:(List.range' 0 ((a++c::b).length+1)).find? (λi=>decide ((a++c::b)[i]?=some c))=some a.length:=by
  rw[List.find?_range'_eq_some];refine⟨decide_eq_true `s,?_,λj _ hj=>?_⟩
  .rw[mem_range'_1];simp only[length_append,length_cons];lia
  .rw[decide_eq_false λz=>?_]
   .rfl
   .rw[List.getElem?_append_left hj] at z;exact h (mem_of_getElem? z)
 have eo:Builtin.Str.occurrences (mkS (a++c::b)) (mkS [c]) 0 (mkS (a++c::b)).length (limitOf (mkS (a++c::b)) 1)=[a.length]:=by rw[show limitOf (mkS (a++c::b)) 1=1 from rfl,j1,e];rfl
 unfold Txt.splitMax;rw[eo,if_neg,if_neg (by intro z;cases z)]
 .show [Builtin.Str.strSub (mkS (a++c::b)) 0 a.length,Builtin.Str.strSub (mkS (a++c::b)) (a.length+(mkS [c]).length) (mkS (a++c::b)).length]=_;rw[aE,aE];refine congr (congrArg _ ?_) (congr (congrArg _ ?_) rfl)
  .show (⟨(a++c::b).toArray.extract 0 a.length⟩:Str)=_;simp
  .show (⟨(a++c::b).toArray.extract (a.length+1) (a++c::b).length⟩:Str)=_;simp;exact take_of_length_le `l
 .rw[aE,aE,decide_eq_false `s,Bool.false_or];intro z;have k1:Builtin.Str.strKind (mkS [c])=1:=by
   unfold Builtin.Str.strKind;rw[if_pos (by simp[h2])]
  rw[k1] at z;have:=of_decide_eq_true z;unfold Builtin.Str.strKind at this;split at this
  .lia
  .split at this <;> lia
section
variable {K:`F}{H H':Hp}{C p:Addr}{x y:Ad}
theorem D3 {dx a:Addr}{fs:List (Str×V)}{xs:`V}(s:SameBut p H H')(hp:H p=some (.ins C dx fs))(h:SqT K H a xs):SqT K H' a xs:=by
 rcases h with (h|⟨o,h⟩)|h
 .exact .inl (.inl (s _ _ (aY h hp (by intro z;cases z)) h))
 .exact .inl (.inr ⟨o,s _ _ (aY h hp (by intro z;cases z)) h⟩)
 .exact .inr h
mutual
theorem IsK.but {dx:Addr}{fs:List (Str×V)}(s:SameBut p H H')(hp:H p=some (.ins C dx fs)):∀{d:PyData}{v:V},IsK K H d v->IsK K H' d v
 |_,_,.non=>.non
 |_,_,.bl b=>.bl b
 |_,_,.int i=>.int i
 |_,_,.str x=>.str x
 |_,_,.tup h r=>.tup (D3 s hp h) (IsKAll.but s hp r)
theorem IsKAll.but {dx:Addr}{fs:List (Str×V)}(s:SameBut p H H')(hp:H p=some (.ins C dx fs)):∀{ds:List PyData}{xs:`V},IsKAll K H ds xs->IsKAll K H' ds xs
 |_,_,.nil=>.nil
 |_,_,.cons h r=>.cons (IsK.but s hp h) (IsKAll.but s hp r)
end
theorem pB {dx:Addr}{o o':HO}(nd:H dx=none):SameBut p H (upd (upd H dx o') p o):=λb _ n e=>by rw[aD n,aD (aG e nd)];exact e
theorem Same.free (s:Same H H')(h:H' p=none):H p=none:=by
 cases e:H p with
 |none=>rfl
 |some o=>rw[s _ _ e] at h;cases h
def Dsk (K:`F)(H:Hp)(C p:Addr)(x:Ad):Prop:=∃(dx:Addr) (v u:V),H p=some (.ins C dx [("address",v),("table",u)])/\IsK K H x.data v
theorem D4 {v u:V}:List.lookup (ofString "address") [(ofString "address",v),(ofString "table",u)]=some v:=by rw[lookup_cons,beq_self_eq_true]
theorem pC {v u w:V}:putF (ofString "address") w [(ofString "address",v),(ofString "table",u)]=[(ofString "address",w),(ofString "table",u)]:=by simp only[putF,if_true]
theorem j8 {R:V->Prop}(h:Dsk K H C p x)(cl:Cls K C)(n:NoAttr K C "address")(r:∀v,IsK K H x.data v->R v):FldE K (ofString "address") (.ref p) H R:=
 let ⟨dx,v,_,hp,hv⟩:=h
 ⟨p,C,dx,_,_,rfl,hp,cl,n,D4,r v hv⟩
theorem D5 {dx:Addr}{v v' u:V}(hp:H p=some (.ins C dx [("address",v'),("table",u)]))(hv:IsK K H y.data v):Dsk K (upd H p (.ins C dx (putF (ofString "address") v [("address",v'),("table",u)]))) C p y:=
 ⟨dx,v,u,by rw[aB];exact congrArg (λz=>some (HO.ins C dx z)) pC,Wm.IsK.but ag hp hv⟩
theorem aj {R:Prop}{m:Str}(h:Dsk K H C p x)(r:R)(h1:(m == ofString "address")=false:=by fail "k")(h2:(m == ofString "table")=false:=by fail "k") :
  MeE C m (.ref p) H R:=
 let ⟨dx,_,_,hp,_⟩:=h
 ⟨p,dx,_,rfl,hp,by rw[lookup_cons,h1,lookup_cons,h2];rfl,r⟩
end
theorem occN (t:Tq)(c n:Nat):∀(m a:Nat) (acc:Array Nat) (free:Nat),free<=a ->
  (forIn (List.range' a m) (acc,free) (StrLaws.occBody (mkS t) (mkS [c]) (mkS t).length n)).run.fst.toList=acc.toList++((List.range' a m).filter λi=>decide (t[i]?=some c)).take (n - acc.size)
 |0,a,acc,free,_=>by simp
 |m+1,a,acc,free,hf=>by
  have e:=oa t c a;rw[List.range'_succ,forIn_cons,filter_cons,<- e];unfold StrLaws.occBody;by_cases h:(((acc.size < n/\free<=a)/\a+(mkS [c]).length<=(mkS t).length)/\Builtin.Str.subAt (mkS t) (mkS [c]) a=true)
  .rw[if_pos h,if_pos (by rw[decide_eq_true h.1.2,h.2];rfl)];show (forIn (List.range' (a+1) m) (acc.push a,a+(mkS [c]).length) (StrLaws.occBody (mkS t) (mkS [c]) (mkS t).length n)).run.fst.toList=_;rw[occN t c n m (a+1) (acc.push a) _ (by rw[aE];exact Nat.le_refl _),Array.size_push,Array.toList_push,append_assoc,show n - acc.size=n - (acc.size+1)+1 by have:=h.1.1.1;lia];rfl
  .rw[if_neg h];show (forIn (List.range' (a+1) m) (acc,free) (StrLaws.occBody (mkS t) (mkS [c]) (mkS t).length n)).run.fst.toList=_;rw[occN t c n m (a+1) acc free `l];by_cases hs:acc.size < n
   .rw[if_neg λz=>h ⟨⟨⟨hs,hf⟩,?_⟩,?_⟩]
    .exact of_decide_eq_true (by cases hd:decide (a+(mkS [c]).length<=(mkS t).length) <;> simp_all)
    .simp_all
   .rw[show n - acc.size=0 by lia,take_zero,take_zero]
theorem j9 {t:Tq}{c:Nat}:∀(m a:Nat),(∀i,a<=i->i < a+m->t[i]?≠some c)->((List.range' a m).filter λi=>decide (t[i]?=some c))=[]
 |0,_,_=>rfl
 |m+1,a,h=>by rw[List.range'_succ,filter_cons,if_neg (by simpa using h a `n `l)];exact j9 m (a+1) λi h1 h2=>h i `l `l
theorem D6 {a b r:Tq}{c:Nat}(ha:c∉a)(hb:c∉b)(h2:c < 256):Txt.splitMax (mkS (a++c::(b++c::r))) (mkS [c]) 2=[mkS a,mkS b,mkS r]:=by
 generalize ht:a++c::(b++c::r)=t;have hl:`t=a.length+(b.length+(r.length+1)+1):=by rw[<- ht];simp
 have g1:∀i,i < a.length->t[i]?=a[i]?:=λi hi=>by rw[<- ht,List.getElem?_append_left hi]
 have g2:t[a.length]?=some c:=by rw[<- ht];simp
 have g3:∀i,i < b.length->t[a.length+1+i]?=b[i]?:=λi hi=>by rw[<- ht,List.getElem?_append_right `l,show a.length+1+i - a.length=i+1 by lia,List.getElem?_cons_succ,List.getElem?_append_left hi]
 have g4:t[a.length+1+b.length]?=some c:=by rw[<- ht,List.getElem?_append_right `l,show a.length+1+b.length - a.length=b.length+1 by lia,List.getElem?_cons_succ];simp
 have eo:Builtin.Str.occurrences (mkS t) (mkS [c]) 0 (mkS t).length (limitOf (mkS t) 2)=[a.length,a.length+1+b.length]:=by rw[show limitOf (mkS t) 2=2 from rfl,StrLaws.occ_eq,occN _ _ _ _ _ _ _ `n,aE];show ([]:Tq)++List.take (2 - 0) _=_;rw[show `t+1 - 0=a.length+(1+(b.length+(1+(r.length+1)))) by lia,List.range'_append_1.symm,List.range'_append_1.symm,List.range'_append_1.symm,List.range'_append_1.symm];rw[filter_append,filter_append,filter_append,filter_append,j9 a.length 0 λi _ h=>by rw[g1 i `l];exact λz=>ha (mem_of_getElem? z)];rw[j9 b.length _ λi h h'=>by obtain⟨j,rfl⟩:=Nat.le.dest h;rw[Nat.zero_add,g3 j `l];exact λz=>hb (mem_of_getElem? z)];rw[show List.range' (0+a.length) 1=[a.length] by simp,show List.range' (0+a.length+1+b.length) 1=[a.length+1+b.length] by simp,filter_cons,if_pos (decide_eq_true g2),filter_cons,if_pos (decide_eq_true g4)];rfl
 unfold Txt.splitMax;rw[eo,if_neg,if_neg (by intro z;cases z)]
 .show [Builtin.Str.strSub (mkS t) 0 a.length,Builtin.Str.strSub (mkS t) (a.length+(mkS [c]).length) (a.length+1+b.length),Builtin.Str.strSub (mkS t) (a.length+1+b.length+(mkS [c]).length) (mkS t).length]=_;rw[aE,aE];subst ht;refine congr (congrArg _ ?_) (congr (congrArg _ ?_) (congr (congrArg _ ?_) rfl))
  .show (⟨(a++c::(b++c::r)).toArray.extract 0 a.length⟩:Str)=_;simp
  .show (⟨(a++c::(b++c::r)).toArray.extract (a.length+1) (a.length+1+b.length)⟩:Str)=_;rw[List.extract_toArray,List.extract_eq_take_drop,show a++c::(b++c::r)=(a++[c])++(b++c::r) by simp,List.drop_left' `s];rw[show a.length+1+b.length - (a.length+1)=b.length by lia,List.take_left' rfl]
  .show (⟨(a++c::(b++c::r)).toArray.extract (a.length+1+b.length+1) (a++c::(b++c::r)).length⟩:Str)=_;rw[List.extract_toArray,List.extract_eq_take_drop,show a++c::(b++c::r)=(a++[c]++b++[c])++r by simp,List.drop_left' (by simp;lia),take_of_length_le (by simp;lia)]
 .rw[aE,aE,decide_eq_false (by rw[hl];simp),Bool.false_or];intro z;have k1:Builtin.Str.strKind (mkS [c])=1:=by
   unfold Builtin.Str.strKind;rw[if_pos (by simp[h2])]
  rw[k1] at z;have:=of_decide_eq_true z;unfold Builtin.Str.strKind at this;split at this
  .lia
  .split at this <;> lia
section
variable {K:`F}{H H':Hp}{C p:Addr}{x y:Ad}{T:List Rw}
def DsT (K:`F)(H:Hp)(C p:Addr)(x:Ad)(T:List Rw)(l:Addr):Prop:=∃(dx:Addr) (v:V) (ws:`V),H p=some (.ins C dx [("address",v),("table",.ref l)])/\IsK K H x.data v/\H l=some (.lst ws)/\TbV H T ws
variable {l:Addr}
theorem DsT.dsk (h:DsT K H C p x T l):Dsk K H C p x:=let ⟨dx,v,_,e,hv,_⟩:=h;⟨dx,v,.ref l,e,hv⟩
theorem DsT.same (h:DsT K H C p x T l)(s:Same H H'):DsT K H' C p x T l:=let ⟨dx,v,ws,e,hv,hl,hT⟩:=h;⟨dx,v,ws,s _ _ e,hv.mono s,s _ _ hl,hT.mono s.toT⟩
theorem sb_T {q dx:Addr}{fs:List (Str×V)}(s:SameBut q H H')(h:H q=some (.ins C dx fs)):SameT H H':=λ_ _ e=>s _ _ (aY e h (by intro z;cases z)) e
theorem sb_l {q l dx:Addr}{fs:List (Str×V)}{ws:`V}(s:SameBut q H H')(h:H q=some (.ins C dx fs))(e:H l=some (.lst ws)):H' l=some (.lst ws):=s _ _ (aY e h (by intro z;cases z)) e
theorem fI {q:Addr}{ws:`V}(s:SameBut q H H')(h:H q=some (.lst ws)):SameT H H':=λ_ _ e=>s _ _ (aY e h (by intro z;cases z)) e
theorem D7 {q a:Addr}{ws xs:`V}(s:SameBut q H H')(hp:H q=some (.lst ws))(h:SqT K H a xs):SqT K H' a xs:=by
 rcases h with (h|⟨o,h⟩)|h
 .exact .inl (.inl (s _ _ (aY h hp (by intro z;cases z)) h))
 .exact .inl (.inr ⟨o,s _ _ (aY h hp (by intro z;cases z)) h⟩)
 .exact .inr h
mutual
theorem IsK.butL {q:Addr}{ws:`V}(s:SameBut q H H')(hp:H q=some (.lst ws)):∀{d:PyData}{v:V},IsK K H d v->IsK K H' d v
 |_,_,.non=>.non
 |_,_,.bl b=>.bl b
 |_,_,.int i=>.int i
 |_,_,.str x=>.str x
 |_,_,.tup h r=>.tup (D7 s hp h) (IsKAll.butL s hp r)
theorem IsKAll.butL {q:Addr}{ws:`V}(s:SameBut q H H')(hp:H q=some (.lst ws)):∀{ds:List PyData}{xs:`V},IsKAll K H ds xs->IsKAll K H' ds xs
 |_,_,.nil=>.nil
 |_,_,.cons h r=>.cons (IsK.butL s hp h) (IsKAll.butL s hp r)
end
theorem DsT.but {q l':Addr}{S:List Rw}(h:DsT K H C p x T l)(d:DsT K H C q y S l')(n:p≠q)(s:SameBut q H H'):DsT K H' C p x T l:=
 let ⟨dx,v,ws,e,hv,hl,hT⟩:=h
 let ⟨_,_,_,e2,_⟩:=d
 ⟨dx,v,ws,s _ _ n e,Wm.IsK.but s e2 hv,sb_l s e2 hl,hT.mono (sb_T s e2)⟩
theorem DsT.butL {q:Addr}{us:`V}(h:DsT K H C p x T l)(e2:H q=some (.lst us))(n:l≠q)(s:SameBut q H H'):DsT K H' C p x T l:=
 let ⟨dx,v,ws,e,hv,hl,hT⟩:=h
 ⟨dx,v,ws,s _ _ (aY e e2 (by intro z;cases z)) e,IsK.butL s e2 hv,s _ _ n hl,hT.mono (fI s e2)⟩
theorem D8 {q dx a:Addr}{fs:List (Str×V)}{xs:`V}(s:SameBut q H H')(hp:H q=some (.ins C dx fs))(h:SqL K H a xs):SqL K H' a xs:=by
 rcases h with (h|⟨o,h⟩)|h
 .exact .inl (.inl (s _ _ (aY h hp (by intro z;cases z)) h))
 .exact .inl (.inr ⟨o,s _ _ (aY h hp (by intro z;cases z)) h⟩)
 .exact .inr h
theorem DsT.keepS (h:DsT K H C p x T l){a:Addr}{xs:`V}(s:SameBut p H H')(e:SqL K H a xs):SqL K H' a xs:=let ⟨_,_,_,e2,_⟩:=h;D8 s e2 e
theorem DsT.keepT (h:DsT K H C p x T l)(s:SameBut p H H'):SameT H H':=let ⟨_,_,_,e,_⟩:=h;sb_T s e
theorem DsT.keepL (h:DsT K H C p x T l){a:Addr}{ws:`V}(s:SameBut p H H')(e:H a=some (.lst ws)):H' a=some (.lst ws):=let ⟨_,_,_,e2,_⟩:=h;sb_l s e2 e
def Ot (p l:Addr)(H H':Hp):Prop:=∀b o,b≠p->b≠l->H b=some o->H' b=some o
theorem DsT.otL {m a:Addr}{xs:`V}(h:DsT K H C p x T l)(o:Ot p m H H')(n:a≠m)(e:H a=some (.lst xs)):H' a=some (.lst xs):=let ⟨_,_,_,e2,_⟩:=h;o _ _ (aY e e2 (by intro z;cases z)) n e
theorem DsT.otT {m:Addr}{ws:`V}(h:DsT K H C p x T l)(o:Ot p m H H')(hm:H m=some (.lst ws)):SameT H H':=λ_ _ e=>let ⟨_,_,_,e2,_⟩:=h;o _ _ (aY e e2 (by intro z;cases z)) (aY e hm (by intro z;cases z)) e
theorem D9 {v u:V}:List.lookup (ofString "table") [(ofString "address",v),(ofString "table",u)]=some u:=by rw[lookup_cons,show (ofString "table" == ofString "address")=false by fail "k",lookup_cons,beq_self_eq_true]
theorem Da {v u w:V}:putF (ofString "table") w [(ofString "address",v),(ofString "table",u)]=[(ofString "address",v),(ofString "table",w)]:=by
 have h:¬ ofString "address"=ofString "table" := by fail "k"
 simp only[putF,if_true,if_neg h]
theorem cz {R:V->Prop}{dx:Addr}{v u:V}(hp:H p=some (.ins C dx [("address",v),("table",u)]))(cl:Cls K C)(n:NoAttr K C "table")(r:R u):FldE K (ofString "table") (.ref p) H R:=
 ⟨p,C,dx,_,_,rfl,hp,cl,n,D9,r⟩
end
noncomputable def wOnly (ss:List Tq)(e:Bool):Ad:=⟨[],none,none,true,ss,e,none,none⟩
noncomputable def atW (ss:List Tq)(e:Bool):Ad:=⟨[119,101,98],some [97],none,true,ss,e,none,none⟩
def WyOk (ss:List Tq)(e:Bool):Prop:=ss.length<=12/\(∀l∈ss,(0 < `L/\`L<=300/\∀c∈l,isSg c=true)/\isDot l=false)/\(ss=[]->e=true)
theorem d0 {ss:List Tq}{e:Bool}(h:WyOk ss e):(wOnly ss e).Wf:=⟨by show ([]:Tq).length<=8/\_;exact⟨`d,(λc z=>by cases z),λc z=>by cases z⟩,λl z=>(by cases z),λl z=>(by cases z),λs hs=>⟨(h.2.1 s hs).1.1,(h.2.1 s hs).1.2.2⟩,λ_=>rfl,h.2.2,λl z=>(by cases z),λl z=>by cases z⟩
theorem cL {ss:List Tq}{e:Bool}(h:WyOk ss e):(atW ss e).Wf:=⟨⟨show 3<=8 by decide,show ∀c∈[119,101,98],isAln c=true by decide,show ∀c∈[119],isLet c=true by decide⟩,λl z=>(by cases z;decide),λl z=>(by cases z),λs hs=>⟨(h.2.1 s hs).1.1,(h.2.1 s hs).1.2.2⟩,λ_=>rfl,h.2.2,λl z=>(by cases z),λl z=>by cases z⟩
theorem pD {ss:List Tq}{e:Bool}(h:WyOk ss e):(wayT true ss e).length<=20000:=by
 have:=(bB 47 900 (ws:=ss.map wr) λw hw=>by obtain⟨l,hl,rfl⟩:=mem_map.mp hw;have:=au l;have:=(h.2.1 l hl).1.2.1;lia).1
 rw[length_map] at this;have:=h.1;unfold wayT;simp only[length_append];split <;> split <;> simp only[length_cons,length_nil] <;> lia
theorem jA {ss:List Tq}{e:Bool}:(wOnly ss e).shw=wayT true ss e:=by simp[wOnly,Ad.shw,Ad.wayT,schT,houT,dooT,queT,oT]
theorem cM {ss:List Tq}{e:Bool}(h:WyOk ss e):(wOnly ss e).Sz:=⟨λs hs=>by have:=(h.2.1 s hs).1.2.1;lia,λl z=>(by cases z),λl z=>(by cases z),by have:=h.1;show ss.length<=_;lia,by rw[jA];have:=pD h;lia⟩
theorem pE {ss:List Tq}{e:Bool}(h:WyOk ss e):(atW ss e).Sz:=⟨λs hs=>by have:=(h.2.1 s hs).1.2.1;lia,λl z=>(by cases z),λl z=>(by cases z),by have:=h.1;show ss.length<=_;lia,by
 have:=pD h;have e1:(schT [119,101,98]).length=4:=by decide
 have e2:(houT (some [97])).length=3:=by fail "k"
 simp only[atW,Ad.shw,Ad.wayT,dooT,queT,oT,length_append,e1,e2,length_nil];lia⟩
theorem Db {ss:List Tq}{e:Bool}(h:∀l∈ss,isDot l=false):goneW true ss e=(true,ss,e):=by
 have e1:goneS true ss=ss:=by unfold goneS;rw[eR true _ _ _ h];simp
 unfold goneW;rw[e1];by_cases h0:ss=[]
 .rw[if_pos h0,h0]
 .rw[if_neg h0,if_neg h0];have:lastDot ss=false:=by
   unfold lastDot;cases hl:ss.getLast? with
   |none=>rfl
   |some s=>exact h s (mem_of_getLast? hl)
  rw[this,Bool.or_false]
theorem pF {ss s0:List Tq}{e e0:Bool}(h:WyOk ss e):plainM (resM (atW s0 e0) (wOnly ss e))=atW ss e:=by
 have g:=Db (e:=e) λl hl=>(h.2.1 l hl).2;have e1:resM (atW s0 e0) (wOnly ss e)=atW ss e:=by unfold resM;rw[if_neg (by simp[wOnly]),if_neg (by simp[wOnly]),if_pos (show (wOnly ss e).rooted=true from rfl)];show Ad.withWay _ (goneW true ss e)=_;rw[g];rfl
 rw[e1];show Ad.withWay _ (goneW true ss e)=_;rw[g];show Ad.mk (lowT [119,101,98]) ((some [97]).map lowT) none true ss e none none=_;rw[show lowT [119,101,98]=[119,101,98] by fail "k",show (some [97]).map lowT=some [97] by fail "k"];rfl
def RdS (x:Ad)(r:Bool):Prop:=r=x.rooted\/(r=false/\x.rooted=true/\x.steps=[]/\x.ends=true/\(x.scheme≠[]\/x.house≠none))
def WayC (must r ro:Bool)(ss:List Tq)(e:Bool):Prop:=(r=ro/\(ss=[]->e=r)/\(must=true->r=true))\/(r=false/\must=true/\ro=true/\ss=[]/\e=true)
def RdW2 (x:Ad)(t:Tq):Prop:=∃h d w q m r,RdS x r/\t=schT x.scheme++(h++(d++((if r then [47] else [])++(w++(q++m)))))/\schM t=x.scheme/\HouW x.house h/\DooW x.door d/\StpW x.steps x.ends w/\QueW x.quest q/\MarW x.mark m
theorem Dc:RdW2 (atW [] true) [119,101,98,58,47,47,97]:=
 have w:(atW [] true).Wf:=cL ⟨Nat.zero_le _,(λ_ h=>nomatch h),λ_=>rfl⟩
 ⟨houT (some [97]),[],stpT [] true,[],[],false,.inr ⟨rfl,rfl,rfl,rfl,.inl (by show [119,101,98]≠[];decide)⟩,`k,`k,nK w.hou,nJ λi e=>(w.doo i e).1,nO w.stp,nQ w.que,nL w.mar⟩
theorem RdW.two {x:Ad}{t:Tq}(h:RdW x t):RdW2 x t:=let ⟨h,d,w,q,m,e⟩:=h;⟨h,d,w,q,m,_,.inl rfl,e⟩
theorem pG {H:Hp}:∀ss:List Tq,IsTAll H (ss.map st) (ss.map tV)
 |[]=>.nil
 |_::ss=>.cons (.str _) (pG ss)
theorem jB {H:Hp}{q r t:Addr}{ss:List Tq}{e:Bool}(hq:H q=some (.tup [tV [],.non,.non,.ref r,.non,.non]))(hr:H r=some (.tup [.bl true,.ref t,.bl e]))(ht:H t=some (.tup (ss.map tV))):IsT H (wOnly ss e).data (.ref q):=
 .tup hq (.cons (.str _) (.cons .non (.cons .non (.cons (.tup hr (.cons (.bl _) (.cons (.tup ht (pG ss)) (.cons (.bl _) .nil)))) (.cons .non (.cons .non .nil))))))
end Wm
namespace L2
inductive Ex2 {A B:Type}(p:A->B->Prop):Prop|mk (a:A) (b:B) (h:p a b):Ex2 p
inductive Ex3 {A B C:Type}(p:A->B->C->Prop):Prop|mk (a:A) (b:B) (c:C) (h:p a b c):Ex3 p
inductive Ex4 {A B C D:Type}(p:A->B->C->D->Prop):Prop|mk (a:A) (b:B) (c:C) (d:D) (h:p a b c d):Ex4 p
inductive Ex5 {A B C D E:Type}(p:A->B->C->D->E->Prop):Prop|mk (a:A) (b:B) (c:C) (d:D) (e:E) (h:p a b c d e):Ex5 p
inductive Ex6 {A B C D E F:Type}(p:A->B->C->D->E->F->Prop):Prop|mk (a:A) (b:B) (c:C) (d:D) (e:E) (f:F) (h:p a b c d e f):Ex6 p
inductive Ex7 {A B C D E F G:Type}(p:A->B->C->D->E->F->G->Prop):Prop|mk (a:A) (b:B) (c:C) (d:D) (e:E) (f:F) (g:G) (h:p a b c d e f g):Ex7 p
inductive Ex8 {A B C D E F G H:Type}(p:A->B->C->D->E->F->G->H->Prop):Prop|mk (a:A) (b:B) (c:C) (d:D) (e:E) (f:F) (g:G) (h:H) (h:p a b c d e f g h):Ex8 p
inductive Ex9 {A B C D E F G H I:Type}(p:A->B->C->D->E->F->G->H->I->Prop):Prop|mk (a:A) (b:B) (c:C) (d:D) (e:E) (f:F) (g:G) (h:H) (i:I) (h:p a b c d e f g h i):Ex9 p
inductive Ex10 {A B C D E F G H I J:Type}(p:A->B->C->D->E->F->G->H->I->J->Prop):Prop|mk (a:A) (b:B) (c:C) (d:D) (e:E) (f:F) (g:G) (h:H) (i:I) (j:J) (h:p a b c d e f g h i j):Ex10 p
inductive Ex11 {A B C D E F G H I J K:Type}(p:A->B->C->D->E->F->G->H->I->J->K->Prop):Prop|mk (a:A) (b:B) (c:C) (d:D) (e:E) (f:F) (g:G) (h:H) (i:I) (j:J) (k:K) (h:p a b c d e f g h i j k):Ex11 p
inductive Ex12 {A B C D E F G H I J K L:Type}(p:A->B->C->D->E->F->G->H->I->J->K->L->Prop):Prop|mk (a:A) (b:B) (c:C) (d:D) (e:E) (f:F) (g:G) (h:H) (i:I) (j:J) (k:K) (l:L) (h:p a b c d e f g h i j k l):Ex12 p
end L2
namespace L2
open PySem PySem.Spec PyProof.Rows
@[reducible] noncomputable def nth:List Str->Nat->Option Str
 |[],_=>none
 |x::_,0=>some x
 |_::l,n+1=>nth l n
theorem fJ {x:Str}:∀{N:List Str}{i:Nat},nth N i=some x->N[i]?=some x
 |[],_,h=>by cases h
 |_::_,0,h=>h
 |_::l,n+1,h=>fJ (N:=l) (i:=n) h
def Cn (mg:Str->Option Value)(x:Str)(v:V):Prop:=∃u,mg x=some u/\RelV v u
theorem Dd {mg:Str->Option Value}{x:Str}{i:Int}{t:Tok}(a:mg x=some (.int i t)):Cn mg x (.int i):=⟨_,a,_,rfl⟩
theorem De {mg:Str->Option Value}{x s:Str}{t:Tok}(a:mg x=some (.str s t)):Cn mg x (.str s):=⟨_,a,_,rfl⟩
structure BltN (mg:Str->Option Value)(x:Str)(u:Value):Prop where
 n:mg x=none
 b:bootBuiltins x=some u
inductive Hn (a b:Nat):Prop|mk:Hn a b
theorem hint (a b:Nat):Hn a b:=.mk
theorem hintE (a:Nat){p:Prop}(_:Hn a 0)(h:p):p:=h
noncomputable def rowS:Stmt->Nat
 |.Assign _ _ p|.If _ _ _ p|.For _ _ _ _ p|.While _ _ _ p|.Expr _ p|.Return _ p|.Raise _ _ p=>p.line
 |_=>0
section
variable {X:Cx}{st:Stmt}{rest:List Stmt}{t u:TS}{N:List Str}{i:Nat}{x:Str}{p q:Pos}{e:Expr}{te:TE}{a:List Expr}{kw:List Keyword}
theorem hintC (_:Hn 0 (rowS st))(h1:PS X st t)(h2:PSs X rest u):PSs X (st::rest) (tCut t u):=ac h1 h2
theorem hintN (_:Hn 1 (rowS st)):PS X st tNever:=uc
theorem nx (i:Nat){N:List Str}{x:Str}(h:nth N i=some x:=by exact rfl):nth N i=some x:=h
theorem forT {tg l:Expr}{b:List Stmt}{tl:TE}{g:TG}(K:`F)(_:Hn 11 p.line)(hl:PE X l tl)(hg:PG X tg g)(hb:PSs X b t)(h:X.K=K)(hc:X.calm=true)(hp:PassesOwn `m X.A X.env X.xe)
  (hs:∀x,foldedSetIterable l X.env x=pure x):PS X (.For tg l b [] p) (tFor (iTup K tl) g t):=b8 hp hc (bu h hl) hg hb hs
theorem forS {tg l:Expr}{b:List Stmt}{tl:TE}{g:TG}(_:Hn 12 p.line)(hl:PE X l tl)(hg:PG X tg g)(hb:PSs X b t)(hc:X.calm=true)(hp:PassesOwn `m X.A X.env X.xe)
  (hs:∀x,foldedSetIterable l X.env x=pure x):PS X (.For tg l b [] p) (tFor (iStr tl) g t):=b8 hp hc (cE hl) hg hb hs
theorem cB {mg:Str->Option Value}{id:String}{r:`V->Hp->VK->Prop}{es:List Expr}{ta:TA}(b:BltN mg x (.builtin id))(hc:CallR X (.builtin id) r)(ha:PA X (e::es) ta)(h:X.mg=mg)(hg:Gl X x)(hn:x ≠ "__name__")(hd:(x == ("__debug__" : Str))=false)
  (he:starEach (e::es) X.env=(false,eval e X.env)::starEach es X.env) (hp:(backTo q (starEach es X.env)).any (·.1)=false):PE X (.Call (.Name x p) (e::es) [] q) (tCB r ta):=by subst h;exact bq hc hg b.1 b.2 ha hn hd he hp
theorem cT {mg:Str->Option Value}{id:String}{r:`V->Hp->VK->Prop}{es:List Expr}{ta:TA}(b:BltN mg x (.type id))(hc:CallR X (.type id) r)(ha:PA X (e::es) ta)(h:X.mg=mg)(hg:Gl X x)(hn:x ≠ "__name__")(hd:(x == ("__debug__" : Str))=false)
  (he:starEach (e::es) X.env=(false,eval e X.env)::starEach es X.env) (hp:(backTo q (starEach es X.env)).any (·.1)=false):PE X (.Call (.Name x p) (e::es) [] q) (tCB r ta):=by subst h;exact cb hc hg b.1 b.2 ha hn hd he hp
theorem tY {mg:Str->Option Value}{id:String}(b:BltN mg x (.type id))(h:X.mg=mg)(hg:Gl X x)(hn:x ≠ "__name__")(hd:(x == ("__debug__" : Str))=false):PE X (.Name x p) (tC (.ty id)):=by subst h;exact kC hg b.1 b.2 rfl hn hd
theorem cF {k k':Nat}{sp:Sp}{st:Stmt}{ps:List Str}{es:List Expr}{ta:TA}{f:Fd X.K X.mg x st ps}(F:FnOk X.prog X.w X.K X.mg X.base CX0 k f.a f.fd ps sp)(hr:Room k' X.A)(ha:PA X (e::es) ta)(hg:Gl X x)(hk:k<=k')(hd:(x == ("__debug__" : Str))=false)
  (he:starEach (e::es) X.env=(false,eval e X.env)::starEach es X.env) (hp:(backTo q (starEach es X.env)).any (·.1)=false):PE X (.Call (.Name x p) (e::es) [] q) (tCall sp [] E0 ta):=aV f F hr hg ha hk hd he hp
theorem pvG (h:N.Nodup)(a:nth N i=some x)(e:X.N=N)(hv:Vis X.env.scope x)(hd:(x == ("__debug__" : Str))=false)(hcd:(x == ("__classdict__" : Str))=false):PE X (.Name x p) (tVar i):=kB (by rw[e];exact fJ a) hv hd hcd
theorem sxG (h:N.Nodup)(a:nth N i=some x)(he:PE X e te)(n:X.N=N)(hx:Loc X.env.scope x)(hs:swapsWith e (some (.Name x q)) p.line X.env=pure false)(hf:X.fn x=true\/X.env.scope.names.lookup x=some .local) :
  PS X (.Assign [.Name x q] e p) (tAsg te (gName i)):=gi (n▸h) (by rw[n];exact fJ a) hx he hs hf
theorem pgG (h:N.Nodup)(a:nth N i=some x)(n:X.N=N)(hx:Loc X.env.scope x)(hf:X.fn x=true\/X.env.scope.names.lookup x=some .local):PG X (.Name x p) (gName i):=cC (n▸h) (by rw[n];exact fJ a) hx hf
theorem pxG {a b:Expr}{ta tb:TE}(K:`F)(ha:PE X a ta)(hb:PE X b tb)(h:X.K=K)(hs:PlainIx b):PE X (.Subscript a b p) (tOp (rIy K) ta tb):=kh (lH h) ha hb hs
theorem glD {mg:Str->Option Value}{v:V}(c:Cn mg x v)(e:X.mg=mg)(hg:Gl X x)(hd:(x == ("__debug__" : Str))=false):PE X (.Name x p) (tC v):=let ⟨_,m,r⟩:=c;bE hg (e▸m) r hd
theorem glC {v:V}(c:Cn X.mg x v)(hg:Gl X x:=by rfl)(hd:(x == ("__debug__" : Str))=false:=by decide):PE X (.Name x p) (tC v):=glD c rfl hg hd
end
abbrev Sc (n:Nat)(N:List Str)(s:Stmt):Prop:=FnScope N (N.take n) (defScope s)
theorem lnF {P:Program}{w:World}{K:`F}{mg:Str->Option Value}{base:Heap}{x:Str}{st:Stmt}{N ps:List Str}{k:Nat}{sp:Sp}{f:Fd K mg x st ps}(sc:FnScope N ps (defScope st))
  (b:∀(cdv:Value) (A:Around) (outer:List Env) (s:Shared) (H:Hp) (vs:`V) (Q:VK) (E:XK),Room k (A.deeper (PyProof.Rows.envOfC x (defScope st) `z f.a cdv))->sp vs H Q E ->
   ∃t,PSs (cxOf CX0 P w K mg base N x (defScope st) f.a cdv A outer s H E).nox (defBody st) t/\t {nx:=λ_ H'=>Q .non H',rt:=Q} (start N vs) H)
  (a:∀(vs:`V) (H:Hp) (Q:VK) (E:XK),sp vs H Q E->vs.length=ps.length:=by intro _ _ _ _ h;cases h;subst_vars;rfl):f.Ok P w base (k+1) sp:=f.F.ok sc a b
end L2
namespace Wm
open PySem L2
noncomputable def wNone:Tq:=[110,111,110,101]
noncomputable def wOk:Tq:=[111,107]
noncomputable def wGo:Tq:=[103,111]
noncomputable def wLead:Tq:=[108,101,97,100]
noncomputable def wAdd:Tq:=[97,100,100]
noncomputable def wBoth:Tq:=[98,111,116,104]
noncomputable def vlT:Vl->Tq
 |.txt l=>wr l
 |.int i=>dg i
 |.lst ls=>joinT 44 (ls.map wr)
def VlS:Vl->Prop
 |.txt l=>(∀c∈l,isSg c=true)/\`L<=70
 |.int i=>0<=i/\i < 10 ^ 60
 |.lst ls=>(∀l∈ls,(∀c∈l,isSg c=true)/\`L<=70)/\ls.length<=6
theorem lg60 {i:Int}(h:0<=i)(h':i < 10 ^ 60):i.natAbs.log2 < 1920:=by
 by_cases h0:i.natAbs=0
 .rw[h0];decide
 .rw[Nat.log2_lt h0];have:i.natAbs < 10 ^ 60:=by lia
  exact Nat.lt_of_lt_of_le this `k
theorem BndV.get {H:Hp}{l:Addr}{bs:List (Tq×Vl)}{ys:`V}(hh:BndV H l bs ys){i:Nat}{v:V}(e:ys[i]?=some v):∃(b:Tq×Vl) (p:Addr) (w:V),bs[i]?=some b/\v=.ref p/\H p=some (.tup [tV b.1,w])/\VlV H b.2 w:=by
 induction hh generalizing i with
 |nil=>cases e
 |cons h1 h2 _ _ ih=>
  cases i with
  |zero=>cases e;exact⟨_,_,_,rfl,rfl,h1,h2⟩
  |succ i=>exact ih e
theorem Df {i:Int}(h:0<=i)(h':i < 10 ^ 60):(dg i).length<=60:=by obtain⟨n,rfl⟩:=Int.eq_ofNat_of_zero_le h;unfold dg;rw[PySem.W.KIN.signs_num,length_map];exact oB `l
theorem fK {x:Vl}(h:VlS x):(vlT x).length<=1300:=by
 cases x with
 |txt l=>have:=au l;have:=h.2;show (wr l).length<=_;lia
 |int i=>have:=Df h.1 h.2;show (dg i).length<=_;lia
 |lst ls=>
  have:=(bB 44 210 (ws:=ls.map wr) λw hw=>by obtain⟨l,hl,rfl⟩:=mem_map.mp hw;have:=au l;have:=(h.1 l hl).2;lia).1
  rw[length_map] at this;have:=h.2;show (joinT 44 (ls.map wr)).length<=_;lia
theorem pH:∀{cs:List Pc}{ss:List Tq},(∀(i:Nat) (c:Pc),cs[i]?=some c->∃s,ss[i]?=some s/\fitsM c s=true)->(∀s∈ss,(∀c∈s,isSg c=true)/\s.length<=70)->ss.length<=6->∀p∈boundM cs ss,VlS p.2
 |[],_,_,_,_,p,hp=>by cases hp
 |c::cs,ss,hf,h,hl,p,hp=>by
  have hp:p∈(if c.isStep then [] else [(c.name,bvM c ss)])++boundM cs (ss.drop 1):=hp;obtain⟨s,h0,hfs⟩:=hf 0 c rfl;cases ss with
  |nil=>cases h0
  |cons s' ss=>
   cases h0;rcases mem_append.mp hp with z|z
   .cases hs:c.isStep with
    |true=>rw[hs] at z;cases z
    |false=>
     rw[hs] at z;have z:p=(c.name,bvM c (s::ss)):=by simpa using z
     have hh:=h s `f;rw[z];have am:∀a b:Tq,(∀x∈amid a b s,isSg x=true)/\(amid a b s).length<=70:=λa b=>⟨λx hx=>hh.1 x (Cb x hx),Nat.le_trans Cc hh.2⟩;cases c with
     |step w=>cases hs
     |rest n=>exact⟨h,hl⟩
     |num n=>
      have hn:numB s=true:=by have e:fitsM (.num n) s=(!isDot s && numB s):=rfl;rw[e,Bool.and_eq_true] at hfs;exact hfs.2
      exact (C7 hn).2
     |_=>exact am _ _
   .exact pH (λi d hd=>hf (i+1) d hd) (λx hx=>h x (mem_cons_of_mem _ hx)) (by rw[length_cons] at hl;show ss.length<=6;lia) p z
noncomputable def valT (b:Tq×Vl):Tq:=b.1++61::vlT b.2
noncomputable def leadT (n:Tq)(bs:List (Tq×Vl)):Tq:=joinT 32 (n::bs.map valT)
theorem Dg (n:Tq)(bs:List (Tq×Vl))(b:Tq×Vl):leadT n (bs++[b])=leadT n bs++32::valT b:=by
 have:∀l:List Tq,tlT 32 (l++[valT b])=tlT 32 l++32::valT b:=λl=>by
  induction l with
  |nil=>simp[tlT]
  |cons a l ih=>simp[tlT,ih]
 show n++tlT 32 ((bs++[b]).map valT)=(n++tlT 32 (bs.map valT))++32::valT b;rw[map_append,map_cons,map_nil,this,append_assoc]
noncomputable def putR (T:List Rw)(t:Rw):List Rw:=if T.any (λr=>decide (r.1=t.1))=true then T.map (λr=>if r.1=t.1 then t else r) else T++[t]
theorem pI {T:List Rw}{t r:Rw}(h:r∈putR T t):r∈T\/r=t:=by
 unfold putR at h;split at h
 .obtain⟨x,hx,rfl⟩:=mem_map.mp h;split
  .exact .inr rfl
  .exact .inl hx
 .rcases mem_append.mp h with z|z
  .exact .inl z
  .exact .inr (mem_singleton.mp z)
theorem Dh (T:List Rw)(t:Rw):(putR T t).length<=T.length+1/\0 < (putR T t).length:=by
 unfold putR;split
 .rename_i h;rw[length_map];refine⟨`l,?_⟩;cases T with
  |nil=>cases h
  |cons a T=>exact Nat.succ_pos _
 .rw[length_append];exact⟨Nat.le_refl _,Nat.succ_pos _⟩
theorem Di {T:List Rw}{t:Rw}(h:(T.map (·.1)).Nodup):((putR T t).map (·.1)).Nodup:=by
 unfold putR;split
 .rw[map_map,show ((λr:Rw=>r.1) ∘ λr=>if r.1=t.1 then t else r)=(·.1) from funext λr=>by
   show (if r.1=t.1 then t else r).1=r.1;split
   .rename_i e;exact e.symm
   .rfl]
  exact h
 .rename_i hn;rw[map_append,nodup_append];refine⟨h,nodup_cons.mpr ⟨not_mem_nil,nodup_nil⟩,λa ha b hb e=>hn ?_⟩;obtain⟨r,hr,rfl⟩:=mem_map.mp ha;rw[any_eq_true];exact⟨r,hr,decide_eq_true (by rw[e];exact mem_singleton.mp hb)⟩
theorem jC {t:Rw}:∀{T:List Rw},(T.map (·.1)).Nodup->t∈T->T.find? (λr=>decide (r.1=t.1))=some t
 |r::T,h,ht=>by
  obtain⟨h1,h2⟩:=nodup_cons.mp h;rw[List.find?_cons];rcases mem_cons.mp ht with rfl|z
  .rw[decide_eq_true rfl]
  .rw[decide_eq_false λe=>h1 (by show r.1∈_;rw[e];exact mem_map_of_mem z)];exact jC h2 z
theorem Dj {t:Rw}:∀{T:List Rw}{i:Nat},(T.map (·.1)).Nodup->(T.map (·.1))[i]?=some t.1->putR T t=T.set i t:=by
 have dl:∀{T:List Rw}{i:Nat},(T.map (·.1)).Nodup->(T.map (·.1))[i]?=some t.1->T.map (λr=>if r.1=t.1 then t else r)=T.set i t:=λ{T}=>by
  induction T with
  |nil=>intro i _ h;cases h
  |cons r T ih=>
   intro i h hi;obtain⟨h1,h2⟩:=nodup_cons.mp h;cases i with
   |zero=>
    have e:r.1=t.1:=Option.some.inj hi;rw[map_cons,if_pos e,List.set_cons_zero];refine congrArg _ ?_
    conv=>rhs;rw[<- map_id T]
    refine map_congr_left λx hx=>?_;rw[if_neg λz=>h1 (by show r.1∈_;rw[e,<- z];exact mem_map_of_mem hx)];rfl
   |succ i=>have hi:(T.map (·.1))[i]?=some t.1:=hi;rw[map_cons,if_neg λz=>h1 (by show r.1∈_;rw[z];exact mem_of_getElem? hi),List.set_cons_succ,ih h2 hi]
 intro T i h hi;unfold putR;rw[if_pos,dl h hi];obtain⟨r,hr,e⟩:=mem_map.mp (mem_of_getElem? hi);rw[any_eq_true];exact⟨r,hr,decide_eq_true e⟩
theorem TbV.row {H:Hp}{T:List Rw}{ws:`V}(h:TbV H T ws){i:Nat}{r:Rw}(e:T[i]?=some r):∃v,ws[i]?=some v/\RwAt H r v:=by have hl:=h.length;obtain⟨v,hv⟩:∃v,ws[i]?=some v:=⟨_,List.getElem?_eq_getElem (by rw[hl];exact (List.getElem?_eq_some_iff.mp e).1)⟩;obtain⟨r',e',a⟩:=h.get hv;rw[e] at e';cases e';exact⟨v,hv,a⟩
theorem TbV.set {H:Hp}{t:Rw}{v:V}(hv:RwAt H t v){T:List Rw}{ws:`V}(h:TbV H T ws):∀i,TbV H (T.set i t) (ws.set i v):=by
 induction h with
 |nil=>intro i;exact .nil
 |cons a b ih=>
  intro i;cases i with
  |zero=>exact .cons hv b
  |succ i=>exact .cons a (ih i)
def RwG (r:Rw):Prop:=NmOk r.1/\PtG r.2.1 r.2.2/\PcsOk r.2.1
theorem pJ {H:Hp}:∀{cs:List Pc}{xs:`V},IsTAll H (cs.map pcD) xs->PcT H cs xs
 |[],_,.nil=>.nil
 |c::cs,_,.cons h t=>by obtain⟨p,rfl,hp⟩:=j2 h.is;exact .cons hp (pJ t)
theorem Dk {H:Hp}{cs:List Pc}{e:Bool}{v:V}(h:IsT H (.tuple [.tuple (cs.map pcD),.bool e]) v):∃p,v=.ref p/\PtAt H cs e p:=by
 obtain⟨p,zs,rfl,hp,hz⟩:=bw h;cases hz with
 |cons h1 h2=>
  cases h2 with
  |cons h3 h4=>cases h4;cases h3;obtain⟨q,xs,rfl,hq,hx⟩:=bw h1;exact⟨p,rfl,q,xs,hp,hq,pJ hx⟩
theorem fL {t:Rw}{e:Bool}{ss:List Tq}(g:RwG t)(h:fitsP t.2.1 t.2.2 true ss e=true)(hs:∀s∈ss,(∀c∈s,isSg c=true)/\s.length<=70)(hl:ss.length<=6):t.1.length<=8/\(boundM t.2.1 ss).length<=12/\∀b∈boundM t.2.1 ss,b.1.length<=8/\VlS b.2:=by
 refine⟨g.1.1.2,Nat.le_trans (il _ _) g.2.1.2.2.2.1,λb hb=>⟨?_,pH (λi c hc=>nz h hc) hs hl b hb⟩⟩;have h1:b.1∈gapsM t.2.1:=by rw[<- oA t.2.1 ss];exact mem_map_of_mem hb
 unfold gapsM at h1;obtain⟨c,hc,e⟩:=mem_map.mp h1;obtain⟨h2,h3⟩:=mem_filter.mp hc;rw[<- e];exact (g.2.1.2.1 c h2 (by simpa using h3)).1.2
theorem c9 {T:List Rw}{p:Rw->Bool}{b:Rw}{L:List Rw}(h:T.filter p=b::L):mostM mrR b L∈T/\p (mostM mrR b L)=true:=
 mem_filter.mp (by rw[h];exact fC L b)
theorem Dl {ns:List Tq}{ds:List Pc}{e:Bool}(nd:ns.Nodup)(ok:∀n∈ns,NmOk n)(ho:∀c∈ds,PcOk c/\PcSg c)(h:∀(j:Nat) (c:Pc),ds[j]?=some c->c.isRest=false/\(c.isStep=false->ns[j]?=some c.name))(hl:ds.length<=12)(he:ds=[]->e=true):PtG ds e:=by
 refine⟨⟨λc hc=>(ho c hc).1,λi c hc hr=>?_⟩,λc hc hs=>?_,(iw nd (cs:=ds) 0 λi c hc hs=>by rw[Nat.zero_add];exact (h i c hc).2 hs).1,hl,he⟩
 .rw[(h i c hc).1] at hr;cases hr
 .obtain⟨i,hi⟩:=List.getElem?_of_mem hc;exact ok _ (mem_of_getElem? ((h i c hi).2 hs))
theorem Dm {ns:List Tq}{ds:List Pc}{e:Bool}{m:Nat}{nm:Tq}(nd:ns.Nodup)(ok:∀n∈ns,NmOk n)(ho:∀c∈ds,PcOk c/\PcSg c)(h:∀(j:Nat) (c:Pc),ds[j]?=some c->c.isRest=false/\(c.isStep=false->ns[j]?=some c.name))(hl:ds.length<=6)(hn:ns[6]?=some nm)(hm:m < ds.length):PtG (ds.take m++[.rest nm]) e:=by
 have dl:(ds.take m).length=m:=by rw[length_take];lia
 have g:∀(i:Nat) (c:Pc),(ds.take m++[Pc.rest nm])[i]?=some c->(i < m/\ds[i]?=some c)\/(i=m/\c=.rest nm):=λi c hc=>by
  by_cases hi:i < m
  .rw[List.getElem?_append_left `l,List.getElem?_take,if_pos hi] at hc;exact .inl ⟨hi,hc⟩
  .have:=(List.getElem?_eq_some_iff.mp hc).1;rw[length_append,dl,length_singleton] at this;have e:i=m:=by lia
   subst e;rw[List.getElem?_append_right `l,dl,Nat.sub_self] at hc;exact .inr ⟨rfl,(Option.some.inj hc).symm⟩
 have BT:(ns.take m++[nm]).Nodup:=by
  refine List.Sublist.nodup ?_ nd;have:nm∈ns.drop m:=by refine mem_of_getElem? (i:=6 - m) ?_;rw[List.getElem?_drop,show m+(6 - m)=6 by lia];exact hn
  have s:=List.Sublist.append (List.Sublist.refl (ns.take m)) (List.singleton_sublist.mpr this);rw[take_append_drop] at s;exact s
 have n7:6 < ns.length:=(List.getElem?_eq_some_iff.mp hn).1;have mt:∀(i:Nat) (c:Pc),(ds.take m++[Pc.rest nm])[i]?=some c->c.isStep=false->(ns.take m++[nm])[0+i]?=some c.name:=λi c hc hs=>by
  rw[Nat.zero_add];have Cl:(ns.take m).length=m:=by rw[length_take];lia
  rcases g i c hc with⟨h1,h2⟩|⟨h1,h2⟩
  .rw[List.getElem?_append_left `l,List.getElem?_take,if_pos h1];exact (h i c h2).2 hs
  .rw[h1,h2,List.getElem?_append_right `l,Cl,Nat.sub_self];rfl
 refine⟨⟨λc hc=>?_,λi c hc hr=>?_⟩,λc hc hs=>?_,(iw BT (cs:=ds.take m++[.rest nm]) 0 mt).1,by rw[length_append,dl,length_singleton];lia,λz=>by simp at z⟩
 .rcases mem_append.mp hc with z|z
  .exact (ho c (mem_of_mem_take z)).1
  .rw[mem_singleton.mp z];trivial
 .rcases g i c hc with⟨h1,h2⟩|⟨h1,h2⟩
  .rw[(h i c h2).1] at hr;cases hr
  .rw[length_append,dl,length_singleton,h1]
 .obtain⟨i,hi⟩:=List.getElem?_of_mem hc;rcases g i c hi with⟨h1,h2⟩|⟨h1,h2⟩
  .exact ok _ (mem_of_getElem? ((h i c h2).2 hs))
  .rw[h2];exact ok _ (mem_of_getElem? hn)
noncomputable def bthT (t u:Rw):Tq:=match meetM t.2.1 t.2.2 u.2.1 u.2.2 with|none=>wNone|some w=>wayT true w t.2.2
noncomputable def w12 (i:Nat):Tq:=if i=0 then [111,110,101] else [116,119,111]
noncomputable def moR (n:Tq)(e:Bool)(i:Nat):Rw:=(n,[.step (w12 i),.gap [97]],e)
theorem pK {n:Tq}{e:Bool}(i:Nat)(h:NmOk n):RwG (moR n e i):=by
 have hw:PcOk (.step (w12 i))/\PcSg (.step (w12 i)):=by
  have:∀w∈[[111,110,101],[116,119,111]],PcOk (.step w):=by intro w hw;simp only[mem_cons,not_mem_nil,or_false] at hw;rcases hw with rfl|rfl <;> exact⟨`d,`d,`k,`k⟩
  have o:=this (w12 i) (by unfold w12;split <;> simp)
  exact⟨o,f9 o λx hx=>by cases hx⟩
 have hg:NmOk [97]:=⟨`d,`k⟩;have hp:∀c∈[Pc.step (w12 i),.gap [97]],PcOk c/\PcSg c:=λc hc=>by
  simp only[mem_cons,not_mem_nil,or_false] at hc;rcases hc with rfl|rfl
  .exact hw
  .exact⟨trivial,f9 trivial (o6 hg.2)⟩
 refine⟨h,⟨⟨λc hc=>(hp c hc).1,λj c hc hr=>?_⟩,λc hc hs=>?_,by show [[97]].Nodup;simp,by show 2<=12;decide,λz=>by cases z⟩,by show 2<=90;decide,hp⟩
 .match j,hc with
  |0,hc=>cases hc;cases hr
  |1,hc=>cases hc;cases hr
  |j+2,hc=>cases hc
 .simp only[moR,mem_cons,not_mem_nil,or_false] at hc;rcases hc with rfl|rfl
  .cases hs
  .exact hg
theorem pL {m n:Tq}{e:Bool}:bthT (moR m e 0) (moR n e 1)=wNone/\bthT (moR n e 1) (moR m e 0)=wNone:=by
 have a:∀e,meetM [.step [111,110,101],.gap [97]] e [.step [116,119,111],.gap [97]] e=none:=by fail "k"
 have b:∀e,meetM [.step [116,119,111],.gap [97]] e [.step [111,110,101],.gap [97]] e=none:=by fail "k"
 exact⟨by unfold bthT;show (match meetM _ e _ e with|none=>_|some w=>_)=_;rw[show (moR m e 0).2.1=[.step [111,110,101],.gap [97]] from rfl,show (moR n e 1).2.1=[.step [116,119,111],.gap [97]] from rfl,a],by unfold bthT;show (match meetM _ e _ e with|none=>_|some w=>_)=_;rw[show (moR m e 0).2.1=[.step [111,110,101],.gap [97]] from rfl,show (moR n e 1).2.1=[.step [116,119,111],.gap [97]] from rfl,b]⟩
theorem pM {T:List Rw}{t:Rw}(h:t.1∉T.map (·.1)):putR T t=T++[t]:=by unfold putR;rw[if_neg λz=>?_];obtain⟨r,hr,e⟩:=any_eq_true.mp z;exact h (by rw[<- of_decide_eq_true e];exact mem_map_of_mem hr)
theorem jD {xs:`V}{v:V}:atI (xs++[v]) (-1)=some v:=by
 have:=cI (λx:V=>x) (l:=xs++[v]) (s:=v) `s
 rwa [map_id'] at this
theorem Dn {n:Tq}{T:List Rw}(h:(T.any λt=>decide (t.1=n))=true):∃j:Nat,(T.map (·.1))[j]?=some n/\∀i:Nat,i < j->(T.map (·.1))[i]?≠some n:=by
 induction T with
 |nil=>cases h
 |cons t T ih=>
  by_cases e:t.1=n
  .exact⟨0,congrArg some e,λi hi=>`l⟩
  .rw[any_cons,decide_eq_false e,Bool.false_or] at h;obtain⟨j,h1,h2⟩:=ih h;refine⟨j+1,h1,λi hi=>?_⟩;cases i with
   |zero=>exact λz=>e (Option.some.inj z)
   |succ i=>exact h2 i `l
inductive LwC (K:`F)(C a:Addr)(ns:List Int)(Z:St)(H:Hp):Prop
 |mk (nm:List Tq) (pn:Addr) (sg:Tq) (r t p lt:Addr) (e:Bool) (ss:List Tq) (h:Z=[some (.ref a),some (.ref pn),some (tV sg),some (.ref r),some (.ref p),none,none,none,none,none]) (h1:nm.length=7) (hnm:∀n∈nm,NmOk n) (hnd:nm.Nodup) (hg0:0 < sg.length) (hg1:sg.length<=5) (hgs:∀x∈sg,isSg x=true)
  (hsl:ss.length<=6) (hss:∀l∈ss,StOk l) (hse:ss=[]->e=true) (hn:H pn=some (.lst (nm.map tV))) (hr:H r=some (.tup [.bl true,.ref t,.bl e])) (ht:H t=some (.tup (ss.map tV))) (d:DsT K H C p (atW ss e) [] lt) (hS:SqL K H a (ns.map V.int)):LwC K C a ns Z H
inductive LwJ (K:`F)(C a pn r p l:Addr)(sg:Tq)(ss nm:List Tq)(e:Bool)(H9:Hp)(i:Nat)(Z:St)(H:Hp):Prop
 |mk (o:Ot p l H9 H) (T:List Rw) (ws:`V) (lt:Addr) (v6 v7 v8 v9:Option V) (h:Z=[some (.ref a),some (.ref pn),some (tV sg),some (.ref r),some (.ref p),some (.ref l),v6,v7,v8,v9]) (d:DsT K H C p (atW ss e) T lt) (ne:lt≠l) (hl:H l=some (.lst ws)) (hT:TbV H T ws) (nd:(T.map (·.1)).Nodup) (hG:∀u∈T,RwG u) (hTl:T.length<=i) (h0:0 < i->0 < T.length) (hin:∀u∈T,u.1∈nm.take 4):LwJ K C a pn r p l sg ss nm e H9 i Z H
inductive LwD (K:`F)(C p l:Addr)(st:St)(ss:List Tq)(e:Bool)(T:List Rw)(ws:`V)(pk pa:Addr)(cs:List Pc)(nj:Tq)(H9 Ha:Hp)(Z:St)(H:Hp):Prop
 |mk (lt:Addr) (h:Z=st) (o:Ot p l H9 H) (hT:SameT Ha H) (d:DsT K H C p (atW ss e) (putR T (nj,cs,e)) lt) (ne:lt≠l) (hl:H l=some (.lst ws)) (hk:H pk=some (.lst ((T.map λt=>mkS t.1).map V.str))) (hp:PtAt H cs e pa):LwD K C p l st ss e T ws pk pa cs nj H9 Ha Z H
noncomputable def top (i:Nat):Stmt:=PySem.Challenge.pw_waymark_k86_a_desk_leads.main.body.getD i (.Pass ⟨0,0,0,0⟩)
noncomputable def jE:List (Str×PyData):=[(ofString "step",.int 6),(ofString "part",.int 5),(ofString "number",.int 4),(ofString "word",.int 3),(ofString "gap",.int 2),(ofString "rest",.int 1)]
noncomputable def jF:List (Str×PyData):=[(ofString "at",.int 0),(ofString "go",.int 0),(ofString "link",.int 0),(ofString "add",.int 1),(ofString "lead",.int 0),(ofString "both",.int 2)]
noncomputable abbrev jG:V:=.str (ofString "abcdefghijklmnopqrstuvwxyz")
noncomputable abbrev pN:V:=.str (ofString "0123456789")
noncomputable abbrev pO:V:=.str (ofString "abcdefghijklmnopqrstuvwxyzABCDEFGHIJKLMNOPQRSTUVWXYZ0123456789-_.")
noncomputable abbrev fM:V:=.str (ofString "!$'()*,;@&=+")
noncomputable abbrev pP:V:=.str (ofString ".")
noncomputable abbrev k_UP:V:=.str (ofString "..")
noncomputable abbrev pQ:V:=.str (ofString "234567")
set_option genInjectivity false
set_option genSizeOf false
set_option genSizeOfSpec false
structure D (K:`F)(mg:Str->Option Value) where
 Do:Fd K mg "made_of" (top 16) ["text","signs"]
 jH:Fd K mg "pair_of" (top 17) ["sign"]
 pR:Fd K mg "figure_number" (top 19) ["figure"]
 Dp:Fd K mg "sign_numbered" (top 20) ["number"]
 Dq:Fd K mg "is_whole" (top 37) ["address"]
 Dr:Fd K mg "is_tuple" (top 39) ["thing","count"]
 Ds:Fd K mg "is_whole_number" (top 41) ["thing"]
 jI:Fd K mg "slashed" (top 53) ["rooted","texts","ends"]
 pS:Fd K mg "shown_question" (top 54) ["question"]
 Dt:Fd K mg "is_dot" (top 61) ["step"]
 Du:Fd K mg "go_up" (top 64) ["left","rooted"]
 Dv:Fd K mg "rests_stand_last" (top 79) ["pieces"]
 pT:Fd K mg "is_gap" (top 82) ["piece"]
 pU:Fd K mg "name_of" (top 83) ["gap"]
 Dw:Fd K mg "head_of" (top 84) ["piece"]
 Dx:Fd K mg "tail_of" (top 85) ["piece"]
 Dy:Fd K mg "has_rest" (top 86) ["pattern"]
 pV:Fd K mg "texts_around" (top 105) ["head","tail"]
 Dz:Fd K mg "question_from" (top 138) ["base","address"]
 DA:Fd K mg "pattern_named" (top 146) ["table","name"]
 DB:Fd K mg "read_row" (top 152) ["row"]
 DC:Fd K mg "stands_in" (top 154) ["table","name"]
 jJ:Fd K mg "_law_cell_at" (top 159) ["_law_script","_law_k"]
 DD:Fd K mg "_law_names" (top 161) ["_law_cell","_law_many"]
 DE:Fd K mg "_law_signs" (top 162) ["_law_cell"]
 DF:Fd K mg "_law_run" (top 163) ["_law_cell","_law_signs_here","_law_many"]
 pW:Fd K mg "_law_fits_step" (top 165) ["_law_piece","_law_step"]
 DG:Fd K mg "_law_is_way" (top 167) ["_law_found"]
 pX:Fd K mg "_law_written" (top 172) ["_law_text_here"]
 DH:Fd K mg "is_text" (top 15) ["thing"]
 pY:Fd K mg "sign_of" (top 18) ["figures"]
 fN:Fd K mg "written" (top 21) ["text"]
 DI:Fd K mg "steps_left" (top 63) ["steps","rooted"]
 DJ:Fd K mg "is_name" (top 78) ["thing"]
 DK:Fd K mg "names_of" (top 81) ["pieces"]
 DL:Fd K mg "spread" (top 97) ["pattern","count"]
 DM:Fd K mg "fits_part" (top 99) ["part","step"]
 DN:Fd K mg "is_number" (top 100) ["text"]
 DO:Fd K mg "is_word" (top 101) ["text"]
 pZ:Fd K mg "bound_value" (top 102) ["gap","steps"]
 DP:Fd K mg "taken_door" (top 117) ["cursor"]
 DQ:Fd K mg "taken_question" (top 120) ["cursor"]
 DR:Fd K mg "worth_of" (top 142) ["piece"]
 DS:Fd K mg "has_room" (top 153) ["table","name"]
 DT:Fd K mg "with_entry" (top 155) ["table","name","pattern"]
 DU:Fd K mg "_law_cells" (top 160) ["_law_script","_law_start","_law_many"]
 DV:Fd K mg "_law_text" (top 164) ["_law_cell","_law_signs_here","_law_many"]
 DW:Fd K mg "_law_fits" (top 166) ["_law_pattern","_law_way"]
 pe:Fd K mg "_law_general" (top 168) ["_law_step","_law_cell","_law_name"]
 pf:Fd K mg "sign_written" (top 23) ["piece","free"]
 DX:Fd K mg "is_scheme" (top 38) ["thing"]
 DY:Fd K mg "is_filled_text" (top 40) ["thing"]
 DZ:Fd K mg "shown_house" (top 51) ["house","door"]
 E1:Fd K mg "shown_way" (top 52) ["way"]
 pi:Fd K mg "shown_mark" (top 56) ["mark"]
 E2:Fd K mg "gone" (top 62) ["way"]
 E3:Fd K mg "are_ends_of_part" (top 77) ["head","tail"]
 E4:Fd K mg "names_are_unlike" (top 80) ["pieces"]
 pj:Fd K mg "shown_piece" (top 91) ["piece"]
 jK:Fd K mg "step_fits" (top 98) ["piece","step"]
 E5:Fd K mg "taken_pair" (top 125) ["cursor"]
 E6:Fd K mg "worth_more" (top 141) ["one","other"]
 pp:Fd K mg "shown_value" (top 157) ["value"]
 E7:Fd K mg "_law_general_pattern" (top 169) ["_law_way","_law_cells_here","_law_names_here"]
 pq:Fd K mg "_law_one_step" (top 170) ["_law_cell","_law_signs_here"]
 E8:Fd K mg "show" (top 50) ["address"]
 q0:Fd K mg "with_way_gone" (top 65) ["address"]
 E9:Fd K mg "holder" (top 66) ["way"]
 qA:Fd K mg "is_piece" (top 76) ["thing"]
 Ea:Fd K mg "show_pattern" (top 90) ["pattern"]
 qB:Fd K mg "fits" (top 96) ["pattern","way"]
 Eb:Fd K mg "fitting_texts" (top 106) ["piece"]
 Ec:Fd K mg "taken_scheme" (top 115) ["cursor"]
 Ed:Fd K mg "worth_most" (top 145) ["entries"]
 Ee:Fd K mg "shown_lead" (top 156) ["led"]
 Ef:Fd K mg "_law_drawn_way" (top 171) ["_law_script","_law_start","_law_signs_here"]
 Eg:Fd K mg "are_pieces" (top 75) ["things"]
 Eh:Fd K mg "read_gap" (top 89) ["head","inside","tail"]
 Ei:Fd K mg "bound" (top 95) ["pattern","way"]
 Ej:Fd K mg "texts_for_both" (top 110) ["piece","beside"]
 Ek:Fd K mg "taken_way" (top 119) ["cursor","must_be_rooted"]
 El:Fd K mg "taken_mark" (top 122) ["cursor"]
 Em:Fd K mg "plain" (top 127) ["address"]
 En:Fd K mg "way_from" (top 137) ["base_way","way"]
 Eo:Fd K mg "is_pattern" (top 74) ["thing"]
 qC:Fd K mg "read_piece" (top 88) ["text"]
 qE:Fd K mg "step_for_both" (top 109) ["piece","beside"]
 Ep:Fd K mg "taken_house" (top 116) ["cursor"]
 Er:Fd K mg "made_whole" (top 136) ["base","address"]
 Es:Fd K mg "lead" (top 144) ["table","way"]
 Et:Fd K mg "read_pattern" (top 87) ["text"]
 Eu:Fd K mg "meeting" (top 108) ["one","other"]
 Ev:Fd K mg "read" (top 114) ["text"]
 Ew:Fd K mg "resolved" (top 135) ["base","address"]
 Ex:Fd K mg "_law_lead_text" (top 173) ["_law_table","_law_way"]
 Ey:Fd K mg "_law_both" (top 174) ["_law_desk","_law_one","_law_other"]
 Ez:Fd K mg "_law_goes_on" (top 176) ["_law_desk","_law_table","_law_way","_law_script","_law_signs_here"]
 EA:Fd K mg "_law_two_more" (top 175) ["_law_desk","_law_table","_law_names_here","_law_ends"]
 f_law:Fd K mg "law" (top 177) ["_law_script"]
 jL:Cn mg "SIGNS" (.str (ofString " !\"#$&'()*+,-./0123456789:;<=>?@ABCDEFGHIJKLMNOPQRSTUVWXYZ[\\]^_`abcdefghijklmnopqrstuvwxyz{|}~"))
 jM:Cn mg "SMALL_LETTERS" jG
 qF:Cn mg "LETTERS" (.str (ofString "abcdefghijklmnopqrstuvwxyzABCDEFGHIJKLMNOPQRSTUVWXYZ"))
 qG:Cn mg "LETTERS_AND_FIGURES" (.str (ofString "abcdefghijklmnopqrstuvwxyzABCDEFGHIJKLMNOPQRSTUVWXYZ0123456789"))
 qH:Cn mg "FIGURES" pN
 fO:Cn mg "PLAIN" pO
 fP:Cn mg "FREE_IN_STEPS" fM
 qI:Cn mg "FREE_IN_MARKS" (.str (ofString "!$'()*,;@&=+/?:"))
 qJ:Cn mg "FIRST_NUMBER" (.int 32)
 qK:Cn mg "LAST_NUMBER" (.int 126)
 qL:Cn mg "NUMBER_LEFT_OUT" (.int 37)
 jN:Cn mg "SMALL_FIGURES" (.str (ofString "0123456789abcdef"))
 qM:Cn mg "GREAT_FIGURES" (.str (ofString "0123456789ABCDEF"))
 dA:Cn mg "SCHEME" (.int 0)
 fQ:Cn mg "HOUSE" (.int 1)
 jO:Cn mg "DOOR" (.int 2)
 cN:Cn mg "WAY" (.int 3)
 fR:Cn mg "QUESTION" (.int 4)
 jP:Cn mg "MARK" (.int 5)
 dB:Cn mg "ROOTED" (.int 0)
 cA:Cn mg "STEPS" (.int 1)
 cO:Cn mg "ENDS" (.int 2)
 qN:Cn mg "LONGEST_SCHEME" (.int 8)
 qO:Cn mg "LONGEST_HOUSE" (.int 60)
 fT:Cn mg "STAY" pP
 c_UP:Cn mg "UP" k_UP
 bi:Cn mg "PIECES" (.int 0)
 dC:Cn mg "CLOSES" (.int 1)
 qP:Cn mg "MOST_PIECES" (.int 12)
 qQ:Cn mg "LONGEST_NAME" (.int 8)
 qR:Cn mg "LONGEST_NUMBER" (.int 60)
 qS:Cn mg "LONGEST_WORD" (.int 60)
 qU:Cn mg "TRIED_SIGNS" (.str (ofString "ab01"))
 qV:Cn mg "FIRST_FIGURES" pQ
 qW:Cn mg "MOST_PATTERNS" (.int 16)
 dD:BltN mg "all" (.builtin "all")
 jQ:BltN mg "ord" (.builtin "ord")
 aK:BltN mg "len" (.builtin "len")
 ak:BltN mg "isinstance" (.builtin "isinstance")
 bK:BltN mg "tuple" (.type "tuple")
 fU:BltN mg "bool" (.type "bool")
 fV:BltN mg "int" (.type "int")
 aw:BltN mg "str" (.type "str")
 bU:BltN mg "range" (.type "range")
 dE:BltN mg "list" (.type "list")
 qX:BltN mg "set" (.type "set")
 dF:BltN mg "zip" (.type "zip")
 fW:BltN mg "enumerate" (.type "enumerate")
 fX:BltN mg "max" (.builtin "max")
structure G (w:World)(K:`F)(mg:Str->Option Value) extends D K mg where
 fY:Addr
 fZ:FuncData
 qY:Fun K "__init__" "Cursor.__init__" (inClass (top 113) 0) fY fZ
 qZ:Binds K fZ ["self","text"] []
 fb:Addr
 fe:FuncData
 qc:Fun K "at_end" "Cursor.at_end" (inClass (top 113) 1) fb fe
 jR:Binds K fe ["self"] []
 ff:Addr
 fh:FuncData
 qd:Fun K "take" "Cursor.take" (inClass (top 113) 3) ff fh
 fi:Binds K fh ["self"] []
 fj:Addr
 fk:FuncData
 qe:Fun K "passes" "Cursor.passes" (inClass (top 113) 4) fj fk
 bc:Binds K fk ["self","text"] []
 ft:Addr
 fu:FuncData
 qf:Fun K "sees" "Cursor.sees" (inClass (top 113) 2) ft fu
 jS:Binds K fu ["self","signs"] []
 fw:Addr
 dG:FuncData
 qg:Addr
 qh:Tok
 dH:FunD K "undone" "undone" (top 22) fw dG qg
 EB:Binds K dG ["text","free"] [.str (ofString "") qh]
 fz:mg "undone"=some (.ref fw)
 g9:Binds K dG ["text","free"] []
 gA:Addr
 dI:FuncData
 qi:Addr
 EC:Tok
 cP:FunD K "taken_text" "taken_text" (top 124) gA dI qi
 gB:Binds K dI ["cursor","free","most"] [.none]
 dJ:mg "taken_text"=some (.ref gA)
 qj:Binds K dI ["cursor","free","most"] []
 gC:Addr
 dL:FuncData
 qk:Addr
 ED:Tok
 jT:FunD K "taken_filled_text" "taken_filled_text" (top 123) gC dL qk
 EE:Binds K dL ["cursor","free","most"] [.none]
 ql:mg "taken_filled_text"=some (.ref gC)
 qm:Binds K dL ["cursor","free","most"] []
 gD:Addr
 gE:FuncData
 qo:Fun K "__init__" "Desk.__init__" (inClass (top 151) 0) gD gE
 jU:Binds K gE ["self","text"] []
 gF:Addr
 gG:FuncData
 qp:Fun K "goal_of" "Desk.goal_of" (inClass (top 151) 2) gF gG
 qq:Binds K gG ["self","text"] []
 gH:Addr
 gI:FuncData
 qr:Fun K "put" "Desk.put" (inClass (top 151) 4) gH gI
 qt:Binds K gI ["self","name","text"] []
 gJ:Addr
 gK:FuncData
 qu:Fun K "both" "Desk.both" (inClass (top 151) 5) gJ gK
 qv:Binds K gK ["self","one","other"] []
 gL:Addr
 gM:FuncData
 qw:Fun K "go" "Desk.go" (inClass (top 151) 3) gL gM
 qz:Binds K gM ["self","text"] []
 gN:Addr
 gO:FuncData
 r8:Fun K "say" "Desk.say" (inClass (top 151) 1) gN gO
 ax:Binds K gO ["self","row"] []
 aN:Addr
 aQ:Cls K aN
 bj:NoAttr K aN "text"
 bC:NoAttr K aN "place"
 r9:mg "Cursor"=some (.ref aN)
 rA:Mk K aN fY
 jV:Meth K aN "at_end" fb
 gP:Meth K aN "take" ff
 bd:Meth K aN "passes" fj
 jW:Meth K aN "sees" ft
 aR:Addr
 aS:Cls K aR
 cQ:NoAttr K aR "address"
 bn:NoAttr K aR "table"
 jX:mg "Desk"=some (.ref aR)
 jY:Mk K aR gD
 rB:Meth K aR "goal_of" gF
 rC:Meth K aR "put" gH
 rD:Meth K aR "both" gJ
 rE:Meth K aR "go" gL
 ay:Meth K aR "say" gN
 dM:Addr
 jZ:mg "NO_WAY"=some (.ref dM)
 ja:∀H,IsK K H (.tuple [.bool false,.tuple [],.bool false]) (.ref dM)
 gQ:Addr
 rF:mg "NAMED_WORDS"=some (.ref gQ)
 rG:∀H,IsK K H (.tuple [.str (ofString "number"),.str (ofString "word"),.str (ofString "gap"),.str (ofString "rest")]) (.ref gQ)
 cR:Addr
 jb:mg "WRITTEN_WORDS"=some (.ref cR)
 gS:∀H,IsK K H (.tuple [.str (ofString "number"),.str (ofString "word"),.str (ofString "rest")]) (.ref cR)
 gT:Addr
 rH:mg "WORTH_OF_WORDS"=some (.ref gT)
 rJ:∀(P:Program) (h:Heap),K.In h->PyProof.Rows.StrTab P w h gT (jE.map λp=>(PyData.str p.1,p.2))
 dN:Addr
 jc:mg "NAMES_BEHIND"=some (.ref dN)
 jd:∀(P:Program) (h:Heap),K.In h->PyProof.Rows.StrTab P w h dN (jF.map λp=>(PyData.str p.1,p.2))
 dO:Addr
 je:mg "WITH_TEXT"=some (.ref dO)
 cS:∀H,IsK K H (.tuple [.str (ofString "go"),.str (ofString "link"),.str (ofString "add")]) (.ref dO)
inductive sp_made_of (vs:`V)(H:Hp)(Q:VK)(E:XK):Prop
 |mk (x y:Str):vs=[.str x,.str y]->x.length<=100000->(∀H',Same H H'->Q (.bl (x.cps.toList.all λc=>decide (c∈y.cps.toList))) H')->sp_made_of vs H Q E
def rK:Sp:=λvs H Q _=>∃c:Nat,vs=[one c]/\c < 256/\Q (.str ⟨[126,hexd (c / 16),hexd (c % 16)].toArray⟩) H
def rL:Sp:=λvs H Q _=>∃a:Nat,vs=[one a]/\a < 128/\Q (figV a) H
inductive sp_sign_numbered (vs:`V)(H:Hp)(Q:VK)(E:XK):Prop
 |mk (n:Nat):vs=[.int (n:Int)]->Q (sgV n) H->sp_sign_numbered vs H Q E
inductive sp_is_whole (K:`F)(vs:`V)(H:Hp)(Q:VK)(E:XK):Prop
 |mk (p:Addr) (l:Tq) (r:`V):vs=[.ref p]->SqT K H p (.str ⟨l.toArray⟩::r)->Q (.bl (!decide (l=[]))) H->sp_is_whole K vs H Q E
inductive sp_is_tuple (vs:`V)(H:Hp)(Q:VK)(E:XK):Prop
 |mk (d:PyData) (v:V) (n:Int):vs=[v,.int n]->Is H d v->Q (.bl (tupN n d)) H->sp_is_tuple vs H Q E
inductive sp_is_whole_number (vs:`V)(H:Hp)(Q:VK)(E:XK):Prop
 |mk (d:PyData) (v:V):vs=[v]->Is H d v->Q (.bl (match d with|.int _=>true|_=>false)) H->sp_is_whole_number vs H Q E
inductive sp_slashed (K:`F)(vs:`V)(H:Hp)(Q:VK)(E:XK):Prop
 |mk (r e:Bool) (p:Addr) (ts:List Tq):vs=[.bl r,.ref p,.bl e]->SqL K H p (ts.map λl=>V.str `A)->(joinT 47 ts).length<=90000->Q (.str ⟨(slT r ts e).toArray⟩) H->sp_slashed K vs H Q E
def EF:Sp:=λvs H Q _=>vs=[.non]/\Q (.str (ofString "")) H
inductive sp_is_dot (vs:`V)(H:Hp)(Q:VK)(E:XK):Prop
 |mk (s:Stp):vs=[sV s]->Q (.bl (isDot s)) H->sp_is_dot vs H Q E
inductive sp_go_up (K:`F)(vs:`V)(H:Hp)(Q:VK)(E:XK):Prop
 |mk (p:Addr) (L:List Stp) (r:Bool):vs=[.ref p,.bl r]->H p=some (.lst (L.map sV))->L.length<=2000->Q .non (upd H p (.lst ((goUp r L).map sV)))->sp_go_up K vs H Q E
inductive sp_rests_stand_last (K:`F)(vs:`V)(H:Hp)(Q:VK)(E:XK):Prop
 |mk (cs:List Pc) (xs:`V) (q:Addr):vs=[.ref q]->H q=some (.tup xs)->PcAll K H cs xs->cs.length<=1000->(∀H',Same H H'->Q (.bl (restsL cs)) H')->sp_rests_stand_last K vs H Q E
inductive sp_is_gap (K:`F)(vs:`V)(H:Hp)(Q:VK)(E:XK):Prop
 |mk (c:Pc) (p:Addr):vs=[.ref p]->SqT K H p c.vals->Q (.bl (!c.isStep)) H->sp_is_gap K vs H Q E
inductive sp_name_of (K:`F)(vs:`V)(H:Hp)(Q:VK)(E:XK):Prop
 |mk (c:Pc) (p:Addr):vs=[.ref p]->SqT K H p c.vals->c.isStep=false->Q (tV c.name) H->sp_name_of K vs H Q E
inductive sp_head_of (K:`F)(vs:`V)(H:Hp)(Q:VK)(E:XK):Prop
 |mk (c:Pc) (p:Addr):vs=[.ref p]->SqT K H p c.vals->Q (tV c.head) H->sp_head_of K vs H Q E
inductive sp_tail_of (K:`F)(vs:`V)(H:Hp)(Q:VK)(E:XK):Prop
 |mk (c:Pc) (p:Addr):vs=[.ref p]->SqT K H p c.vals->Q (tV c.tail) H->sp_tail_of K vs H Q E
inductive sp_has_rest (K:`F)(vs:`V)(H:Hp)(Q:VK)(E:XK):Prop
 |mk (cs:List Pc) (xs:`V) (p q:Addr) (e:Bool):vs=[.ref p]->SqT K H p [.ref q,.bl e]->SqT K H q xs->PcAll K H cs xs->cs.length<=1000->Q (.bl (hasRest cs)) H->sp_has_rest K vs H Q E
inductive sp_texts_around (K:`F)(vs:`V)(H:Hp)(Q:VK)(E:XK):Prop
 |mk (h t:Tq):vs=[tV h,tV t]->h.length<=40000->`t<=40000->(∀(p:Addr) (H':Hp),Same H H'->H' p=some (.lst ((trialsM h t).map tV))->Q (.ref p) H')->sp_texts_around K vs H Q E
inductive sp_Cursor___init__ (K:`F)(C:Addr)(vs:`V)(H:Hp)(Q:VK)(E:XK):Prop
 |mk (p dx:Addr) (t:Tq):vs=[.ref p,.str ⟨t.toArray⟩]->H p=some (.ins C dx [])->(∀H',SameBut p H H'->Cur H' C p t 0->Q .non H')->sp_Cursor___init__ K C vs H Q E
inductive sp_Cursor_at_end (K:`F)(C:Addr)(vs:`V)(H:Hp)(Q:VK)(E:XK):Prop
 |mk (p:Addr) (t:Tq) (i:Nat):vs=[.ref p]->Cur H C p t i->`t<=100000->Q (.bl (decide (i=`t))) H->sp_Cursor_at_end K C vs H Q E
inductive sp_Cursor_take (K:`F)(C:Addr)(vs:`V)(H:Hp)(Q:VK)(E:XK):Prop
 |mk (p:Addr) (t:Tq) (i c:Nat):vs=[.ref p]->Cur H C p t i->t[i]?=some c->`t<=100000->(∀H',SameBut p H H'->Cur H' C p t (i+1)->Q (.str ⟨#[c]⟩) H')->sp_Cursor_take K C vs H Q E
inductive sp_Cursor_passes (K:`F)(C:Addr)(vs:`V)(H:Hp)(Q:VK)(E:XK):Prop
 |mk (p:Addr) (t w:Tq) (i:Nat):vs=[.ref p,.str ⟨w.toArray⟩]->Cur H C p t i->i<=`t->`t<=100000->((t.drop i).take w.length=w->∀H',SameBut p H H'->Cur H' C p t (i+w.length)->Q (.bl true) H')->(¬ (t.drop i).take w.length=w->Q (.bl false) H)->sp_Cursor_passes K C vs H Q E
inductive sp_question_from (K:`F)(vs:`V)(H:Hp)(Q:VK)(E:XK):Prop
 |mk (b x:Ad) (vb vx:V):vs=[vb,vx]->IsK K H b.data vb->IsK K H x.data vx->x.Wf->(∀v:V,IsK K H (qD (questFrom b x)) v->Q v H)->sp_question_from K vs H Q E
inductive sp_pattern_named (K:`F)(vs:`V)(H:Hp)(Q:VK)(E:XK):Prop
 |mk (l:Addr) (T:List Rw) (ws:`V) (n:Tq) (t:Rw):vs=[.ref l,tV n]->H l=some (.lst ws)->TbV H T ws->T.find? (λt=>decide (t.1=n))=some t->(∀(p:Addr) (H':Hp),Same H H'->PtAt H' t.2.1 t.2.2 p->Q (.ref p) H')->sp_pattern_named K vs H Q E
noncomputable def wtW:List Str:=[ofString "go",ofString "link",ofString "add"]
inductive sp_read_row (K:`F)(vs:`V)(H:Hp)(Q:VK)(E:XK):Prop
 |mk (row:Tq) (ws:List Tq):vs=[tV row]->(((row=wLead/\ws=[wLead])\/(∃t,row=wGo++32::t/\`t<=90000/\ws=[wGo,t])\/(∃n t,row=wAdd++32::(n++32::t)/\NmOk n/\`t<=90000/\ws=[wAdd,n,t])\/∃a b,row=wBoth++32::(a++32::b)/\NmOk a/\NmOk b/\ws=[wBoth,a,b]))->(∀(l:Addr) (H':Hp),Same H H'->H' l=some (.lst (ws.map tV))->Q (.ref l) H')->sp_read_row K vs H Q E
inductive sp_stands_in (K:`F)(vs:`V)(H:Hp)(Q:VK)(E:XK):Prop
 |mk (l:Addr) (T:List Rw) (ws:`V) (n:Tq):vs=[.ref l,tV n]->H l=some (.lst ws)->TbV H T ws->T.length<=90->(∀H',Same H H'->Q (.bl (T.any λt=>decide (t.1=n))) H')->sp_stands_in K vs H Q E
inductive sp__law_cell_at (K:`F)(vs:`V)(H:Hp)(Q:VK)(E:XK):Prop
 |mk (a:Addr) (ns:List Int) (k:Nat):vs=[.ref a,.int (k:Int)]->SqL K H a (ns.map V.int)->Q (.int (ns.getD k 0)) H->sp__law_cell_at K vs H Q E
inductive sp__law_names (K:`F)(vs:`V)(H:Hp)(Q:VK)(E:XK):Prop
 |mk (c:Int) (m:Nat):vs=[.int c,.int (m:Int)]->m<=26->(∀(ns:List Tq) (p:Addr) (H':Hp),ns.length=m->(∀n∈ns,0 < n.length/\n.length<=8/\n.all isSma=true)->ns.Nodup->Same H H'->H' p=some (.lst (ns.map tV))->Q (.ref p) H')->sp__law_names K vs H Q E
inductive sp__law_signs (K:`F)(vs:`V)(H:Hp)(Q:VK)(E:XK):Prop
 |mk (c:Int):vs=[.int c]->(∀(l:Tq) (H':Hp),0 < `L->`L<=5->(∀c∈l,isSg c=true)->Same H H'->Q (tV l) H')->sp__law_signs K vs H Q E
inductive sp__law_run (vs:`V)(H:Hp)(Q:VK)(E:XK):Prop
 |mk (c:Int) (g:Tq) (m:Nat):vs=[.int c,tV g,.int (m:Int)]->0 < g.length->g.length<=100->m<=100->(∀l:Tq,`L=m->(∀x∈l,x∈g)->Q (tV l) H)->sp__law_run vs H Q E
inductive sp__law_fits_step (K:`F)(vs:`V)(H:Hp)(Q:VK)(E:XK):Prop
 |mk (c:Pc) (p:Addr) (s:Tq):vs=[.ref p,tV s]->SqT K H p c.vals->PcOk c->0 < s.length->s.length<=1000->(∀c∈s,isSg c=true)->(∀H',Same H H'->Q (.bl (fitsM c s)) H')->sp__law_fits_step K vs H Q E
inductive sp__law_is_way (K:`F)(vs:`V)(H:Hp)(Q:VK)(E:XK):Prop
 |mk (r t:Addr) (a b:Bool) (w:List Tq):vs=[.ref r]->H r=some (.tup [.bl a,.ref t,.bl b])->H t=some (.tup (w.map tV))->w.length<=200->(∀s∈w,s≠[])->(∀H',Same H H'->Q (.bl true) H')->sp__law_is_way K vs H Q E
inductive sp__law_written (vs:`V)(H:Hp)(Q:VK)(E:XK):Prop
 |mk (l:Tq):vs=[tV l]->(∀x∈l,isSg x=true)->`L<=100->Q (tV (wr l)) H->sp__law_written vs H Q E
inductive sp_is_text (vs:`V)(H:Hp)(Q:VK)(E:XK):Prop
 |mk (d:PyData) (v:V):vs=[v]->Is H d v->smallD d=true->(∀H',Same H H'->Q (.bl (tx d)) H')->sp_is_text vs H Q E
def rM:Sp:=λvs H Q _=>∃l:Tq,vs=[.str `A]/\`L<=1000/\(∀c∈l,c < 128)/\Q (signOfL l) H
def jf:Sp:=λvs H Q _=>∃l:Tq,vs=[.str `A]/\`L<=2000/\(∀c∈l,isSg c=true)/\∀H',Same H H'->Q (.str ⟨(wr l).toArray⟩) H'
inductive sp_steps_left (K:`F)(vs:`V)(H:Hp)(Q:VK)(E:XK):Prop
 |mk (ps:Addr) (ss:List Stp) (r:Bool):vs=[.ref ps,.bl r]->SqT K H ps (ss.map sV)->ss.length<=2000->(∀p H',Same H H'->H' p=some (.tup ((goneS r ss).map sV))->Q (.ref p) H')->sp_steps_left K vs H Q E
inductive sp_is_name (vs:`V)(H:Hp)(Q:VK)(E:XK):Prop
 |mk (n:Tq):vs=[tV n]->NmOk n->(∀H',Same H H'->Q (.bl true) H')->sp_is_name vs H Q E
inductive sp_names_of (K:`F)(vs:`V)(H:Hp)(Q:VK)(E:XK):Prop
 |mk (cs:List Pc) (xs:`V) (q:Addr):vs=[.ref q]->SqT K H q xs->PcAll K H cs xs->cs.length<=1000->(∀(p:Addr) (H':Hp),Same H H'->H' p=some (.lst ((gapsM cs).map tV))->Q (.ref p) H')->sp_names_of K vs H Q E
inductive sp_spread (K:`F)(vs:`V)(H:Hp)(Q:VK)(E:XK):Prop
 |mk (cs:List Pc) (xs:`V) (p q:Addr) (e:Bool) (n:Nat):vs=[.ref p,.int (n:Int)]->SqT K H p [.ref q,.bl e]->H q=some (.tup xs)->PcAll K H cs xs->cs.length<=100->n<=500->(spreadM cs n=none->Q .non H)->(∀(ds:List Pc) (ys:`V) (r:Addr) (H':Hp),spreadM cs n=some ds->Same H H'->SqT K H' r ys->PcAll K H' ds ys->Q (.ref r) H')->sp_spread K vs H Q E
inductive sp_fits_part (K:`F)(vs:`V)(H:Hp)(Q:VK)(E:XK):Prop
 |mk (h n t s:Tq) (p:Addr):vs=[.ref p,tV s]->SqT K H p (Pc.part h n t).vals->s.length<=100000->h.length<=100000->`t<=100000->Q (.bl (partB h t s)) H->sp_fits_part K vs H Q E
inductive sp_is_number (vs:`V)(H:Hp)(Q:VK)(E:XK):Prop
 |mk (l:Tq):vs=[tV l]->`L<=100000->(∀H',Same H H'->Q (.bl (numB l)) H')->sp_is_number vs H Q E
inductive sp_is_word (vs:`V)(H:Hp)(Q:VK)(E:XK):Prop
 |mk (l:Tq):vs=[tV l]->`L<=100000->(∀H',Same H H'->Q (.bl (wordB l)) H')->sp_is_word vs H Q E
inductive sp_bound_value (K:`F)(vs:`V)(H:Hp)(Q:VK)(E:XK):Prop
 |mk (c:Pc) (s:Tq) (ss:List Tq) (p q:Addr):vs=[.ref p,.ref q]->SqT K H p c.vals->SqT K H q ((s::ss).map tV)->fitsM c s=true->s.length<=100000->c.head.length<=100000->c.tail.length<=100000->ss.length<=1000->(∀v H',Same H H'->VlV H' (bvM c (s::ss)) v->(∀q,v=.ref q->H q=none)->Q v H')->sp_bound_value K vs H Q E
inductive sp_Cursor_sees (K:`F)(C:Addr)(vs:`V)(H:Hp)(Q:VK)(E:XK):Prop
 |mk (p:Addr) (t sg:Tq) (i:Nat):vs=[.ref p,.str ⟨sg.toArray⟩]->Cur H C p t i->i<=`t->`t<=100000->Q (.bl (seesB t sg i)) H->sp_Cursor_sees K C vs H Q E
inductive sp_taken_door (K:`F)(C:Addr)(vs:`V)(H:Hp)(Q:VK)(E:XK):Prop
 |mk (p:Addr) (t:Tq) (i:Nat):vs=[.ref p]->Cur H C p t i->i<=`t->`t<=100000->(t.drop i).head?≠some 58->Q .non H->sp_taken_door K C vs H Q E
inductive sp_taken_question (K:`F)(C:Addr)(vs:`V)(H:Hp)(Q:VK)(E:XK):Prop
 |mk (p:Addr) (t:Tq):vs=[.ref p]->Cur H C p t `t->`t<=100000->Q .non H->sp_taken_question K C vs H Q E
inductive sp_worth_of (K:`F)(vs:`V)(H:Hp)(Q:VK)(E:XK):Prop
 |mk (c:Pc) (p:Addr):vs=[.ref p]->SqT K H p c.vals->PcTx c->(∀(r:Addr) (H':Hp),Same H H'->H' r=some (.tup ((worthM c).map V.int))->Q (.ref r) H')->sp_worth_of K vs H Q E
inductive sp_has_room (K:`F)(vs:`V)(H:Hp)(Q:VK)(E:XK):Prop
 |mk (l:Addr) (ws:`V) (v:V):vs=[.ref l,v]->H l=some (.lst ws)->ws.length<=15->Q (.bl true) H->sp_has_room K vs H Q E
inductive sp_with_entry (K:`F)(vs:`V)(H:Hp)(Q:VK)(E:XK):Prop
 |mk (l p:Addr) (T:List Rw) (ws:`V) (t:Rw):vs=[.ref l,tV t.1,.ref p]->H l=some (.lst ws)->TbV H T ws->T.length<=90->PtAt H t.2.1 t.2.2 p->(∀(l':Addr) (ws':`V) (H':Hp),H l'=none->Same H H'->H' l'=some (.lst ws')->TbV H' (putR T t) ws'->Q (.ref l') H')->sp_with_entry K vs H Q E
inductive sp__law_cells (K:`F)(vs:`V)(H:Hp)(Q:VK)(E:XK):Prop
 |mk (a:Addr) (ns:List Int) (s m:Nat):vs=[.ref a,.int (s:Int),.int (m:Int)]->SqL K H a (ns.map V.int)->m<=100->(∀(is:List Int) (p:Addr) (H':Hp),is.length=m->Same H H'->H' p=some (.lst (is.map V.int))->Q (.ref p) H')->sp__law_cells K vs H Q E
inductive sp__law_text (vs:`V)(H:Hp)(Q:VK)(E:XK):Prop
 |mk (c:Int) (g:Tq) (m:Nat):vs=[.int c,tV g,.int (m:Int)]->0 < g.length->g.length<=100->0 < m->m<=100->(∀l:Tq,0 < `L->`L<=m+2->(46∉g->`L=m)->(∀x∈l,x∈g\/(46∈g/\x=45))->isDot l=false->Q (tV l) H)->sp__law_text vs H Q E
inductive sp__law_fits (K:`F)(vs:`V)(H:Hp)(Q:VK)(E:XK):Prop
 |mk (cs:List Pc) (xs:`V) (p q pw ps:Addr) (cl r e:Bool) (ss:List Tq):vs=[.ref p,.ref pw]->SqT K H p [.ref q,.bl cl]->H q=some (.tup xs)->PcT H cs xs->cs.length<=90->(∀c∈cs,PcOk c/\PcSg c)->SqT K H pw [.bl r,.ref ps,.bl e]->H ps=some (.tup (ss.map tV))->ss.length<=200->(∀s∈ss,0 < s.length/\s.length<=1000/\∀c∈s,isSg c=true)->(∀H',Same H H'->Q (.bl (fitsP cs cl r ss e)) H')->sp__law_fits K vs H Q E
inductive sp__law_general (K:`F)(vs:`V)(H:Hp)(Q:VK)(E:XK):Prop
 |mk (s:Tq) (i:Int) (n:Tq):vs=[tV s,.int i,tV n]->StOk s->(∀(c:Pc) (p':Addr) (H':Hp),PcOk c->c.isRest=false->fitsM c s=true->(c.isStep=false->c.name=n)->Same H H'->H' p'=some (.tup c.vals)->Q (.ref p') H')->sp__law_general K vs H Q E
def rN:Sp:=λvs H Q _=>∃(c:Nat) (r fr:Tq),vs=[.str ⟨(c::r).toArray⟩,.str ⟨fr.toArray⟩]/\r.length<=1000/\(∀d∈c::r,d < 128)/\(c=126\/r=[])/\Q (swV fr (c::r)) H
inductive sp_is_scheme (vs:`V)(H:Hp)(Q:VK)(E:XK):Prop
 |mk (d:PyData) (v:V):vs=[v]->Is H d v->smallD d=true->(∀H',Same H H'->Q (.bl (schD d)) H')->sp_is_scheme vs H Q E
inductive sp_is_filled_text (vs:`V)(H:Hp)(Q:VK)(E:XK):Prop
 |mk (d:PyData) (v:V):vs=[v]->Is H d v->smallD d=true->(∀H',Same H H'->Q (.bl (ftx d)) H')->sp_is_filled_text vs H Q E
inductive sp_shown_house (vs:`V)(H:Hp)(Q:VK)(E:XK):Prop
 |mk (o:Option Tq) (d:Option Int):vs=[otV o,itV d]->(∀l,o=some l->`L<=60/\∀c∈l,isSg c=true)->(∀i,d=some i->(0<=i/\i<=65535)/\o≠none)->(∀H',Same H H'->Q (.str ⟨(houT o++dooT d).toArray⟩) H')->sp_shown_house vs H Q E
inductive sp_shown_way (K:`F)(vs:`V)(H:Hp)(Q:VK)(E:XK):Prop
 |mk (r e:Bool) (ss:List Tq) (p q:Addr):vs=[.ref p]->SqT K H p [.bl r,.ref q,.bl e]->SqT K H q (ss.map λl=>V.str `A)->(∀s∈ss,s.length<=2000/\∀c∈s,isSg c=true)->ss.length<=2000->(wayT r ss e).length<=90000->(∀H',Same H H'->Q (.str ⟨(wayT r ss e).toArray⟩) H')->sp_shown_way K vs H Q E
def EG:Sp:=λvs H Q _=>vs=[.non]/\Q (.str (ofString "")) H
inductive sp_gone (K:`F)(vs:`V)(H:Hp)(Q:VK)(E:XK):Prop
 |mk (w:Way) (v:V):vs=[v]->IsK K H (wayOf w) v->w.2.1.length<=2000->(∀(u:V) (H':Hp),Same H H'->IsK K H' (wayOf (goneV w)) u->Q u H')->sp_gone K vs H Q E
inductive sp_are_ends_of_part (vs:`V)(H:Hp)(Q:VK)(E:XK):Prop
 |mk (a b:Tq):vs=[tV a,tV b]->a.length<=100->b.length<=100->(∀c∈a,isSg c=true)->(∀c∈b,isSg c=true)->a++b≠[]->(∀H',Same H H'->Q (.bl true) H')->sp_are_ends_of_part vs H Q E
inductive sp_names_are_unlike (K:`F)(vs:`V)(H:Hp)(Q:VK)(E:XK):Prop
 |mk (cs:List Pc) (xs:`V) (q:Addr):vs=[.ref q]->H q=some (.tup xs)->PcAll K H cs xs->cs.length<=1000->(∀H',Same H H'->Q (.bl (decide ((gapsM cs).Nodup))) H')->sp_names_are_unlike K vs H Q E
inductive sp_shown_piece (K:`F)(vs:`V)(H:Hp)(Q:VK)(E:XK):Prop
 |mk (c:Pc) (p:Addr):vs=[.ref p]->SqT K H p c.vals->PcOk c->(c.isStep=false->NmOk c.name)->(∀H',Same H H'->Q (tV (pcT c)) H')->sp_shown_piece K vs H Q E
inductive sp_step_fits (K:`F)(vs:`V)(H:Hp)(Q:VK)(E:XK):Prop
 |mk (c:Pc) (s:Tq) (p:Addr):vs=[.ref p,tV s]->SqT K H p c.vals->s.length<=100000->c.head.length<=100000->c.tail.length<=100000->(∀H',Same H H'->Q (.bl (fitsM c s)) H')->sp_step_fits K vs H Q E
inductive sp_taken_pair (K:`F)(C:Addr)(vs:`V)(H:Hp)(Q:VK)(E:XK):Prop
 |mk (p:Addr) (t r:Tq) (i a b c:Nat):vs=[.ref p]->Cur H C p t i->t.drop i=a::b::r->sgO a b=some c->`t<=100000->(∀H',SameBut p H H'->Cur H' C p t (i+2)->Q (.str ⟨#[c]⟩) H')->sp_taken_pair K C vs H Q E
inductive sp_worth_more (K:`F)(vs:`V)(H:Hp)(Q:VK)(E:XK):Prop
 |mk (cs ds:List Pc) (xs ys:`V) (p q p' q':Addr) (e e':Bool):vs=[.ref p,.ref p']->SqT K H p [.ref q,.bl e]->SqT K H q xs->PcAll K H cs xs->SqT K H p' [.ref q',.bl e']->SqT K H q' ys->PcAll K H ds ys->cs.length<=90->ds.length<=90->(∀c∈cs,PcTx c)->(∀c∈ds,PcTx c)->(∀H',Same H H'->Q (.bl (moreM cs ds)) H')->sp_worth_more K vs H Q E
inductive sp_shown_value (K:`F)(vs:`V)(H:Hp)(Q:VK)(E:XK):Prop
 |mk (x:Vl) (v:V):vs=[v]->VlV H x v->VlS x->(∀H',Same H H'->Q (tV (vlT x)) H')->sp_shown_value K vs H Q E
inductive sp__law_general_pattern (K:`F)(vs:`V)(H:Hp)(Q:VK)(E:XK):Prop
 |mk (r t pc pn:Addr) (e:Bool) (ss:List Tq) (ns:List Tq) (is:List Int):vs=[.ref r,.ref pc,.ref pn]->H r=some (.tup [.bl true,.ref t,.bl e])->H t=some (.tup (ss.map tV))->ss.length<=6->(∀l∈ss,StOk l)->H pc=some (.lst (is.map V.int))->is.length=7->H pn=some (.lst (ns.map tV))->ns.length=7->(∀n∈ns,NmOk n)->ns.Nodup->(ss=[]->e=true)->(∀(cs:List Pc) (p':Addr) (H':Hp),PcsOk cs->PtG cs e->fitsP cs e true ss e=true->Same H H'->PtAt H' cs e p'->Q (.ref p') H')->sp__law_general_pattern K vs H Q E
inductive sp__law_one_step (K:`F)(vs:`V)(H:Hp)(Q:VK)(E:XK):Prop
 |mk (i:Int) (g:Tq):vs=[.int i,tV g]->0 < g.length->g.length<=100->(∀x∈g,isSg x=true)->(∀(l:Tq) (H':Hp),Same H H'->StOk l->Q (tV l) H')->sp__law_one_step K vs H Q E
def rP:Sp:=λvs H Q _=>∃l fr:Tq,vs=[.str `A,.str ⟨fr.toArray⟩]/\`L<=2000/\(∀c∈l,c < 128)/\∀H',Same H H'->Q (undV (und fr l)) H'
inductive sp_show (K:`F)(vs:`V)(H:Hp)(Q:VK)(E:XK):Prop
 |mk (x:Ad) (v:V):vs=[v]->IsK K H x.data v->x.Wf->x.Sz->x.quest=none->x.mark=none->(∀H',Same H H'->Q (.str ⟨x.shw.toArray⟩) H')->sp_show K vs H Q E
inductive sp_with_way_gone (K:`F)(vs:`V)(H:Hp)(Q:VK)(E:XK):Prop
 |mk (x:Ad) (v:V):vs=[v]->IsK K H x.data v->x.steps.length<=2000->(∀(u:V) (H':Hp),Same H H'->IsK K H' x.gone.data u->Q u H')->sp_with_way_gone K vs H Q E
inductive sp_holder (K:`F)(vs:`V)(H:Hp)(Q:VK)(E:XK):Prop
 |mk (w:Way) (v:V):vs=[v]->IsK K H (wayOf w) v->w.2.1.length<=2000->(∀(p:Addr) (H':Hp),Same H H'->SqT K H' p ((holder w).map sV)->Q (.ref p) H')->sp_holder K vs H Q E
inductive sp_is_piece (K:`F)(vs:`V)(H:Hp)(Q:VK)(E:XK):Prop
 |mk (c:Pc) (v:V):vs=[v]->IsT H (pcD c) v->PcOk c->(c.isStep=false->NmOk c.name)->(∀H',Same H H'->Q (.bl true) H')->sp_is_piece K vs H Q E
inductive sp_show_pattern (K:`F)(vs:`V)(H:Hp)(Q:VK)(E:XK):Prop
 |mk (cs:List Pc) (e:Bool) (p q:Addr) (xs:`V):vs=[.ref p]->SqT K H p [.ref q,.bl e]->SqT K H q xs->PcAll K H cs xs->cs.length<=12->(∀c∈cs,PcOk c/\(c.isStep=false->NmOk c.name))->(∀H',Same H H'->Q (tV (slT true (cs.map pcT) e)) H')->sp_show_pattern K vs H Q E
inductive sp_fits (K:`F)(vs:`V)(H:Hp)(Q:VK)(E:XK):Prop
 |mk (cs:List Pc) (xs:`V) (p q pw ps:Addr) (cl r e:Bool) (ss:List Tq):vs=[.ref p,.ref pw]->SqT K H p [.ref q,.bl cl]->H q=some (.tup xs)->PcAll K H cs xs->cs.length<=100->PcSz cs->SqT K H pw [.bl r,.ref ps,.bl e]->SqT K H ps (ss.map tV)->ss.length<=500->(∀s∈ss,s.length<=100000)->(∀H',Same H H'->Q (.bl (fitsP cs cl r ss e)) H')->sp_fits K vs H Q E
inductive sp_fitting_texts (K:`F)(vs:`V)(H:Hp)(Q:VK)(E:XK):Prop
 |mk (c:Pc) (p:Addr):vs=[.ref p]->SqT K H p c.vals->PcTx c->(∀(q:Addr) (H':Hp),Same H H'->H' q=some (.lst ((fitT c).map tV))->Q (.ref q) H')->sp_fitting_texts K vs H Q E
inductive sp_taken_scheme (K:`F)(C:Addr)(vs:`V)(H:Hp)(Q:VK)(E:XK):Prop
 |mk (p:Addr) (t:Tq):vs=[.ref p]->Cur H C p t 0->`t<=90000->(∀H',SameBut p H H'->Cur H' C p t (schP t)->Q (.str ⟨(schM t).toArray⟩) H')->sp_taken_scheme K C vs H Q E
inductive sp_taken_text (K:`F)(C:Addr)(vs:`V)(H:Hp)(Q:VK)(E:XK):Prop
 |mk (p:Addr) (t fr s w r:Tq) (i:Nat) (mo:Option Nat):vs=[.ref p,.str ⟨fr.toArray⟩,moV mo]->Cur H C p t i->i<=`t->`t<=100000->(∀c∈t,c < 128)->fr.length<=100->t.drop i=w++r->WrT fr s w->((Stops fr r\/mo=some s.length))->(∀m,mo=some m->s.length<=m)->(∀H',SameBut p H H'->Cur H' C p t (i+w.length)->Q (.str ⟨s.toArray⟩) H')->sp_taken_text K C vs H Q E
inductive sp_worth_most (K:`F)(vs:`V)(H:Hp)(Q:VK)(E:XK):Prop
 |mk (l:Addr) (b:Rw) (L:List Rw) (ws:`V):vs=[.ref l]->H l=some (.lst ws)->TbV H (b::L) ws->(∀r∈b::L,PcsOk r.2.1)->L.length<=90->(∀(v:V) (H':Hp),Same H H'->RwAt H' (mostM mrR b L) v->Q v H')->sp_worth_most K vs H Q E
inductive sp_shown_lead (K:`F)(vs:`V)(H:Hp)(Q:VK)(E:XK):Prop
 |mk (v:V):vs=[v]->(((v=.non/\Q (tV wNone) H)\/∃(p l:Addr) (n:Tq) (bs:List (Tq×Vl)) (ys:`V),v=.ref p/\H p=some (.tup [tV n,.ref l])/\H l=some (.lst ys)/\BndV H l bs ys/\n.length<=8/\bs.length<=12/\(∀b∈bs,b.1.length<=8/\VlS b.2)/\∀H',Same H H'->Q (tV (leadT n bs)) H'))->sp_shown_lead K vs H Q E
inductive sp__law_drawn_way (K:`F)(vs:`V)(H:Hp)(Q:VK)(E:XK):Prop
 |mk (a:Addr) (ns:List Int) (s:Nat) (g:Tq):vs=[.ref a,.int (s:Int),tV g]->SqL K H a (ns.map V.int)->0 < g.length->g.length<=100->(∀x∈g,isSg x=true)->(∀(r t:Addr) (b:Bool) (ss:List Tq) (H':Hp),Same H H'->ss.length<=6->(∀l∈ss,StOk l)->(ss=[]->b=true)->H' r=some (.tup [.bl true,.ref t,.bl b])->H' t=some (.tup (ss.map tV))->Q (.ref r) H')->sp__law_drawn_way K vs H Q E
inductive sp_are_pieces (K:`F)(vs:`V)(H:Hp)(Q:VK)(E:XK):Prop
 |mk (cs:List Pc) (e:Bool) (xs:`V) (q:Addr):vs=[.ref q]->H q=some (.tup xs)->IsTAll H (cs.map pcD) xs->PtG cs e->(∀H',Same H H'->Q (.bl true) H')->sp_are_pieces K vs H Q E
inductive sp_read_gap (K:`F)(vs:`V)(H:Hp)(Q:VK)(E:XK):Prop
 |mk (c:Pc) (a i b:Tq):vs=[tV a,tV i,tV b]->GpW c a i b->a.length<=2000->i.length<=2000->b.length<=2000->(∀(v:V) (H':Hp),Same H H'->IsT H' (pcD c) v->Q v H')->sp_read_gap K vs H Q E
inductive sp_bound (K:`F)(vs:`V)(H:Hp)(Q:VK)(E:XK):Prop
 |mk (cs:List Pc) (xs:`V) (p q pw ps:Addr) (cl r e:Bool) (ss:List Tq):vs=[.ref p,.ref pw]->SqT K H p [.ref q,.bl cl]->H q=some (.tup xs)->PcAll K H cs xs->cs.length<=100->PcSz cs->SqT K H pw [.bl r,.ref ps,.bl e]->SqT K H ps (ss.map tV)->ss.length<=500->(∀s∈ss,s.length<=100000)->(fitsP cs cl r ss e=false->∀H',Same H H'->Q .non H')->(fitsP cs cl r ss e=true->∀(l:Addr) (ys:`V) (H':Hp),Same H H'->H' l=some (.lst ys)->BndV H' l (boundM cs ss) ys->Q (.ref l) H')->sp_bound K vs H Q E
inductive sp_texts_for_both (K:`F)(vs:`V)(H:Hp)(Q:VK)(E:XK):Prop
 |mk (c d:Pc) (p q:Addr):vs=[.ref p,.ref q]->SqT K H p c.vals->SqT K H q d.vals->PcTx c->PcTx d->(∀(l:Addr) (H':Hp),Same H H'->H' l=some (.lst ((bothT c d).map tV))->Q (.ref l) H')->sp_texts_for_both K vs H Q E
inductive sp_taken_way (K:`F)(C:Addr)(vs:`V)(H:Hp)(Q:VK)(E:XK):Prop
 |mk (p:Addr) (t v rest:Tq) (i:Nat) (must r ro:Bool) (ss:List Tq) (e:Bool):vs=[.ref p,.bl must]->Cur H C p t i->i<=`t->`t<=100000->(∀c∈t,c < 128)->t.drop i=(if r then [47] else [])++(v++rest)->StpW ss e v->WayC must r ro ss e->Stops frS rest->rest.head?≠some 47->(∀(u:V) (H':Hp),SameBut p H H'->Cur H' C p t (`t - rest.length)->IsT H' (wayOf (ro,ss,e)) u->Q u H')->sp_taken_way K C vs H Q E
inductive sp_taken_mark (K:`F)(C:Addr)(vs:`V)(H:Hp)(Q:VK)(E:XK):Prop
 |mk (p:Addr) (t:Tq):vs=[.ref p]->Cur H C p t `t->`t<=100000->Q .non H->sp_taken_mark K C vs H Q E
inductive sp_taken_filled_text (K:`F)(C:Addr)(vs:`V)(H:Hp)(Q:VK)(E:XK):Prop
 |mk (p:Addr) (t fr s w r:Tq) (i:Nat) (mo:Option Nat):vs=[.ref p,.str ⟨fr.toArray⟩,moV mo]->Cur H C p t i->i<=`t->`t<=100000->(∀c∈t,c < 128)->fr.length<=100->t.drop i=w++r->WrT fr s w->s≠[]->((Stops fr r\/mo=some s.length))->(∀m,mo=some m->s.length<=m)->(∀H',SameBut p H H'->Cur H' C p t (i+w.length)->Q (.str ⟨s.toArray⟩) H')->sp_taken_filled_text K C vs H Q E
inductive sp_plain (K:`F)(vs:`V)(H:Hp)(Q:VK)(E:XK):Prop
 |mk (x:Ad) (v:V):vs=[v]->IsK K H x.data v->x.Wf->x.steps.length<=2000->(∀(u:V) (H':Hp),Same H H'->IsK K H' (plainM x).data u->Q u H')->sp_plain K vs H Q E
inductive sp_way_from (K:`F)(vs:`V)(H:Hp)(Q:VK)(E:XK):Prop
 |mk (b w:Way) (vb vw:V):vs=[vb,vw]->IsK K H (wayOf b) vb->IsK K H (wayOf w) vw->(∀s∈w.2.1,∀c∈s,isSg c=true)->b.2.1.length<=1000->w.2.1.length<=1000->(∀(v:V) (H':Hp),Same H H'->IsK K H' (wayOf (wayFrom b w)) v->Q v H')->sp_way_from K vs H Q E
inductive sp_is_pattern (K:`F)(vs:`V)(H:Hp)(Q:VK)(E:XK):Prop
 |mk (cs:List Pc) (e:Bool) (v:V):vs=[v]->IsT H (ptD cs e) v->PtG cs e->(∀H',Same H H'->Q (.bl true) H')->sp_is_pattern K vs H Q E
inductive sp_read_piece (K:`F)(vs:`V)(H:Hp)(Q:VK)(E:XK):Prop
 |mk (c:Pc) (t:Tq):vs=[tV t]->PcW c t->`t<=2000->(∀(v:V) (H':Hp),Same H H'->IsT H' (pcD c) v->Q v H')->sp_read_piece K vs H Q E
inductive sp_step_for_both (K:`F)(vs:`V)(H:Hp)(Q:VK)(E:XK):Prop
 |mk (c d:Pc) (p q:Addr):vs=[.ref p,.ref q]->SqT K H p c.vals->SqT K H q d.vals->PcTx c->PcTx d->(∀H',Same H H'->Q (otV (stepBoth c d)) H')->sp_step_for_both K vs H Q E
inductive sp_taken_house (K:`F)(C:Addr)(vs:`V)(H:Hp)(Q:VK)(E:XK):Prop
 |mk (p:Addr) (t w r:Tq) (i:Nat) (o:Option Tq):vs=[.ref p]->Cur H C p t i->i<=`t->`t<=100000->(∀c∈t,c < 128)->t.drop i=w++r->HouW o w->(o≠none->Stops [] r)->(o=none->¬ r.take 2=[47,47])->(∀H',SameBut p H H'->Cur H' C p t (i+w.length)->Q (otV o) H')->sp_taken_house K C vs H Q E
inductive sp_made_whole (K:`F)(vs:`V)(H:Hp)(Q:VK)(E:XK):Prop
 |mk (b x:Ad) (vb vx:V):vs=[vb,vx]->IsK K H b.data vb->IsK K H x.data vx->x.Wf->b.steps.length<=1000->x.steps.length<=1000->(∀(v:V) (H':Hp),Same H H'->IsK K H' (madeWhole b x).data v->Q v H')->sp_made_whole K vs H Q E
noncomputable def fitR (r e:Bool)(ss:List Tq)(t:Rw):Bool:=fitsP t.2.1 t.2.2 r ss e
inductive sp_lead (K:`F)(vs:`V)(H:Hp)(Q:VK)(E:XK):Prop
 |mk (l pw ps:Addr) (T:List Rw) (ws:`V) (r e:Bool) (ss:List Tq):vs=[.ref l,.ref pw]->H l=some (.lst ws)->TbV H T ws->(∀t∈T,PcsOk t.2.1)->T.length<=90->SqT K H pw [.bl r,.ref ps,.bl e]->SqT K H ps (ss.map tV)->ss.length<=500->(∀s∈ss,s.length<=100000)->(T.filter (fitR r e ss)=[]->∀H',Same H H'->Q .non H')->(∀(b:Rw) (L:List Rw),T.filter (fitR r e ss)=b::L->∀(p l':Addr) (ys:`V) (H':Hp),Same H H'->H' p=some (.tup [tV (mostM mrR b L).1,.ref l'])->H' l'=some (.lst ys)->BndV H' l' (boundM (mostM mrR b L).2.1 ss) ys->Q (.ref p) H')->sp_lead K vs H Q E
inductive sp_read_pattern (K:`F)(vs:`V)(H:Hp)(Q:VK)(E:XK):Prop
 |mk (cs:List Pc) (e:Bool) (ws:List Tq):vs=[tV (slT true ws e)]->PcWs cs ws->(∀w∈ws,w.length<=700)->PtG cs e->(∀(v:V) (H':Hp),Same H H'->IsT H' (ptD cs e) v->Q v H')->sp_read_pattern K vs H Q E
def SprV (K:`F)(H:Hp)(o:Option (List Pc))(v:V):Prop:=(o=none/\v=.non)\/∃(ms:List Pc) (zs:`V) (r:Addr),o=some ms/\v=.ref r/\SqT K H r zs/\PcAll K H ms zs
inductive sp_meeting (K:`F)(vs:`V)(H:Hp)(Q:VK)(E:XK):Prop
 |mk (cs ds:List Pc) (xs ys:`V) (p q p' q':Addr) (e e':Bool):vs=[.ref p,.ref p']->SqT K H p [.ref q,.bl e]->H q=some (.tup xs)->PcAll K H cs xs->SqT K H p' [.ref q',.bl e']->H q'=some (.tup ys)->PcAll K H ds ys->cs.length<=90->ds.length<=90->(∀c∈cs,PcOk c)->(∀c∈ds,PcOk c)->(meetM cs e ds e'=none->∀H',Same H H'->Q .non H')->(∀(w:List Tq) (r t:Addr) (H':Hp),meetM cs e ds e'=some w->Same H H'->H' r=some (.tup [.bl true,.ref t,.bl e])->H' t=some (.tup (w.map tV))->Q (.ref r) H')->sp_meeting K vs H Q E
inductive sp_read (K:`F)(vs:`V)(H:Hp)(Q:VK)(E:XK):Prop
 |mk (x:Ad) (t:Tq):vs=[.str ⟨t.toArray⟩]->`t<=90000->(∀c∈t,c < 128)->x.Wf->RdW2 x t->x.door=none->x.quest=none->x.mark=none->(∀(u:V) (H':Hp),Same H H'->IsT H' x.data u->Q u H')->sp_read K vs H Q E
inductive sp_resolved (K:`F)(vs:`V)(H:Hp)(Q:VK)(E:XK):Prop
 |mk (b x:Ad) (vb vx:V):vs=[vb,vx]->IsK K H b.data vb->IsK K H x.data vx->b.scheme≠[]->x.Wf->b.steps.length<=1000->x.steps.length<=1000->(∀(v:V) (H':Hp),Same H H'->IsK K H' (resM b x).data v->Q v H')->sp_resolved K vs H Q E
noncomputable def ldT (T:List Rw)(ss:List Tq)(e:Bool):Tq:=match T.filter (fitR true e ss) with|[]=>wNone|b::L=>leadT (mostM mrR b L).1 (boundM (mostM mrR b L).2.1 ss)
inductive sp__law_lead_text (K:`F)(vs:`V)(H:Hp)(Q:VK)(E:XK):Prop
 |mk (l pw ps:Addr) (T:List Rw) (ws:`V) (e:Bool) (ss:List Tq):vs=[.ref l,.ref pw]->H l=some (.lst ws)->TbV H T ws->(∀t∈T,RwG t)->T.length<=90->H pw=some (.tup [.bl true,.ref ps,.bl e])->H ps=some (.tup (ss.map tV))->ss.length<=6->(∀s∈ss,(∀c∈s,isSg c=true)/\s.length<=70)->(∀H',Same H H'->Q (tV (ldT T ss e)) H')->sp__law_lead_text K vs H Q E
inductive sp_Desk___init__ (K:`F)(D:Addr)(vs:`V)(H:Hp)(Q:VK)(E:XK):Prop
 |mk (p dx:Addr) (ss:List Tq) (e:Bool) (t:Tq):vs=[.ref p,tV t]->H p=some (.ins D dx [])->`t<=90000->(∀c∈t,c < 128)->WyOk ss e->RdW2 (atW ss e) t->(∀(H':Hp) (l:Addr),H l=none->SameBut p H H'->DsT K H' D p (atW ss e) [] l->Q .non H')->sp_Desk___init__ K D vs H Q E
inductive sp_Desk_goal_of (K:`F)(D:Addr)(vs:`V)(H:Hp)(Q:VK)(E:XK):Prop
 |mk (p:Addr) (s0 ss:List Tq) (e0 e:Bool):vs=[.ref p,tV (wOnly ss e).shw]->Dsk K H D p (atW s0 e0)->WyOk s0 e0->WyOk ss e->(∀(u:V) (H':Hp),Same H H'->IsK K H' (atW ss e).data u->Q u H')->sp_Desk_goal_of K D vs H Q E
inductive sp_Desk_put (K:`F)(D:Addr)(vs:`V)(H:Hp)(Q:VK)(E:XK):Prop
 |mk (p:Addr) (x:Ad) (T:List Rw) (l:Addr) (t:Rw):vs=[.ref p,tV t.1,tV (slT true (t.2.1.map pcT) t.2.2)]->DsT K H D p x T l->T.length<=15->RwG t->(∀(H':Hp) (l':Addr),H l'=none->SameBut p H H'->DsT K H' D p x (putR T t) l'->Q (tV wOk) H')->sp_Desk_put K D vs H Q E
inductive sp_Desk_both (K:`F)(D:Addr)(vs:`V)(H:Hp)(Q:VK)(E:XK):Prop
 |mk (p:Addr) (x:Ad) (T:List Rw) (l:Addr) (t u:Rw):vs=[.ref p,tV t.1,tV u.1]->DsT K H D p x T l->(T.map (·.1)).Nodup->t∈T->u∈T->RwG t->RwG u->(∀H':Hp,Same H H'->Q (tV (bthT t u)) H')->sp_Desk_both K D vs H Q E
inductive sp_Desk_go (K:`F)(D:Addr)(vs:`V)(H:Hp)(Q:VK)(E:XK):Prop
 |mk (p:Addr) (s0 ss:List Tq) (e0 e:Bool) (T:List Rw) (l:Addr):vs=[.ref p,tV (wOnly ss e).shw]->DsT K H D p (atW s0 e0) T l->WyOk s0 e0->WyOk ss e->(∀(t:Tq) (H':Hp),SameBut p H H'->DsT K H' D p (atW ss e) T l->Q (tV t) H')->sp_Desk_go K D vs H Q E
inductive sp_Desk_say (K:`F)(D:Addr)(vs:`V)(H:Hp)(Q:VK)(E:XK):Prop
 |mk (p:Addr) (s0:List Tq) (e0:Bool) (T:List Rw) (lt:Addr) (row:Tq):vs=[.ref p,tV row]->DsT K H D p (atW s0 e0) T lt->WyOk s0 e0->(((row=wLead/\s0.length<=6/\(∀s∈s0,s.length<=70)/\(∀r∈T,RwG r)/\T.length<=15/\∀H',Same H H'->Q (tV (ldT T s0 e0)) H')\/(∃ss e,row=wGo++32::(wOnly ss e).shw/\WyOk ss e/\∀(t:Tq) (H':Hp),SameBut p H H'->DsT K H' D p (atW ss e) T lt->Q (tV t) H')\/(∃t:Rw,row=wAdd++32::(t.1++32::slT true (t.2.1.map pcT) t.2.2)/\RwG t/\T.length<=15/\∀(H':Hp) (l':Addr),H l'=none->SameBut p H H'->DsT K H' D p (atW s0 e0) (putR T t) l'->Q (tV wOk) H')\/∃t u:Rw,row=wBoth++32::(t.1++32::u.1)/\(T.map (·.1)).Nodup/\t∈T/\u∈T/\RwG t/\RwG u/\∀H':Hp,Same H H'->Q (tV (bthT t u)) H'))->sp_Desk_say K D vs H Q E
inductive sp__law_both (K:`F)(D:Addr)(vs:`V)(H:Hp)(Q:VK)(E:XK):Prop
 |mk (p a b:Addr) (s0:List Tq) (e0:Bool) (T:List Rw) (lt:Addr) (t u:Rw):vs=[.ref p,.ref a,.ref b]->DsT K H D p (atW s0 e0) T lt->WyOk s0 e0->(T.map (·.1)).Nodup->t∈T->u∈T->RwG t->RwG u->RwAt H t (.ref a)->RwAt H u (.ref b)->(∀H':Hp,Same H H'->Q (.bl true) H')->sp__law_both K D vs H Q E
inductive sp__law_goes_on (K:`F)(D:Addr)(vs:`V)(H:Hp)(Q:VK)(E:XK):Prop
 |mk (p l r t a lt:Addr) (e:Bool) (ss:List Tq) (T:List Rw) (ws:`V) (g:Tq) (is:List Int):vs=[.ref p,.ref l,.ref r,.ref a,tV g]->DsT K H D p (atW ss e) T lt->WyOk ss e->H l=some (.lst ws)->TbV H T ws->(∀t∈T,RwG t)->T.length<=7->H r=some (.tup [.bl true,.ref t,.bl e])->H t=some (.tup (ss.map tV))->ss.length<=6->(∀s∈ss,StOk s)->SqL K H a (is.map V.int)->0 < g.length->g.length<=100->(∀x∈g,isSg x=true)->(∀H',Q (.bl true) H')->sp__law_goes_on K D vs H Q E
inductive sp__law_two_more (K:`F)(D:Addr)(vs:`V)(H:Hp)(Q:VK)(E:XK):Prop
 |mk (p l n lt:Addr) (e s0e:Bool) (s0:List Tq) (T:List Rw) (ws:`V) (ns:List Tq):vs=[.ref p,.ref l,.ref n,.bl e]->DsT K H D p (atW s0 s0e) T lt->lt≠l->n≠l->WyOk s0 s0e->H l=some (.lst ws)->TbV H T ws->(T.map (·.1)).Nodup->(∀t∈T,RwG t)->0 < T.length->T.length<=5->H n=some (.lst (ns.map tV))->ns.length=7->ns.Nodup->(∀m∈ns,NmOk m)->(∀t∈T,t.1∈ns.take 4)->(∀(H':Hp) (T':List Rw) (ws':`V) (lt':Addr),Ot p l H H'->DsT K H' D p (atW s0 s0e) T' lt'->lt'≠l->H' l=some (.lst ws')->TbV H' T' ws'->(∀t∈T',RwG t)->T'.length<=7->Q (.bl true) H')->sp__law_two_more K D vs H Q E
inductive sp_law (K:`F)(vs:`V)(H:Hp)(Q:VK)(E:XK):Prop
 |mk (a:Addr) (ns:List Int):vs=[.ref a]->SqL K H a (ns.map V.int)->ns.length<=63->(∀H',Q (.bl true) H')->sp_law K vs H Q E
section
variable {H:Hp}{Q:VK}{E:XK}{K:`F}
theorem EH {c:Nat}:rK [.str ⟨[c].toArray⟩] H Q E↔c < 256/\Q (.str ⟨[126,hexd (c / 16),hexd (c % 16)].toArray⟩) H:=
 ⟨λ⟨_,e,h⟩=>by injection e with e;injection e with e;cases aH.mp e;exact h,λh=>⟨c,rfl,h⟩⟩
theorem EI {c:Nat}:rL [.str ⟨[c].toArray⟩] H Q E↔c < 128/\Q (figV c) H:=
 ⟨λ⟨_,e,h⟩=>by injection e with e;injection e with e;cases aH.mp e;exact h,λh=>⟨c,rfl,h⟩⟩
theorem EJ {l:Tq}:rM [.str `A] H Q E↔`L<=1000/\(∀c∈l,c < 128)/\Q (signOfL l) H:=
 ⟨λ⟨_,e,h⟩=>by injection e with e;injection e with e;cases aH.mp e;exact h,λh=>⟨l,rfl,h⟩⟩
theorem EK {l:Tq}:jf [.str `A] H Q E↔`L<=2000/\(∀c∈l,isSg c=true)/\∀H',Same H H'->Q (.str ⟨(wr l).toArray⟩) H':=
 ⟨λ⟨_,e,h⟩=>by injection e with e;injection e with e;cases aH.mp e;exact h,λh=>⟨l,rfl,h⟩⟩
theorem c_sw {c:Nat}{r fr:Tq}:rN [.str ⟨(c::r).toArray⟩,.str ⟨fr.toArray⟩] H Q E↔r.length<=1000/\(∀d∈c::r,d < 128)/\(c=126\/r=[])/\Q (swV fr (c::r)) H:=
 ⟨λ⟨_,_,_,e,h⟩=>by injection e with e e2;injection e with e;injection e2 with e2;injection e2 with e2;cases aH.mp e;cases aH.mp e2;exact h,λh=>⟨c,r,fr,rfl,h⟩⟩
theorem EL {l fr:Tq}:rP [.str `A,.str ⟨fr.toArray⟩] H Q E↔`L<=2000/\(∀c∈l,c < 128)/\∀H',Same H H'->Q (undV (und fr l)) H':=
 ⟨λ⟨_,_,e,h⟩=>by injection e with e e2;injection e with e;injection e2 with e2;injection e2 with e2;cases aH.mp e;cases aH.mp e2;exact h,λh=>⟨l,fr,rfl,h⟩⟩
end
section
variable {P:Program}{w:World}{K:`F}{mg:Str->Option Value}{base:Heap}(g:G w K mg)
seal PE PA PT PS PSs PG PI PF PO PW
local macro_rules|`(tactic| fail "r")=>do let f:=λ(x:String)=>(x.splitOn " ").toArray.map λx=>Lean.mkIdent x.toName;let k:=f "L2.start L2.lB L2.lC length_cons length_nil Nat.reduceAdd Nat.reduceSub Nat.zero_add replicate_succ List.replicate_zero nil_append cons_append";let j:=f "L2.ua L2.ub L2.xH L2.xI L2.xK L2.xp L2.xF L2.rd_C L2.lA L2.z9 L2.z8 L2.xG L2.xJ L2.xL L2.xM L2.xN L2.xO L2.xP L2.xQ L2.rd_B L2.xR L2.xS L2.xT L2.xU L2.xV L2.xW L2.xX L2.xY L2.xZ L2.xb L2.xc L2.zG L2.zH L2.zI L2.bQ L2.zJ L2.zK L2.zM L2.xf L2.xg L2.xh L2.xi L2.xj L2.xk L2.xl L2.xn L2.rd_I L2.xo L2.i6 L2.aF L2.xr L2.bP L2.i7 L2.xx L2.lD L2.xu L2.i8 L2.yN L2.yO L2.lJ L2.iE L2.cg L2.yv L2.yy L2.yw L2.yx L2.yz L2.cx_K L2.wk L2.gz L2.wm L2.wo L2.wp L2.wt L2.x6 L2.x8 L2.x9 L2.xC L2.xD L2.yD L2.yE L2.yC L2.yH L2.rd_U L2.yI L2.yJ L2.z5 L2.z6 L2.lL L2.xy L2.xz L2.y6 nil_append cons_append exists_eq_left exists_eq_left' EH EI EJ EK EL L2.At L2.Au L2.Av L2.AB L2.AD L2.AY L2.B4 L2.mq L2.B5 L2.B7 L2.B8 L2.B6 L2.Bu L2.BD L2.BF L2.BG L2.BH L2.ij L2.BZ L2.Cw L2.CD L2.CF L2.CJ";let i:=f "L2.start L2.lB L2.lC length_cons length_nil Nat.reduceAdd Nat.reduceSub Nat.zero_add replicate_succ List.replicate_zero L2.yQ L2.yR L2.yS L2.yT L2.yU L2.yV L2.yW L2.yX L2.yY L2.yZ L2.ya L2.yb L2.yc L2.yd L2.ye L2.yf L2.yg L2.yh L2.yi L2.yj L2.yk L2.yl L2.ym L2.yn L2.yo L2.yp L2.yq L2.yr L2.yt L2.yu L2.sub_tuple_tuple L2.yA L2.yB Option.getD_some List.set_cons_zero List.set_cons_succ append_nil Option.some.injEq true_and and_true L2.V.bl.injEq L2.V.int.injEq L2.V.str.injEq L2.V.ref.injEq List.cons.injEq reduceCtorEq false_and and_false exists_false false_or or_false decide_eq_true_eq Bool.not_true Bool.not_false if_true if_false not_true_eq_false not_false_eq_true decide_true decide_false Bool.false_eq_true zU zV ah aE zW zo List.drop_succ_cons drop_zero L2.wZ L2.wc Bool.not_eq_true' decide_eq_false_iff_not";`(tactic| ((try dsimp only[$[$k:ident],*]);simp only[List.getElem?_cons_zero,List.getElem?_cons_succ,↓reduceIte,$[↓$j:ident],*,$[$i:ident],*]))
local macro_rules|`(tactic| fail "c")=>`(tactic| exact⟨rfl,rfl,rfl,by fail "k",rfl,by fail "k",by fail "k"⟩)
set_option hygiene false
local macro_rules|`(tactic| fail "n")=>`(tactic| with_reducible first|exact nx 0|exact nx 1|exact nx 2|exact nx 3|exact nx 4|exact nx 5|exact nx 6|exact nx 7|exact nx 8|exact nx 9)
local macro_rules|`(tactic| fail "D")=>do let f:=λ(x:String)=>(x.splitOn " ").toArray.map λx=>Lean.mkIdent x.toName;let i1:=f "PySem.F.slot_list_append PySem.F.slot_str_index PySem.F.slot_str_join";let i2:=f "cZ vM be bW kD bG va kE ux";let i3:=f "aC a8 aO";let i4:=f "bf gj kP gh b8";let i5:=f "kG vB vG xA vE kz vF uz vH xB";let i6:=f "cY lG bM h9 hV";let i7:=f "bN vN b0";let i8:=f "yF l9 wq kM cf";let i9:=f "dk bF dm ao ck b6 bI bH cD vD";let i10:=f "lI ce PySem.F.type_list_append PySem.F.type_str_index PySem.F.type_str_join PySem.F.plainAttrs_list PySem.F.plainAttrs_str";`(tactic| repeat' first|((with_reducible show _=_);first|exact (rfl:_=K)|decide|rfl|exact nomark _|with_unfolding_all rfl)|exact .inl rfl|exact rfl|(guard_target=PE _ _ _;first|((with_reducible apply pvG zq);fail "n")|(with_reducible first|exact aZ|apply aU|apply bJ|apply pxG K)|((with_reducible apply cF);assumption)|(with_reducible first|exact aJ)|((with_reducible apply glD);with_reducible assumption)|((with_reducible apply cB);with_reducible assumption)|(apply hintE 2;assumption;(with_reducible first|apply bZ|apply lM))|(with_reducible first|exact dj|exact di)|((with_reducible apply aW);exact (rfl:_=K);rotate_left;(with_reducible first $[|apply $i1:ident]*))|(with_reducible first $[|apply $i2:ident]*)|((with_reducible apply tY);with_reducible assumption)|((with_reducible apply cT);with_reducible assumption)|(with_reducible first|apply vf))|(guard_target=PA _ _ _;first|(with_reducible first|apply a6|exact aA))|(guard_target=PSs _ _ _;first|((with_reducible apply hintC);assumption)|(with_reducible first $[|apply $i3:ident]*))|(guard_target=PS _ _ _;first|((with_reducible apply hintN);assumption)|(with_reducible first|apply aI)|((with_reducible apply sxG zq);fail "n")|(with_reducible first|apply aL)|((with_reducible apply forT K);assumption)|((with_reducible apply forS);assumption)|(with_reducible first $[|apply $i4:ident]*))|(guard_target=OpR _ _ _;first|(with_reducible first $[|apply $i5:ident]*)|(apply hintE 7;assumption;with_reducible apply iC)|(apply hintE 10;assumption;(with_reducible first|apply bz))|(apply hintE 2;assumption;with_reducible apply al (K:=K))|(with_reducible first $[|apply $i6:ident]*))|(guard_target=PT _ _ _;first|(with_reducible first $[|apply $i7:ident]*)|((with_reducible apply PW.pt);with_reducible first|apply dk|apply bF|apply dm|apply ao)|(with_reducible first|apply af))|(guard_target=CallR _ _ _;first|(apply hintE 2;assumption;(with_reducible first|apply zF|apply lN))|(with_reducible first $[|apply $i8:ident]*))|(with_reducible first $[|apply $i9:ident]*)|((with_reducible apply pgG zq);fail "n")|(apply hintE 3;assumption;with_reducible apply As)|(apply hintE 4;assumption;with_reducible apply zL)|(with_reducible first $[|apply $i10:ident]*)|((with_reducible show MtR _ "list.append" _);exact dv)|((with_reducible show MtR _ "str.index" _);exact wa)|((with_reducible apply bX);rfl;exact g.bU.1)|((with_reducible apply ig);exact (rfl:_=K);rfl;exact g.fW.1)|((with_reducible apply eg);exact (rfl:_=K);rfl;exact g.dF.1)|(with_reducible first|apply b9)|decide|exact λ_=>rfl|exact λ_ _=>rfl|exact .inr rfl|exact .inr (.inl rfl)|exact .inr (.inr rfl)|exact hr|exact hr.units|exact .never)
local macro_rules|`(tactic| specialize $e)=>`(tactic| first|have:=$e (P:=P) (base:=base) g|have:=$e)
local macro_rules|`(tactic| exists $a,$[$e],*)=>`(tactic| refine⟨_,by (have zq:=$a);($[specialize $e];*);show PSs _ (_::_) _;fail "D",?_⟩)
local macro_rules|`(tactic| exists $a)=>`(tactic| refine⟨_,by (have zq:=$a);show PSs _ (_::_) _;fail "D",?_⟩)
local macro_rules|`(tactic| nomatch $t,$a,$[$e],*)=>`(tactic| refine⟨_,by (have zq:=$a);($[specialize $e];*);exact $t,?_⟩)
local macro_rules|`(tactic| nomatch $t,$a)=>`(tactic| refine⟨_,by (have zq:=$a);exact $t,?_⟩)
set_option hygiene true
theorem EM:Sc 2 ["text","signs"] (top 16):=`c
theorem rQ:Sc 1 ["sign","number"] (top 17):=`c
theorem rR:Sc 1 ["figure"] (top 19):=`c
theorem rS:Sc 1 ["number","place"] (top 20):=`c
theorem rV:Sc 1 ["address"] (top 37):=`c
theorem rW:Sc 2 ["thing","count"] (top 39):=`c
theorem rX:Sc 1 ["thing"] (top 41):=`c
theorem rY:Sc 3 ["rooted","texts","ends","ahead","behind"] (top 53):=`c
theorem rZ:Sc 1 ["question"] (top 54):=`c
theorem rc:Sc 1 ["step"] (top 61):=`c
theorem re:Sc 2 ["left","rooted"] (top 64):=`c
theorem rf:Sc 1 ["pieces"] (top 79):=`c
theorem rg:Sc 1 ["piece"] (top 82):=`c
theorem rh:Sc 1 ["gap"] (top 83):=`c
theorem rj:Sc 1 ["piece"] (top 84):=`c
theorem rk:Sc 1 ["piece"] (top 85):=`c
theorem rm:Sc 1 ["pattern","pieces"] (top 86):=`c
theorem rn:Sc 2 ["head","tail"] (top 105):=`c
theorem rp:Sc 2 ["self","text"] (inClass (top 113) 0):=`c
theorem rq:Sc 1 ["self"] (inClass (top 113) 1):=`c
theorem sA:Sc 1 ["self","sign"] (inClass (top 113) 3):=`c
theorem sB:Sc 2 ["self","text"] (inClass (top 113) 4):=`c
theorem jg:Sc 2 ["base","address","stays"] (top 138):=`c
theorem sC:Sc 2 ["table","name","entry_name","pattern"] (top 146):=`c
theorem dP:Sc 1 ["row","word","count","asked"] (top 152):=`c
theorem EN:Sc 2 ["table","name"] (top 154):=`c
theorem sD:Sc 2 ["_law_script","_law_k"] (top 159):=`c
theorem dQ:Sc 2 ["_law_cell","_law_many","_law_letters","_law_size","_law_spot","_law_found","_law_number","_law_name","_law_k","_law_place"] (top 161):=`c
theorem sE:Sc 1 ["_law_cell","_law_some","_law_found","_law_k"] (top 162):=`c
theorem sF:Sc 3 ["_law_cell","_law_signs_here","_law_many","_law_found","_law_k"] (top 163):=`c
theorem sG:Sc 2 ["_law_piece","_law_step"] (top 165):=`c
theorem sH:Sc 1 ["_law_found"] (top 167):=`c
theorem sI:Sc 1 ["_law_text_here","_law_figures","_law_found","_law_sign"] (top 172):=`c
theorem sJ:Sc 1 ["thing"] (top 15):=`c
theorem sK:Sc 1 ["figures","high","low"] (top 18):=`c
theorem EO:Sc 1 ["text"] (top 21):=`c
theorem sL:Sc 2 ["steps","rooted","left","step"] (top 63):=`c
theorem sM:Sc 1 ["thing"] (top 78):=`c
theorem EQ:Sc 1 ["pieces"] (top 81):=`c
theorem sN:Sc 2 ["pattern","count","pieces","more"] (top 97):=`c
theorem sP:Sc 2 ["part","step","head","tail"] (top 99):=`c
theorem sQ:Sc 1 ["text"] (top 100):=`c
theorem sR:Sc 1 ["text"] (top 101):=`c
theorem sS:Sc 2 ["gap","steps"] (top 102):=`c
theorem sU:Sc 2 ["self","signs"] (inClass (top 113) 2):=`c
theorem sW:Sc 1 ["cursor","door"] (top 117):=`c
theorem sX:Sc 1 ["cursor","name","pairs"] (top 120):=`c
theorem sY:Sc 1 ["piece","head"] (top 142):=`c
theorem sZ:Sc 2 ["table","name"] (top 153):=`c
theorem si:Sc 3 ["table","name","pattern"] (top 155):=`c
theorem ER:Sc 3 ["_law_script","_law_start","_law_many"] (top 160):=`c
theorem sj:Sc 3 ["_law_cell","_law_signs_here","_law_many","_law_found"] (top 164):=`c
theorem cU:Sc 2 ["_law_pattern","_law_way","_law_pieces","_law_rooted","_law_steps","_law_ends"] (top 166):=`c
theorem sk:Sc 3 ["_law_step","_law_cell","_law_name","_law_more","_law_size","_law_at"] (top 168):=`c
theorem so:Sc 2 ["piece","free"] (top 23):=`c
theorem sq:Sc 1 ["thing"] (top 38):=`c
theorem sr:Sc 1 ["thing"] (top 40):=`c
theorem su:Sc 2 ["house","door","behind"] (top 51):=`c
theorem sv:Sc 1 ["way"] (top 52):=`c
theorem sw:Sc 1 ["mark"] (top 56):=`c
theorem t6:Sc 1 ["way","steps","left"] (top 62):=`c
theorem t7:Sc 2 ["head","tail"] (top 77):=`c
theorem t8:Sc 1 ["pieces","names"] (top 80):=`c
theorem jh:Sc 1 ["piece","behind"] (top 91):=`c
theorem t9:Sc 2 ["piece","step"] (top 98):=`c
theorem ji:Sc 1 ["cursor","figures","sign"] (top 125):=`c
theorem gU:Sc 2 ["one","other","mine","theirs"] (top 141):=`c
theorem tD:Sc 1 ["value"] (top 157):=`c
theorem jj:Sc 3 ["_law_way","_law_cells_here","_law_names_here","_law_pieces"] (top 169):=`c
theorem tE:Sc 2 ["_law_cell","_law_signs_here","_law_more"] (top 170):=`c
theorem tF:Sc 2 ["text","free","signs","place","width","sign"] (top 22):=`c
theorem tG:Sc 1 ["address","scheme"] (top 50):=`c
theorem tH:Sc 1 ["address"] (top 65):=`c
theorem tI:Sc 1 ["way","way_gone"] (top 66):=`c
theorem tJ:Sc 1 ["thing"] (top 76):=`c
theorem tK:Sc 1 ["pattern"] (top 90):=`c
theorem tL:Sc 2 ["pattern","way","steps","pieces"] (top 96):=`c
theorem tM:Sc 1 ["piece","texts"] (top 106):=`c
theorem jk:Sc 1 ["cursor","scheme"] (top 115):=`c
theorem tN:Sc 3 ["cursor","free","most","signs","allowed"] (top 124):=`c
theorem tP:Sc 1 ["entries","best","entry"] (top 145):=`c
theorem tQ:Sc 1 ["led"] (top 156):=`c
theorem jl:Sc 3 ["_law_script","_law_start","_law_signs_here","_law_head","_law_steps"] (top 171):=`c
theorem tR:Sc 1 ["things"] (top 75):=`c
theorem jm:Sc 3 ["head","inside","tail","named"] (top 89):=`c
theorem gW:Sc 2 ["pattern","way","values","place","piece"] (top 95):=`c
theorem jn:Sc 2 ["piece","beside","head"] (top 110):=`c
theorem cV:Sc 2 ["cursor","must_be_rooted","rooted","steps","ends","step"] (top 119):=`c
theorem tS:Sc 1 ["cursor"] (top 122):=`c
theorem jo:Sc 3 ["cursor","free","most","text"] (top 123):=`c
theorem jp:Sc 1 ["address","house","small_house"] (top 127):=`c
theorem tT:Sc 2 ["base_way","way"] (top 137):=`c
theorem tU:Sc 1 ["thing"] (top 74):=`c
theorem gX:Sc 1 ["text","opened","closed"] (top 88):=`c
theorem tW:Sc 2 ["piece","beside","text"] (top 109):=`c
theorem tX:Sc 1 ["cursor"] (top 116):=`c
theorem tZ:Sc 2 ["base","address","way"] (top 136):=`c
theorem jq:Sc 2 ["table","way","entries","best"] (top 144):=`c
theorem gY:Sc 1 ["text","texts","ends","pieces"] (top 87):=`c
theorem gZ:Sc 2 ["one","other","count","mine","theirs","steps"] (top 108):=`c
theorem jr:Sc 1 ["text","cursor","scheme","house","door","way","question","mark"] (top 114):=`c
theorem tf:Sc 2 ["base","address"] (top 135):=`c
theorem dR:Sc 2 ["_law_table","_law_way","_law_found","_law_text_here","_law_name","_law_value"] (top 173):=`c
theorem tj:Sc 2 ["self","text","address"] (inClass (top 151) 0):=`c
theorem tm:Sc 2 ["self","text"] (inClass (top 151) 2):=`c
theorem tp:Sc 3 ["self","name","text"] (inClass (top 151) 4):=`c
theorem tq:Sc 3 ["self","one","other","way"] (inClass (top 151) 5):=`c
theorem tw:Sc 2 ["self","text"] (inClass (top 151) 3):=`c
theorem tz:Sc 2 ["self","row","asked"] (inClass (top 151) 1):=`c
theorem js:Sc 3 ["_law_desk","_law_one","_law_other","_law_found","_law_address"] (top 174):=`c
theorem gb:Sc 5 ["_law_desk","_law_table","_law_way","_law_script","_law_signs_here","_law_beside","_law_k","_law_other","_law_at","_law_step"] (top 176):=`c
theorem gc:Sc 4 ["_law_desk","_law_table","_law_names_here","_law_ends","_law_k","_law_pieces","_law_some","_law_one"] (top 175):=`c
theorem dS:Sc 1 ["_law_script","_law_names_here","_law_signs_here","_law_way","_law_desk","_law_table","_law_k","_law_pattern","_law_name","_law_known"] (top 177):=`c
theorem dU:g.Do.Ok P w base 1 sp_made_of:=by
 refine lnF EM ?_;rintro BT A dl s H vs Q E hr ⟨x,y,rfl,hx,k⟩;refine⟨_,(aC (aI (bq (cf (K:=K) rfl rfl) rfl g.dD.1 PyProof.Rows.boot_all (a6 (cmp1 ["signs"] [1] (cE (pv 0)) ae (cZ h9 (pv 0) (pv 1) (by with_unfolding_all rfl))) aA)))),?_⟩;fail "r";intro p hp;refine i9 (z:=x) (a9 hx) hp (λc=>.bl (decide (c∈y.cps.toList))) (λc hc H' R hR=>?_) (λH' sm mt=>?_)
 .fail "r";exact hR H' `r
 .refine lL.mpr ⟨x.cps.toList.map λc=>decide (c∈y.cps.toList),SqL.of (by rw[mt,map_map];rfl),?_⟩;rw[all_map];exact k H' sm
theorem ES:g.jH.Ok P w base 1 rK:=by
 refine g.jH.F.ok rQ (λvs H Q E h=>?_) (λmt A dl s H vs Q E hr h=>?_)
 .obtain⟨c,rfl,_⟩:=h;rfl
 .obtain⟨c,rfl,hc,k⟩:=h
  exists rQ.nd,g.jN,g.jQ
  fail "r";exact⟨⟨`d,`d⟩,hexd (c / 16),lP,eC `l `l,`d,`d,hexd (c % 16),lP,eC `l `l,`d,k⟩
theorem ET:g.pR.Ok P w base 1 rL:=by
 refine g.pR.F.ok rR (λvs H Q E h=>?_) (λmt A dl s H vs Q E hr h=>?_)
 .obtain⟨c,rfl,_⟩:=h;rfl
 .obtain⟨a,rfl,ha,k⟩:=h
  exists rR.nd,g.qM,g.jN
  fail "r";refine ite2 (λh=>?_) (λh=>?_)
  .obtain⟨e1,e2⟩:=zO a ha h;obtain⟨n,hn⟩:=Option.isSome_iff_exists.mp e2;rw[hn] at e1;rw[cm hn] at k;exact⟨n,[],e1,k⟩
  .refine ite2 (λh2=>?_) (λh2=>?_)
   .obtain⟨e1,e2⟩:=zP a ha h h2;obtain⟨n,hn⟩:=Option.isSome_iff_exists.mp e2;rw[hn] at e1;rw[cm hn] at k;exact⟨n,[],e1,k⟩
   .rw[iI (zQ a ha h h2)] at k;exact k
theorem EU:g.Dp.Ok P w base 1 sp_sign_numbered:=by
 refine lnF rS ?_;rintro BT A mt s H vs Q E hr ⟨n,rfl,k⟩
 exists rS.nd,g.jL,g.qL,g.qJ,g.qK
 fail "r";refine ite2 (λh=>?_) (λh=>?_)
 .rw[iJ (λq=>by have:=bA q;lia)] at k;exact k
 .refine ite2 (λh1=>?_) (λh1=>?_)
  .rw[iJ (λq=>by have:=bA q;lia)] at k;exact k
  .refine ite2 (λh2=>?_) (λh2=>?_)
   .rw[iJ (λq=>by have:=bA q;lia)] at k;exact k
   .have hs:isSg n=true:=zY `l `l `l;rw[zX hs] at k;have dl:=zR n `l hs;refine ite2 (λh3=>?_) (λh3=>?_)
    .rw[if_pos (show 37 < n by lia)] at dl;refine⟨n,lQ,?_,k⟩;rw[show (n:Int) - 32 - 1=((n - 32 - 1:Nat):Int) by lia];exact a7 dl
    .rw[if_neg (show ¬ 37 < n by lia)] at dl;refine⟨n,lQ,?_,k⟩;rw[show (n:Int) - 32=((n - 32 - 0:Nat):Int) by lia];exact a7 dl
theorem jt:g.Dq.Ok P w base 1 (sp_is_whole K):=by
 refine lnF rV ?_;rintro cdv A outer s H vs Q E hr ⟨p,l,r,rfl,hp,k⟩
 exists rV.nd,g.dA
 fail "r";refine⟨_,_,.inr hp,iQ,?_⟩;fail "r";rw[show decide ((⟨l.toArray⟩:Str)=⟨([]:Tq).toArray⟩)=decide (l=[]) from decide_eq_decide.mpr aH];exact k
theorem u0:g.Dr.Ok P w base 1 sp_is_tuple:=by
 refine lnF rW ?_;rintro mt A dl s H vs Q E hr ⟨d,v,n,rfl,hv,k⟩
 exists rW.nd,g.aK,g.bK,g.ak
 cases hv with
 |lst hp r=>fail "r";simp only[ci hp];fail "r";exact k
 |dic hp=>fail "r";simp only[yP hp];fail "r";exact ite2 (λz=>absurd z `d) (λ_=>k)
 |tup hp r=>fail "r";simp only[cj hp];fail "r";refine⟨_,.inr (SqT.of hp),?_⟩;rw[<- r.length];exact k
 |_=>fail "r";exact k
theorem EV:g.Ds.Ok P w base 1 sp_is_whole_number:=by
 refine lnF rX ?_;rintro mt A dl s H vs Q E hr ⟨d,v,rfl,hv,k⟩
 exists rX.nd,g.fU,g.ak,g.fV
 cases hv with
 |lst hp r=>fail "r";simp only[ci hp];fail "r";exact k
 |tup hp r=>fail "r";simp only[cj hp];fail "r";exact k
 |dic hp=>fail "r";exact⟨"dict",by simp only[kindV,hp],ite2 (λz=>absurd z `d) (λ_=>k)⟩
 |_=>fail "r";exact k
theorem u3:g.jI.Ok P w base 1 (sp_slashed K):=by
 refine lnF rY ?_;rintro mt A dl s H vs Q E hr ⟨r,e,p,ts,rfl,hp,hl,k⟩
 exists rY.nd,g.aK,hint 0 115,hint 0 116
 have c1:ofString "/"=⟨[47].toArray⟩:=by fail "k"
 rw[c1];fail "r";refine⟨λZ H'=>H'=H/\Z=[some (.bl r),some (.ref p),some (.bl e),some (.str ⟨(if r then [47] else []:Tq).toArray⟩),none],?_,?_⟩
 .cases r with
  |true=>exact ite2 (λ_=>`R) `a
  |false=>exact ite2 `E (λ_=>`R)
 rintro Z H' ⟨rfl,rfl⟩;fail "r";refine⟨λZ H''=>H''=H'/\Z=[some (.bl r),some (.ref p),some (.bl e),some (.str ⟨(if r then [47] else []:Tq).toArray⟩),some (.str ⟨(if e && !ts.isEmpty then [47] else []:Tq).toArray⟩)],?_,?_⟩
 .cases e with
  |false=>exact ite2 `E (λ_=>`R)
  |true=>
   refine ite2 (λ_=>⟨_,.inl hp,?_⟩) `a;rw[length_map];cases ts with
   |nil=>exact ite2 (λz=>absurd z `d) (λ_=>`R)
   |cons t ts=>exact ite2 (λ_=>`R) (λz=>absurd `s z)
 rintro Z H'' ⟨rfl,rfl⟩;fail "r";have hj:=Ab (sep:=47) ts;have h1:(if r=true then [47] else ([]:Tq)).length<=1:=by split <;> simp
 have h2:(if (e && !ts.isEmpty)=true then [47] else ([]:Tq)).length<=1:=by split <;> simp
 refine⟨ts.map λl=>`A,by rw[map_map];exact hp,?_,?_⟩
 .rw[Ac,length_map];have:(ts.map List.length).sum+ts.length<=(joinT 47 ts).length+1:=hj;lia
 rw[show (⟨#[47]⟩:Str)=⟨[47].toArray⟩ from rfl,eN];fail "r";refine⟨a9 `l,a9 (by rw[length_append];lia),?_⟩;rw[append_assoc];exact k
theorem EW:g.pS.Ok P w base 1 EF:=by
 refine g.pS.F.ok rZ (λvs H Q E h=>?_) (λcdv A outer s H vs Q E hr h=>?_)
 .obtain⟨rfl,_⟩:=h;rfl
 .obtain⟨rfl,k⟩:=h
  exists rZ.nd,hint 1 121
  fail "r";exact k
theorem kup:k_UP=sV sUp:=congrArg V.str (show ofString ".."=⟨sUp.toArray⟩ by fail "k")
theorem kst:pP=sV sStay:=congrArg V.str (show ofString "."=⟨sStay.toArray⟩ by fail "k")
theorem ju:g.Dt.Ok P w base 1 sp_is_dot:=by
 refine lnF rc ?_;rintro mt A dl s H vs Q E hr ⟨s,rfl,k⟩
 exists rc.nd,g.c_UP,g.fT
 have d1:ofString ".."=⟨sUp.toArray⟩:=by fail "k"
 have d2:ofString "."=⟨sStay.toArray⟩:=by fail "k"
 fail "r";rw[d1,d2];simp only[aH];by_cases h2:s=sStay
 .rw[if_pos h2];rw[show isDot s=true by simp[isDot,h2]] at k;exact k
 .rw[if_neg h2];rw[show isDot s=decide (s=sUp) by simp[isDot,h2]] at k;exact k
theorem EX:g.Du.Ok P w base 1 (sp_go_up K):=by
 refine lnF re ?_;rintro BT A mt s H vs Q E hr ⟨p,L,r,rfl,hp,hl,k⟩
 nomatch (aC (aL `D
    (aC (bf (iA (K:=K) rfl PySem.F.plainAttrs_list PySem.F.slot_list_pop PySem.F.type_list_pop wL (pv 0)))) `D)),re.nd,g.c_UP,g.aK
 fail "r";simp only[kup];have hS:SqL K H p (L.map sV)\/SqT K H p (L.map sV):=.inl (.of hp);have dl:(if r then L else L++[sUp])=goUp r L->(if r=false then (∃xs,SqL K H p xs)/\∃xs,H p=some (.lst xs)/\`x < sizeLine/\Q .non (upd H p (.lst (xs++[sV sUp]))) else Q .non H):=λe=>by
  cases r with
  |true=>rw[if_neg `d];rw[<- e,if_pos rfl,AC hp] at k;exact k
  |false=>rw[if_pos rfl];refine⟨⟨_,.of hp⟩,_,hp,a9 (by rw[length_map];lia),?_⟩;rw[<- e,if_neg `d,map_append] at k;exact k
 refine⟨_,hS,?_⟩;rw[length_map];cases hg:L.getLast? with
 |none=>have hL:=List.getLast?_eq_none_iff.mp hg;subst hL;refine ite2 (λz=>absurd z `d) (λ_=>dl ?_);simp[goUp]
 |some s=>
  have hn:L≠[]:=λz=>by rw[z] at hg;cases hg
  have hl0:=length_pos_iff.mpr hn;refine ite2 (λ_=>?_) (λz=>absurd `l z);refine⟨_,_,hS,cI _ hg,?_⟩;fail "r";by_cases hs:s=sUp
  .subst hs;refine ite2 (λz=>absurd (rfl:(⟨sUp.toArray⟩:Str)=⟨sUp.toArray⟩) z) (λ_=>dl ?_);simp only[goUp,hg,if_true]
  .refine ite2 (λ_=>?_) (λz=>absurd (λe=>hs (aH.mp e)) z);refine⟨⟨_,.of hp⟩,_,sV s,hp,?_,?_⟩
   .rw[length_map,List.getElem?_map,<- List.getLast?_eq_getElem?,hg];rfl
   .rw[show goUp r L=L.dropLast by simp only[goUp,hg,if_neg hs],List.map_dropLast] at k;exact k
theorem EY:g.Dv.Ok P w base 1 (sp_rests_stand_last K):=by
 refine lnF rf ?_;rintro Fr A mt s H vs Q E hr ⟨cs,xs,q,rfl,hq,hx,hl,k⟩
 nomatch (aC (aI (bq (cf (K:=K) rfl rfl) rfl g.dD.1 PyProof.Rows.boot_all (a6 (cmp1 [] [] (bu (K:=K) rfl `D) ae (pcm bM (px K (pv 0) aZ) aJ)) aA)))),rf.nd,hint 3 0
 fail "r";have Fn:=hx.length;refine⟨_,hq,λp1 H1 s1 h1=>?_⟩;rw[oj] at h1;refine⟨⟨_,.of h1⟩,λp2 n2=>?_⟩;refine nT (xs:=xs.dropLast) (λi ys H'=>Same H1 H'/\ys=((cs.dropLast.take i).map λc=>!c.isRest).map V.bl) (a9 (by rw[length_dropLast];lia)) ⟨aM n2,rfl⟩ (λi ys H2 hJ=>.of (hJ.1 _ _ h1)) (λi x ys H2 T dl hJ h2 hT=>?_) (λys H2 hJ h2=>?_)
 .obtain⟨s2,rfl⟩:=hJ;have hi:=(List.getElem?_eq_some_iff.mp dl).1;rw[length_dropLast] at hi;rw[List.dropLast_eq_take,List.getElem?_take_of_lt `l] at dl;obtain⟨c,b,hc,rfl,Cl⟩:=hx.get dl;fail "r";refine⟨_,_,.inr ((s1.trans s2).tup Cl),c.at0,bP.mpr ?_⟩;rw[ek];refine hT _ H2 h2 ⟨bv n2 s2,?_⟩;have BT:cs.dropLast[i]?=some c:=by rw[List.dropLast_eq_take,List.getElem?_take_of_lt `l];exact hc
  rw[take_add_one,BT,map_append,map_append];rfl
 .obtain⟨s2,rfl⟩:=hJ;fail "r";refine⟨_,.of h2,?_⟩;have e:(((cs.dropLast.take xs.dropLast.length).map λc=>!c.isRest).all id)=restsL cs:=by
   unfold restsL;rw[length_dropLast,Fn,<- length_dropLast,take_length,all_map];rfl
  rw[e];exact k H2 (s1.trans s2)
theorem gd:g.pT.Ok P w base 1 (sp_is_gap K):=by
 refine lnF rg ?_;rintro cdv A outer s H vs Q E hr ⟨c,p,rfl,hp,k⟩
 exists rg.nd
 fail "r";refine⟨_,_,.inr hp,c.at0,?_⟩;refine L2.bP.mpr ?_;rw[eh];exact k
theorem u4:g.pU.Ok P w base 1 (sp_name_of K):=by
 refine lnF rh ?_;rintro mt A dl s H vs Q E hr ⟨c,p,rfl,hp,hc,k⟩
 exists rh.nd
 fail "r";refine⟨_,_,.inr hp,c.at0,?_⟩;refine L2.aF.mpr ⟨_,rfl,?_⟩;rw[av];cases c with
 |step s=>cases hc
 |part h n t=>exact ite2 (λ_=>⟨_,_,.inr hp,a7 (j:=2) rfl,k⟩) `a
 |num n=>exact ite2 `E (λ_=>⟨_,_,.inr hp,a7 (j:=1) rfl,k⟩)
 |word n=>exact ite2 `E (λ_=>⟨_,_,.inr hp,a7 (j:=1) rfl,k⟩)
 |gap n=>exact ite2 `E (λ_=>⟨_,_,.inr hp,a7 (j:=1) rfl,k⟩)
 |rest n=>exact ite2 `E (λ_=>⟨_,_,.inr hp,a7 (j:=1) rfl,k⟩)
theorem dW:g.Dw.Ok P w base 1 (sp_head_of K):=by
 refine lnF rj ?_;rintro mt A dl s H vs Q E hr ⟨c,p,rfl,hp,k⟩
 exists rj.nd
 fail "r";refine⟨_,_,.inr hp,c.at0,?_⟩;refine L2.aF.mpr ⟨_,rfl,?_⟩;rw[av];cases c with
 |part h n t=>exact ite2 (λ_=>⟨_,_,.inr hp,a7 (j:=1) rfl,k⟩) `a
 |_=>exact ite2 `E (λ_=>k)
theorem dX:g.Dx.Ok P w base 1 (sp_tail_of K):=by
 refine lnF rk ?_;rintro mt A dl s H vs Q E hr ⟨c,p,rfl,hp,k⟩
 exists rk.nd
 fail "r";refine⟨_,_,.inr hp,c.at0,?_⟩;refine L2.aF.mpr ⟨_,rfl,?_⟩;rw[av];cases c with
 |part h n t=>exact ite2 (λ_=>⟨_,_,.inr hp,a7 (j:=3) rfl,k⟩) `a
 |_=>exact ite2 `E (λ_=>k)
theorem EZ:g.Dy.Ok P w base 1 (sp_has_rest K):=by
 refine lnF rm ?_;rintro BT A dl s H vs Q E hr ⟨cs,xs,p,q,e,rfl,hp,hq,hx,hn,k⟩
 exists rm.nd,g.aK,g.bi
 fail "r";refine⟨_,_,.inr hp,a7 (j:=0) rfl,?_⟩;fail "r";refine⟨xs,.inr hq,?_⟩;have hl:=hx.length;by_cases h0:cs=[]
 .subst h0;refine ite2 (λz=>?_) (λ_=>k);rw[hl] at z;simp at z
 obtain⟨c,hc⟩:∃c,cs.getLast?=some c:=⟨_,List.getLast?_eq_some_getLast h0⟩;have hr:hasRest cs=c.isRest:=by unfold hasRest;rw[hc]
 obtain⟨v,hv,pc,rfl,mt⟩:=hx.last hc;refine ite2 (λ_=>?_) (λz=>absurd (show (0:Int) < (`x:Int) by rw[hl];have:=length_pos_iff.mpr h0;lia) z);refine⟨_,_,.inr hq,hv,?_⟩;fail "r";refine⟨_,_,.inr mt,c.at0,?_⟩;refine L2.aF.mpr ?_;rw[ek,<- hr];exact k
theorem u5:g.pV.Ok P w base 1 (sp_texts_around K):=by
 refine lnF rn ?_;rintro BT A dl s H vs Q E hr ⟨hd,tl,rfl,hh,ht,k⟩
 nomatch (aC (aI (cmp1 ["tail","head"] [1,0] (cE `D) ae (aU (al (K:=K)) (aU (al (K:=K)) (pv 2) (pv 0)) (pv 1))))),rn.nd,g.qU
 fail "r";intro p n;have eT:(ofString "ab01").cps.toList=trS:=by fail "k"
 refine i9 `k n (λc=>tV (hd++[c]++tl)) (λc _ H1 R hR=>?_) (λH1 s1 mt=>?_)
 .fail "r";refine⟨a9 `l,a9 ?_,hR H1 `r⟩;simp only[length_append,length_singleton];lia
 .refine k p H1 s1 ?_;rw[mt,eT];unfold trialsM;rw[map_map];rfl
theorem F0:FnOk P w K mg base CX0 1 g.fY g.fZ ["self","text"] (sp_Cursor___init__ K g.aN):=by
 refine lnT (g.qY.ok rp) ?_;rintro mt A dl s H vs Q E hr ⟨p,dx,t,rfl,hp,k⟩
 exists rp.nd
 fail "r";refine⟨p,_,dx,_,rfl,hp,g.aQ,g.bj,by show 0 < 1000;decide,?_⟩;refine⟨p,_,dx,_,rfl,aB,g.aQ,g.bC,by show 1 < 1000;decide,?_⟩;have h:ofString "text" ≠ ofString "place" := by fail "k"
 rw[uV];refine k _ ag ⟨dx,?_⟩;rw[aB];simp only[putF,if_neg h];rfl
theorem u6:FnOk P w K mg base CX0 1 g.fb g.fe ["self"] (sp_Cursor_at_end K g.aN):=by
 refine lnT (g.qc.ok rq) ?_;rintro BT A mt s H vs Q E hr ⟨p,t,i,rfl,⟨dx,hp⟩,hl,k⟩
 exists rq.nd,g.aK
 have dl:Cur H g.aN p t i:=⟨dx,hp⟩;fail "r";refine bh dl g.aQ g.bC (cJ dl g.aQ g.bj ?_);fail "r";refine⟨a9 hl,?_⟩;rw[show decide ((i:Int)=(`t:Int))=decide (i=`t) from decide_eq_decide.mpr `l];exact k
theorem jv:FnOk P w K mg base CX0 1 g.ff g.fh ["self"] (sp_Cursor_take K g.aN):=by
 refine lnT (g.qd.ok sA) ?_;rintro BT A mt s H vs Q E hr ⟨p,t,i,c,rfl,⟨dx,hp⟩,hc,hl,k⟩
 exists sA.nd
 have dl:Cur H g.aN p t i:=⟨dx,hp⟩;fail "r";refine cJ dl g.aQ g.bj (bh dl g.aQ g.bC ?_);fail "r";refine⟨c,a9 hl,a7 hc,?_⟩;refine bh dl g.aQ g.bC ?_;fail "r";exact mx dl g.aQ g.bC (i+1) `l λH' sb h=>k H' sb h
theorem dY {K:`F}{C p:Addr}{H:Hp}{Q:VK}{E:XK}{t w r:Tq}{i:Nat}(h:Cur H C p t i)(hi:i<=`t)(hl:`t<=100000)(hd:t.drop i=w++r)(k:∀H',SameBut p H H'->Cur H' C p t (i+w.length)->i+w.length<=`t->t.drop (i+w.length)=r->Q (.bl true) H'):sp_Cursor_passes K C [.ref p,.str ⟨w.toArray⟩] H Q E:=
 ⟨p,t,w,i,rfl,h,hi,hl,λ_ H' s c=>k H' s c (by have:=congrArg List.length hd;rw[length_drop,length_append] at this;lia) (by rw[<- drop_drop,hd,drop_left]),λz=>absurd (by rw[hd,List.take_left]) z⟩
theorem jw {K:`F}{C p:Addr}{H:Hp}{Q:VK}{E:XK}{t w:Tq}{i:Nat}(h:Cur H C p t i)(hi:i<=`t)(hl:`t<=100000)(hn:¬ (t.drop i).take w.length=w)(k:Q (.bl false) H):sp_Cursor_passes K C [.ref p,.str ⟨w.toArray⟩] H Q E:=
 ⟨p,t,w,i,rfl,h,hi,hl,λz=>absurd z hn,λ_=>k⟩
theorem dZ {K:`F}{C p:Addr}{H:Hp}{Q:VK}{E:XK}{t r:Tq}{i c:Nat}(h:Cur H C p t i)(hi:i<=`t)(hl:`t<=100000)(hd:t.drop i=r)(hn:r.head?≠some c)(k:Q (.bl false) H):sp_Cursor_passes K C [.ref p,.str ⟨[c].toArray⟩] H Q E:=
 jw h hi hl (λz=>hn (by rw[hd] at z;cases r with|nil=>cases z|cons d r=>rw[(List.cons.inj z).1];rfl)) k
theorem bo:FnOk P w K mg base CX0 1 g.fj g.fk ["self","text"] (sp_Cursor_passes K g.aN):=by
 refine lnT (g.qe.ok sB) ?_;rintro BT A mt s H vs Q E hr ⟨p,t,w,i,rfl,⟨dx,hp⟩,hi,hl,k1,k2⟩
 nomatch (a8 (aL (b0 (af (aW (K:=K) rfl PySem.F.plainAttrs_str PySem.F.slot_str_startswith PySem.F.type_str_startswith B2 `D (a6 (pv 1) (a6 `D aA)))))
    `D aO)
   (a8 `D
   (aC `D))),sB.nd,g.aK
 have dl:Cur H g.aN p t i:=⟨dx,hp⟩;fail "r";refine cJ dl g.aQ g.bj ⟨rfl,bh dl g.aQ g.bC ?_⟩;fail "r";have e:=iX t w i hi;rw[aE,aE] at e;rw[e];by_cases h:(t.drop i).take w.length=w
 .rw[decide_eq_true h,if_neg `d];refine bh dl g.aQ g.bC ?_;fail "r";exact⟨a9 (by have:=congrArg List.length h;rw[length_take,length_drop] at this;lia),mx dl g.aQ g.bC (i+w.length) `l λH' sb h'=>k1 h H' sb h'⟩
 .rw[decide_eq_false h,if_pos rfl];exact k2 h
theorem F1:g.Dz.Ok P w base 1 (sp_question_from K):=by
 refine lnF jg ?_;rintro Gb A BT s H vs Q E hr ⟨b,x,vb,vx,rfl,hB,hX,wf,k⟩
 nomatch (a8 (sx 2 jg.nd (bW (pcm (mL (K:=K) rfl hr.units) `D (bE (v:=.ref g.dM) rfl g.jZ rfl)) (be `D)))
   (aC `D)),jg.nd,g.fR,g.cN
 obtain⟨pb,wb,qb,rfl,Fr,Ga,Fn⟩:=bR hB;obtain⟨px,wx,qx,rfl,mt,Cl,dl⟩:=bR hX;fail "r";refine⟨_,_,.inr mt,rfl,?_⟩;refine⟨wayOf x.w,wayOf noWay,Cl,g.ja H,mU (λs hs=>(wf.stp s hs).2),`d,_,rfl,?_⟩;rw[mV];by_cases e:x.w=noWay
 .rw[if_pos (decide_eq_true e)];refine⟨_,_,.inr mt,rfl,?_⟩;cases hq:x.quest with
  |none=>rw[hq] at dl;cases dl;refine ite2 (λ_=>⟨_,_,.inr Fr,rfl,k _ ?_⟩) `a;rw[questFrom,if_pos ⟨e,hq⟩];exact Fn
  |some ps=>rw[hq] at dl;obtain⟨p',xs,rfl,_⟩:=eV dl;refine ite2 `E (λ_=>⟨_,_,.inr mt,rfl,k _ ?_⟩);rw[questFrom,if_neg (by simp[hq]),hq];exact dl
 .rw[if_neg (by simpa using e)];refine⟨_,_,.inr mt,rfl,k _ ?_⟩;rw[questFrom,if_neg (λz=>e z.1)];exact dl
theorem F2:g.DA.Ok P w base 1 (sp_pattern_named K):=by
 refine lnF sC ?_;rintro Ga A BT s H vs Q E hr ⟨l,T,ws,n,t0,rfl,hl,hT,mt,k⟩
 exists sC.nd,hint 1 495
 fail "r";have Fr:=hT.length;refine⟨⟨_,.of hl⟩,?_⟩;refine cG (xs:=ws) (λi Z H'=>Same H H'/\Ex2 λ(v2 v3:Option V)=>Z=[some (.ref l),some (tV n),v2,v3]/\(T.drop i).find? (λt=>decide (t.1=n))=some t0) ⟨Same.refl _,none,none,rfl,mt⟩ (λi Z H' _ h=>.of (h.1 _ _ hl)) ?_ ?_
 .rintro i v Z H1 hv ⟨s1,v2,v3,rfl,dl⟩;obtain⟨t,ht,a',p',rfl,Fn,Cl⟩:=hT.get hv;rw[Az ht,List.find?_cons] at dl;fail "r";refine⟨a',_,rfl,.of (s1 _ _ Fn),rfl,_,_,rfl,_,_,rfl,rfl,?_⟩;fail "r";refine ite2 (λh=>?_) (λh=>⟨s1,_,_,`R,by rw[decide_eq_false (λz=>h (by rw[z]))] at dl;exact dl⟩);rw[decide_eq_true (aH.mp h)] at dl;cases dl;exact k p' H1 s1 (Cl.mono s1.toT)
 rintro Z H1 ⟨s1,v2,v3,rfl,dl⟩;rw[Fr,drop_length] at dl;cases dl
theorem F3:g.DB.Ok P w base 1 (sp_read_row K):=by
 refine lnF dP ?_;rintro Ga A Cl s H vs Q E hr ⟨BT,ws,rfl,hc,k⟩
 nomatch (a8 `D
   (a8 (sx 1 dP.nd (px K (aW (K:=K) rfl PySem.F.plainAttrs_str PySem.F.slot_str_partition PySem.F.type_str_partition cr (pv 0) (a6 aJ aA)) aZ))
   (a8 (aL (bN (D0 (g.jd P)) (pv 1) (bE (v:=.ref g.dN) rfl g.jc rfl) (by with_unfolding_all rfl))
    `D aO)
   (a8 (sx 2 dP.nd (aU (al (K:=K)) aZ (oR (g.jd P) (bE (v:=.ref g.dN) rfl g.jc rfl) (pv 1) (λ_ _=>rfl))))
   (a8 (sx 3 dP.nd (bG (bN (bz (K:=K) rfl) (pv 1) (bE (v:=.ref g.dO) rfl g.je rfl) (by with_unfolding_all rfl)) (aW (K:=K) rfl PySem.F.plainAttrs_str PySem.F.slot_str_split PySem.F.type_str_split D1 (pv 0) (a6 aJ (a6 (pv 2) aA))) (aW (K:=K) rfl PySem.F.plainAttrs_str PySem.F.slot_str_split PySem.F.type_str_split oW (pv 0) (a6 aJ aA))))
   (a8 (aL (PW.pt (ao (ptm bM `D (bG (bN (bz (K:=K) rfl) (pv 1) (bE (v:=.ref g.dO) rfl g.je rfl) (by with_unfolding_all rfl)) `D (pv 2))) (bF `D)))
    `D aO)
   (aC `D))))))),dP.nd,hint 10 0,g.aK,hint 2 0,hint 1 548,hint 1 544,g.aw,g.ak,hint 1 541
 have Fr:ofString " "=⟨#[32]⟩:=by fail "k"
 rw[Fr];fail "r";have dl:∀{n:Tq},NmOk n->32∉n:=λh z=>by have:=fG h.2 32 z;lia
 have mt:∀{n:Tq},NmOk n->n≠[]:=λh z=>by have:=h.1.1;rw[z] at this;cases this
 have em:∀{n w:Tq},NmOk n->w≠[]->mkS []∉[mkS w,mkS n]:=λh h' z=>by
  rcases mem_cons.mp z with z|z
  .exact h' (aH.mp z).symm
  .exact mt h (aH.mp (mem_singleton.mp z)).symm
 obtain⟨w,Fn,c⟩:∃w:Tq,(w∈[wLead,wGo,wAdd,wBoth])/\BT.length<=90100/\(Txt.partition ⟨BT.toArray⟩ ⟨#[32]⟩).1=mkS w:=by
  have pt:∀(w t:Tq),32∉w->(Txt.partition ⟨(w++32::t).toArray⟩ ⟨#[32]⟩).1=mkS w:=λw t h=>congrArg Prod.fst (c0 (a:=w) (b:=t) (c:=32) h);have ln:∀{n:Tq},NmOk n->n.length<=8:=λh=>h.1.2;rcases hc with⟨rfl,_⟩|⟨t,rfl,h,_⟩|⟨n,t,rfl,hn,h,_⟩|⟨a,b,rfl,ha,hb,_⟩
  .exact⟨wLead,`s,`d,congrArg Prod.fst (fD (t:=wLead) `d)⟩
  .exact⟨wGo,`s,by rw[length_append,length_cons,show wGo.length=2 from rfl];lia,pt _ _ `d⟩
  .exact⟨wAdd,`s,by have:=ln hn;rw[length_append,length_cons,length_append,length_cons,show wAdd.length=3 from rfl];lia,pt _ _ `d⟩
  .exact⟨wBoth,`s,by have:=ln ha;have:=ln hb;rw[length_append,length_cons,length_append,length_cons,show wBoth.length=4 from rfl];lia,pt _ _ `d⟩
 refine⟨rfl,a9 `l,λp hp=>⟨_,_,.inr (.of aB),iQ,?_⟩⟩;rw[c.2];generalize hH:upd H p _=H1;have s1:Same H H1:=hH▸aM hp;have W:=bb (ss:=wtW) (g.cS H1);rcases hc with⟨rfl,rfl⟩|⟨t,rfl,h,rfl⟩|⟨n,t,rfl,hn,h,rfl⟩|⟨a,b,rfl,ha,hb,rfl⟩
 .have e:w=wLead:=aH.mp (c.2.symm.trans (congrArg Prod.fst (fD (t:=wLead) `d)));subst e;refine⟨rfl,_,rfl,false,by with_unfolding_all kernel_rfl,?_⟩;rw[if_neg `d];refine⟨_,0,rfl,by with_unfolding_all kernel_rfl,?_⟩;refine⟨_,wtW.map V.str,rfl,.inr W,rfl,rfl,false,by rw[ai];fail "k",?_⟩;rw[if_neg `d,show (Txt.split ⟨wLead.toArray⟩ ⟨#[32]⟩).map V.str=[tV wLead] by fail "k"];refine⟨`d,λq hq=>⟨_,.inl (.of aB),_,wtW.map V.str,rfl,.inr (bb (ss:=wtW) (g.cS _)),rfl,rfl,false,by rw[ai];fail "k",?_⟩⟩;rw[if_neg `d,if_neg `d];refine⟨_,.of aB,λr hr=>⟨_,_,rfl,.inl (.of aB),rfl,rfl,false,`k,?_⟩⟩;rw[if_neg `d];exact k q _ ((s1.trans (aM hq)).trans (aM hr)) (aM hr _ _ aB)
 .have e:w=wGo:=aH.mp (c.2.symm.trans (congrArg Prod.fst (c0 (a:=wGo) (b:=t) (c:=32) `d)));subst e;refine⟨rfl,_,rfl,false,by with_unfolding_all kernel_rfl,?_⟩;rw[if_neg `d];refine⟨_,0,rfl,by with_unfolding_all kernel_rfl,?_⟩;refine⟨_,wtW.map V.str,rfl,.inr W,rfl,rfl,true,by rw[ai];fail "k",?_⟩;rw[if_pos rfl];refine⟨_,32,1,rfl,rfl,by rw[aE];have:=c.1;lia,`d,λq hq=>?_⟩;rw[show ((Txt.splitMax ⟨(wGo++32::t).toArray⟩ ⟨#[32]⟩ ((1:Nat):Int)).map V.str)=[tV wGo,tV t] from congrArg (List.map V.str) (D2 (a:=wGo) (b:=t) (c:=32) `d `d)];fail "r";refine⟨_,.inl (.of aB),_,wtW.map V.str,rfl,.inr (bb (ss:=wtW) (g.cS _)),rfl,rfl,true,by rw[ai];fail "k",?_⟩;rw[if_pos rfl,if_neg (λz=>z rfl)];refine⟨_,.of aB,λr hr=>⟨_,_,rfl,.inl (.of aB),rfl,rfl,false,show V.bl (inV (.str (mkS [])) [tV wGo])=_ from congrArg V.bl `k,?_⟩⟩;rw[if_neg `d];exact k q _ ((s1.trans (aM hq)).trans (aM hr)) (aM hr _ _ aB)
 .have e:w=wAdd:=aH.mp (c.2.symm.trans (congrArg Prod.fst (c0 (a:=wAdd) (b:=n++32::t) (c:=32) `d)));subst e;refine⟨rfl,_,rfl,false,by with_unfolding_all kernel_rfl,?_⟩;rw[if_neg `d];refine⟨_,1,rfl,by with_unfolding_all kernel_rfl,?_⟩;refine⟨_,wtW.map V.str,rfl,.inr W,rfl,rfl,true,by rw[ai];fail "k",?_⟩;rw[if_pos rfl];refine⟨_,32,2,rfl,rfl,by rw[aE];have:=c.1;lia,`d,λq hq=>?_⟩;rw[show ((Txt.splitMax ⟨(wAdd++32::(n++32::t)).toArray⟩ ⟨#[32]⟩ ((2:Nat):Int)).map V.str)=[tV wAdd,tV n,tV t] from congrArg (List.map V.str) (D6 (a:=wAdd) (b:=n) (r:=t) (c:=32) `d (dl hn) `d)];fail "r";refine⟨_,.inl (.of aB),_,wtW.map V.str,rfl,.inr (bb (ss:=wtW) (g.cS _)),rfl,rfl,true,by rw[ai];fail "k",?_⟩;rw[if_pos rfl,if_neg (λz=>z rfl)];refine⟨_,.of aB,λr hr=>⟨_,_,rfl,.inl (.of aB),rfl,rfl,false,?_,?_⟩⟩
  .show V.bl (inV (.str (mkS [])) ([mkS wAdd,mkS n].map V.str))=_;rw[ai,decide_eq_false (em hn `d)]
  rw[if_neg `d];exact k q _ ((s1.trans (aM hq)).trans (aM hr)) (aM hr _ _ aB)
 .have e:w=wBoth:=aH.mp (c.2.symm.trans (congrArg Prod.fst (c0 (a:=wBoth) (b:=a++32::b) (c:=32) `d)));subst e;refine⟨rfl,_,rfl,false,by with_unfolding_all kernel_rfl,?_⟩;rw[if_neg `d];refine⟨_,2,rfl,by with_unfolding_all kernel_rfl,?_⟩;refine⟨_,wtW.map V.str,rfl,.inr W,rfl,rfl,false,by rw[ai];fail "k",?_⟩;have sp:Txt.split ⟨(wBoth++32::(a++32::b)).toArray⟩ ⟨#[32]⟩=[wBoth,a,b].map mkS:=by
   have hf:Free 32 [wBoth,a,b]:=λs hs d hd z=>by
    subst z;simp only[mem_cons,not_mem_nil,or_false] at hs;rcases hs with rfl|rfl|rfl
    .exact absurd hd `d
    .exact dl ha hd
    .exact dl hb hd
   have:=oi hf `s;simpa [joinT,tlT] using this
  rw[if_neg `d,sp];refine⟨by have:=c.1;lia,λq hq=>⟨_,.inl (.of aB),_,wtW.map V.str,rfl,.inr (bb (ss:=wtW) (g.cS _)),rfl,rfl,false,by rw[ai];fail "k",?_⟩⟩;rw[if_neg `d,if_neg (λz=>z rfl)];refine⟨_,.of aB,λr hr=>⟨_,_,rfl,.inl (.of aB),rfl,rfl,false,?_,?_⟩⟩
  .show V.bl (inV (.str (mkS [])) ([mkS wBoth,mkS a,mkS b].map V.str))=_;rw[ai,decide_eq_false λz=>?_];rcases mem_cons.mp z with z|z
   .exact absurd (aH.mp z).symm `d
   .rcases mem_cons.mp z with z|z
    .exact mt ha (aH.mp z).symm
    .exact mt hb (aH.mp (mem_singleton.mp z)).symm
  rw[if_neg `d];exact k q _ ((s1.trans (aM hq)).trans (aM hr)) (aM hr _ _ aB)
theorem u7:g.DC.Ok P w base 1 (sp_stands_in K):=by
 refine lnF EN ?_;rintro Fn A dl s H vs Q E hr ⟨l,T,ws,n,rfl,hl,hT,Cl,k⟩;refine⟨_,(aC (aI (cZ (bz (K:=K) rfl) (pv 1) (cmp1 [] [] (b9 (K:=K) rfl (pv 0)) ae (px K (pv 0) aZ)) (by with_unfolding_all rfl)))),?_⟩;fail "r";have BT:=hT.length;refine⟨⟨_,.of hl⟩,λp np=>?_⟩;refine e9 (zs:=(T.map λt=>mkS t.1).map V.str) (.of hl) (a9 `l) np (by rw[length_map,length_map,BT]) (λi x z hx hz H1 U s1 hU=>?_) (λH1 s1 mt=>?_)
 .obtain⟨t,ht,a,q,rfl,ha,hq⟩:=hT.get hx;rw[List.getElem?_map,List.getElem?_map,ht] at hz;cases hz;fail "r";exact⟨_,_,.inr (.of (s1 _ _ ha)),a7 (j:=0) rfl,hU H1 `r⟩
 .have e:inV (tV n) ((T.map λt=>mkS t.1).map V.str)=T.any λt=>decide (t.1=n):=by
   rw[ai,Bool.eq_iff_iff,decide_eq_true_eq,any_eq_true,mem_map];exact⟨λ⟨t,h1,h2⟩=>⟨t,h1,decide_eq_true (aH.mp h2)⟩,λ⟨t,h1,h2⟩=>⟨t,h1,by rw[of_decide_eq_true h2]⟩⟩
  refine⟨_,_,rfl,.inl (.of mt),rfl,all_eq_true.mpr λv hv=>?_,?_⟩
  .obtain⟨z,_,rfl⟩:=mem_map.mp hv;rfl
  rw[if_neg `d,e];exact k H1 s1
theorem dh:g.jJ.Ok P w base 1 (sp__law_cell_at K):=by
 refine lnF sD ?_;rintro mt A dl s H vs Q E hr ⟨a,ns,i,rfl,hS,k⟩
 exists sD.nd,g.aK
 fail "r";refine⟨ns.map V.int,.inl hS,ite2 (λh=>?_) (λh=>?_)⟩
 .rw[length_map] at h;exact⟨ns.map V.int,_,.inl hS,zn `l,k⟩
 .rw[length_map] at h;rw[List.getD_eq_getElem?_getD,List.getElem?_eq_none `l] at k;exact k
theorem F4:g.DD.Ok P w base 1 (sp__law_names K):=by
 refine lnF dQ ?_;rintro Gk A Gb s H vs Q E hr ⟨c,m,rfl,hm,k⟩
 nomatch (a8 `D
   (a8 `D
   (a8 `D
   (a8 `D
   (a8 (b8 PassesOwn.never rfl (bX rfl g.bU.1 (a6 (pv 1) aA)) (pgn 6 dQ.nd)
   (a8 `D
   (ac (b8 PassesOwn.never rfl (bX rfl g.bU.1 (a6 (pv 3) aA)) (pgn 8 dQ.nd)
   (a8 (sx 9 dQ.nd (aU (al (K:=K)) `D (aU kz (pv 6) (cb ww rfl g.fV.1 l7 (a6 `D aA)))))
   (aC `D)))
   (aC `D))))
   (aC `D)))))),dQ.nd,hint 2 0
 have eL:ofString "abcdefghijklmnopqrstuvwxyz"=⟨smaL.toArray⟩:=by unfold smaL;simp
 rw[eL];fail "r";refine⟨`d,⟨`d,`d⟩,`l,`d,λp H1 n1 s1 e1=>⟨`l,`l,?_⟩⟩;rw[Int.toNat_natCast];obtain⟨sz,Gc,Gj,Gi⟩:∃sz:Nat,1+c % 8=(sz:Int)/\1<=sz/\sz<=8:=⟨(1+c % 8).toNat,`l,`l,`l⟩;rw[Gc];obtain⟨dl,ha,Gh⟩:∃a:Nat,c / 8 % (sz:Int)=(a:Int)/\a < sz:=by have h1:=Int.emod_nonneg (c / 8) (show (sz:Int)≠0 by lia);have h2:=Int.emod_lt_of_pos (c / 8) (show 0 < (sz:Int) by lia);exact⟨(c / 8 % (sz:Int)).toNat,`l,`l⟩
 rw[ha];obtain⟨X,hX⟩:∃X:Int,X=c / (64+9 * (dl:Int) * (dl:Int))+5 * (dl:Int):=`o;refine br (λi Z H'=>Ex5 λ(ns:List Tq) (v6 v7 v8 v9:Option V)=>Z=[some (.int c),some (.int (m:Int)),some (tV smaL),some (.int (sz:Int)),some (.int (dl:Int)),some (.ref p),v6,v7,v8,v9]/\ns.length=i/\(∀n∈ns,0 < n.length/\n.length<=8/\n.all isSma=true)/\(∀(k:Nat) (n:Tq),ns[k]?=some n->NmAt X dl k n)/\Same H H'/\H' p=some (.lst (ns.map tV))) ⟨[],none,none,none,none,rfl,rfl,`s,(λk n h=>by cases h),s1,e1⟩ ?_ ?_
 .rintro i Z H2 hi ⟨ns,v6,v7,v8,v9,rfl,hl,BT,Cl,s2,e2⟩;fail "r";refine⟨λZ H3=>H3=H2/\Ex3 λ(l:Tq) (v8 v9:Option V)=>`L=sz/\NmAt X dl i l/\l.all isSma=true/\Z=[some (.int c),some (.int (m:Int)),some (tV smaL),some (.int (sz:Int)),some (.int (dl:Int)),some (.ref p),some (.int (0+(i:Int))),some (tV l),v8,v9],?_,?_⟩
  .refine⟨`l,`l,?_⟩;rw[Int.toNat_natCast];refine br (λj Z H3=>H3=H2/\∃(l:Tq) (v8 v9:Option V),`L=j/\(dl < j->NmAt X dl i l)/\l.all isSma=true/\Z=[some (.int c),some (.int (m:Int)),some (tV smaL),some (.int (sz:Int)),some (.int (dl:Int)),some (.ref p),some (.int (0+(i:Int))),some (tV l),v8,v9]) ⟨rfl,[],_,_,rfl,(λz=>absurd z `l),rfl,rfl⟩ ?_ (λZ H3 ⟨h1,l,v8,v9,h2,h3,h4,h5⟩=>⟨h1,l,v8,v9,h2,h3 Gh,h4,h5⟩);rintro j Z H3 hj ⟨rfl,l,v8,v9,Fr,Fn,Ga,rfl⟩;have hb:0 < 64+9 * (0+(j:Int)) * (0+(j:Int))/\64+9 * (0+(j:Int)) * (0+(j:Int)) < 1073741824:=by
    have h0:0<=(0+(j:Int)) * (0+(j:Int)):=Int.mul_nonneg `l `l;have h1:(0+(j:Int)) * (0+(j:Int))<=8 * 8:=Int.mul_le_mul `l `l `l `l;rw[Int.mul_assoc];lia
   fail "r";have Gg:CMul (0+(i:Int)) (if 0+(j:Int)=(dl:Int) then 1 else 0):=.inl ⟨`l,`l⟩;have mt:0+(j:Int)=(dl:Int)->(c / (64+9 * (0+(j:Int)) * (0+(j:Int)))+5 * (0+(j:Int))+(0+(i:Int)) * if 0+(j:Int)=(dl:Int) then 1 else 0)=X+(i:Int):=λz=>by rw[if_pos z,Int.mul_one,hX,z];lia
   obtain⟨d,hd,Gf⟩:=BR (c / (64+9 * (0+(j:Int)) * (0+(j:Int)))+5 * (0+(j:Int))+(0+(i:Int)) * if 0+(j:Int)=(dl:Int) then 1 else 0);refine⟨.inl ⟨`d,`d⟩,.inr ⟨`l,`l⟩,hb,.inl ⟨`d,`d⟩,Gg,`d,d,`k,hd,a9 `l,l++[d],_,_,by rw[length_append,length_singleton,Fr],λz=>?_,by rw[List.all_append,Ga];simp[Gf],rfl,rfl,rfl⟩;by_cases ej:j=dl
   .rw[mt `l] at hd;exact⟨d,by rw[List.getElem?_append_right `l,Fr,ej,Nat.sub_self];rfl,hd⟩
   .exact (Fn `l).app
  rintro Z H3 ⟨rfl,l,v8,v9,Fr,Fn,Ga,rfl⟩;fail "r";refine⟨⟨_,.of e2⟩,_,e2,by rw[length_map];exact Nat.lt_of_le_of_lt (show ns.length<=26 by lia) `d,ns++[l],_,_,_,_,⟨rfl,rfl,rfl,rfl⟩,by rw[length_append,length_singleton,hl],λn hn=>?_,λk n hk=>?_,bv n1 s2,by rw[aB,map_append];rfl⟩
  .rcases mem_append.mp hn with z|z
   .exact BT n z
   .rw[mem_singleton.mp z];exact⟨`l,`l,Ga⟩
  .by_cases Ge:k < ns.length
   .rw[List.getElem?_append_left Ge] at hk;exact Cl k n hk
   .rw[List.getElem?_append_right `l] at hk;have Gd:k - ns.length=0:=by
     cases hh:k - ns.length with
     |zero=>rfl
     |succ z=>rw[hh] at hk;cases hk
    rw[Gd] at hk;cases hk;rw[show k=i by lia];exact Fn
 .rintro Z H2 ⟨ns,v6,v7,v8,v9,rfl,hl,BT,Cl,s2,e2⟩;fail "r";exact k ns p H2 hl BT (BX Cl `l) s2 e2
theorem F5:g.DE.Ok P w base 1 (sp__law_signs K):=by
 refine lnF sE ?_;rintro Gc A dl s H vs Q E hr ⟨c,rfl,k⟩
 exists sE.nd,hint 2 0,g.aK
 fail "r";refine⟨`d,`d,?_⟩;have eS:ofString " !\"#$&'()*+,-./0123456789:;<=>?@ABCDEFGHIJKLMNOPQRSTUVWXYZ[\\]^_`abcdefghijklmnopqrstuvwxyz{|}~"=⟨SG.toArray⟩:=by fail "k"
 have eD:ofString "."=⟨[46].toArray⟩:=by fail "k"
 have eB:ofString "b7"=⟨[98,55].toArray⟩:=by fail "k"
 have eA:ofString "a1."=⟨[97,49,46].toArray⟩:=by fail "k"
 have Fr:SG.length=94:=by fail "k"
 rw[eS,eD,eB,eA];refine br (λi Z H'=>H'=H/\Ex2 λ(l:Tq) (v3:Option V)=>Z=[some (.int c),some (.str ⟨SG.toArray⟩),some (tV l),v3]/\`L=i/\∀x∈l,isSg x=true) ⟨rfl,[],none,rfl,rfl,λx hx=>by cases hx⟩ ?_ ?_
 .rintro i Z H1 hi ⟨rfl,l,v3,rfl,hl,hs⟩;have Gb:i < 3:=hi;obtain⟨d,hd,Cl⟩:=lV SG (c / ((0+(i:Int)) * 97+1)) (SG.length:Int) `l `l;fail "r";refine⟨.inr ⟨`d,`d⟩,⟨`l,`l⟩,a9 `l,`l,d,a9 `l,Cl,a9 `l,l++[d],_,`R,by rw[length_append,length_singleton,hl],λx hx=>?_⟩;rcases mem_append.mp hx with z|z
  .exact hs x z
  .rw[mem_singleton.mp z];exact lO.mp hd
 .rintro Z H1 ⟨rfl,l,v3,rfl,hl,hs⟩;have Ga:`L=3:=hl;fail "r";refine⟨a9 `l,a9 `l,`d,λp H2 n2 s2 BT=>⟨⟨`d,`d⟩,`d,?_⟩⟩;obtain⟨v,hv,Fn⟩:=zx [V.str `A,V.str ⟨(l++[46]).toArray⟩,V.str ⟨[97,49,46].toArray⟩,V.str ⟨([98,55]++l).toArray⟩] (c / 9409) 4 `d `s;refine⟨_,_,.inl (.of BT),Fn,?_⟩;have mt:∀x∈([46,97,49,98,55]:Tq),isSg x=true:=by decide
  simp only[mem_cons,not_mem_nil,or_false] at hv;rcases hv with rfl|rfl|rfl|rfl
  .exact k l H2 `l `l hs s2
  .refine k (l++[46]) H2 `s (by simp;lia) (λx hx=>?_) s2;rcases mem_append.mp hx with z|z
   .exact hs x z
   .exact mt x (by rw[mem_singleton.mp z];decide)
  .exact k [97,49,46] H2 `d `d `d s2
  .refine k ([98,55]++l) H2 `s (by simp;lia) (λx hx=>?_) s2;rcases mem_append.mp hx with z|z
   .simp only[mem_cons,not_mem_nil,or_false] at z;rcases z with rfl|rfl <;> decide
   .exact hs x z
theorem F6:g.DF.Ok P w base 1 sp__law_run:=by
 refine lnF sF ?_;rintro Fn A dl s H vs Q E hr ⟨c,gg,m,rfl,Cl,BT,hm,k⟩
 exists sF.nd,g.aK
 fail "r";refine⟨`l,`l,?_⟩;rw[Int.toNat_natCast];refine br (λi Z H'=>H'=H/\Ex2 λ(l:Tq) (v4:Option V)=>Z=[some (.int c),some (tV gg),some (.int (m:Int)),some (tV l),v4]/\`L=i/\∀x∈l,x∈gg) ⟨rfl,[],none,rfl,rfl,λx hx=>by cases hx⟩ ?_ ?_
 .rintro i Z H1 hi ⟨rfl,l,v4,rfl,hl,hs⟩;have hb:0 < 5 * (0+(i:Int)) * (0+(i:Int))+1/\5 * (0+(i:Int)) * (0+(i:Int))+1 < 1073741824:=by
   have h0:0<=(0+(i:Int)) * (0+(i:Int)):=Int.mul_nonneg `l `l;have h1:(0+(i:Int)) * (0+(i:Int))<=100 * 100:=Int.mul_le_mul `l `l `l `l;rw[Int.mul_assoc];lia
  obtain⟨d,hd,mt⟩:=lV gg (c / (5 * (0+(i:Int)) * (0+(i:Int))+1)) (gg.length:Int) `l `l;fail "r";refine⟨.inl ⟨`d,`d⟩,.inr ⟨`l,`l⟩,hb,a9 `l,`l,d,a9 `l,mt,a9 `l,l++[d],_,`R,by rw[length_append,length_singleton,hl],λx hx=>?_⟩;rcases mem_append.mp hx with z|z
  .exact hs x z
  .rw[mem_singleton.mp z];exact hd
 .rintro Z H1 ⟨rfl,l,v4,rfl,hl,hs⟩;fail "r";exact k l hl hs
theorem u8:g.pW.Ok P w base 1 (sp__law_fits_step K):=by
 refine lnF sG ?_;rintro Gb A Cl s H vs Q E hr ⟨c,p,s,rfl,hp,Fn,h0,hl,hs,k⟩
 nomatch (a8 `D
   (a8 `D
   (a8 (aL `D
    (a8 `D
   (aC (aI (bW (aW (K:=K) rfl PySem.F.plainAttrs_str PySem.F.slot_str_startswith PySem.F.type_str_startswith ii (pv 1) (a6 `D aA)) (be (aW (K:=K) rfl PySem.F.plainAttrs_str PySem.F.slot_str_endswith PySem.F.type_str_endswith nZ (pv 1) (a6 `D aA))))))) aO)
   (a8 (aL `D
    (a8 (aL (PW.pt (ao (ptm (iC hr.units) (cmp1 [] [] (cE (pv 1)) (bt (bN hV (pv 0) aJ (by with_unfolding_all rfl))) (pv 0)) `D) (bF `D)))
    `D aO)
   (aC `D)) aO)
   (a8 (aL `D
    (aC (aI (bW `D (be (pcm (dy hr.units) (cmp1 [] [] (cE (pv 1)) (bt (bN hV (pv 0) aJ (by with_unfolding_all rfl))) (pv 0)) `D))))) aO)
   (aC `D)))))),sG.nd,hint 2 0,g.aK
 have eF:ofString "0123456789"=⟨fgS.toArray⟩:=by unfold fgS;simp
 have eS:ofString "abcdefghijklmnopqrstuvwxyz"=⟨smaL.toArray⟩:=by unfold smaL;simp
 have e0:ofString "0"=⟨[48].toArray⟩:=by fail "k"
 have e1:ofString "."=⟨sStay.toArray⟩:=by fail "k"
 have e2:ofString ".."=⟨sUp.toArray⟩:=by fail "k"
 rw[eF,eS,e0,e1,e2];fail "r";have Fr:isDot s=true->Q (.bl false) H:=λhd=>by
  have e:fitsM c s=false:=by unfold fitsM;rw[hd];rfl
  rw[e] at k;exact k H `r
 refine ite2 (λh1=>Fr (by unfold isDot;rw[decide_eq_true (aH.mp h1)];simp)) (λh1=>ite2 (λh2=>Fr (by unfold isDot;rw[decide_eq_true (aH.mp h2)];rfl)) (λh2=>?_));have hd:isDot s=false:=bx.mpr ⟨λz=>h2 (aH.mpr z),λz=>h1 (aH.mpr z)⟩;refine⟨_,_,.inr hp,c.at0,?_⟩;refine L2.aF.mpr ⟨_,rfl,?_⟩;rw[eh];cases c with
 |step w=>
  refine ite2 (λ_=>⟨_,_,.inr hp,a7 (j:=1) rfl,?_⟩) `a;refine L2.aF.mpr ?_;have e:fitsM (.step w) s=decide ((⟨s.toArray⟩:Str)=⟨w.toArray⟩):=by unfold fitsM;rw[hd];show decide (s=w)=_;exact decide_eq_decide.mpr aH.symm
  rw[<- e];exact k H `r
 |part h n t=>
  refine ite2 `E (λ_=>⟨_,_,.inr hp,Pc.at0 _,?_⟩);refine L2.aF.mpr ⟨_,rfl,?_⟩;rw[av];refine ite2 (λ_=>?_) `a;have e:fitsM (.part h n t) s=partB h t s:=by unfold fitsM;rw[hd];rfl
  rw[e] at k;have hh:=Fn.1;have ht:=Fn.2.1;refine⟨a9 `l,_,_,.inr hp,a7 (j:=1) rfl,?_⟩;fail "r";refine⟨a9 `l,_,_,.inr hp,a7 (j:=3) rfl,?_⟩;fail "r";refine⟨a9 `l,?_⟩;have kp:partB h t s=(decide (s.take h.length=h) && (decide (s.drop (s.length - `t)=t) && decide (h.length+`t < s.length))):=rfl;rw[kp] at k;have k':=k H `r;refine ite2 (λGa=>?_) (λGa=>?_)
  .rw[decide_eq_false (show ¬ h.length+`t < s.length by lia),Bool.and_false,Bool.and_false] at k';exact k'
  rw[decide_eq_true (show h.length+`t < s.length by lia),Bool.and_true] at k';refine⟨_,_,.inr hp,a7 (j:=1) rfl,?_⟩;show rStart1 (tV s) [tV h] H _;rw[L2.ij];refine⟨_,rfl,ite2 (λha=>?_) (λha=>?_)⟩
  .refine⟨_,_,.inr hp,a7 (j:=3) rfl,?_⟩;show rEnd1 (tV s) [tV t] H _;rw[L2.nh];rw[ha,Bool.true_and] at k';exact k'
  .rw[(Bool.not_eq_true _).mp ha] at k';exact k'
 |num n=>
  refine ite2 `E (λ_=>⟨_,_,.inr hp,Pc.at0 _,?_⟩);refine L2.aF.mpr ⟨_,rfl,?_⟩;rw[av];refine ite2 `E (λ_=>⟨_,_,.inr hp,Pc.at0 _,?_⟩);refine L2.aF.mpr ⟨_,rfl,?_⟩;rw[bT];refine ite2 (λ_=>?_) `a;have e:fitsM (.num n) s=numB s:=by unfold fitsM;rw[hd];rfl
  rw[e] at k;intro p1 dl;refine lF (z:=⟨s.toArray⟩) (a9 (by show s.length<=100000;lia)) dl (λc=>!decide (c∈fgS)) (λc=>V.str ⟨#[c]⟩) (λc hc H' R hR=>?_) (λc hc H' R hR=>?_) (λH1 s1 e1=>?_)
  .fail "r";exact hR H' `r
  .fail "r";exact hR H' `r
  refine⟨`d,λp2 H2 n2 s2 e2=>?_⟩;have hf:∀c∈s.filter (λc=>!decide (c∈fgS)),isSg c=true:=λc hc=>hs c (mem_filter.mp hc).1;refine⟨.list ((s.filter λc=>!decide (c∈fgS)).map λc=>st [c]),.list [],.lst (s2 _ _ e1) (iq _),.lst e2 .nil,o5 hf,`d,_,rfl,?_⟩;have em:((s.filter λc=>!decide (c∈fgS)).map λc=>st [c]).isEmpty=s.all isFig:=by rw[<- BU];cases s.filter (λc=>!decide (c∈fgS)) <;> rfl
  rw[eW,em];have k':=k H2 (s1.trans s2);refine ite2 (λh1=>?_) (λh1=>?_)
  .have:numB s=false:=by unfold numB;rw[show s.all isFig=false by simpa using h1];simp
   rw[this] at k';exact k'
  have mt:s.all isFig=true:=by simpa using h1
  refine⟨a9 `l,ite2 (λh2=>?_) (λh2=>?_)⟩
  .have:numB s=false:=by unfold numB;rw[decide_eq_false (show ¬ s.length<=60 by lia)];simp
   rw[this] at k';exact k'
  have en:numB s=(decide (s=[48]) || !decide (s.head?=some 48)):=by unfold numB;rw[decide_eq_true (show 1<=s.length by lia),decide_eq_true (show s.length<=60 by lia),mt];rfl
  rw[en] at k';have BT:∀l:Tq,((⟨l.toArray⟩:Str)=⟨#[48]⟩)↔l=[48]:=λl=>by rw[show (⟨#[48]⟩:Str)=⟨[48].toArray⟩ from rfl,aH]
  refine ite2 (λh3=>?_) (λh3=>?_)
  .rw[decide_eq_true ((BT s).mp h3)] at k';exact k'
  .rw[decide_eq_false (λz=>h3 ((BT s).mpr z))] at k';cases s with
   |nil=>simp at h0
   |cons c r=>refine⟨c,a9 (by simp at hl ⊢;lia),a7 (j:=0) rfl,?_⟩;have e5:decide ((⟨#[c]⟩:Str)=⟨#[48]⟩)=decide ((c::r).head?=some 48):=decide_eq_decide.mpr (by rw[show (⟨#[c]⟩:Str)=⟨[c].toArray⟩ from rfl,BT];simp);rw[e5];exact k'
 |word n=>
  refine ite2 `E (λ_=>⟨_,_,.inr hp,Pc.at0 _,?_⟩);refine L2.aF.mpr ⟨_,rfl,?_⟩;rw[av];refine ite2 `E (λ_=>⟨_,_,.inr hp,Pc.at0 _,?_⟩);refine L2.aF.mpr ⟨_,rfl,?_⟩;rw[bT];refine ite2 `E (λ_=>⟨_,_,.inr hp,Pc.at0 _,?_⟩);refine L2.aF.mpr ⟨_,rfl,?_⟩;rw[cw];refine ite2 (λ_=>?_) `a;have e:fitsM (.word n) s=wordB s:=by unfold fitsM;rw[hd];rfl
  rw[e] at k;refine⟨a9 `l,ite2 (λh2=>?_) (λh2=>?_)⟩
  .intro p1 dl;refine lF (z:=⟨s.toArray⟩) (a9 (by show s.length<=100000;lia)) dl (λc=>!decide (c∈smaL)) (λc=>V.str ⟨#[c]⟩) (λc hc H' R hR=>?_) (λc hc H' R hR=>?_) (λH2 s2 e2=>?_)
   .fail "r";exact hR H' `r
   .fail "r";exact hR H' `r
   refine⟨`d,λp3 H3 n3 s3 e3=>?_⟩;have hf:∀c∈s.filter (λc=>!decide (c∈smaL)),isSg c=true:=λc hc=>hs c (mem_filter.mp hc).1;refine⟨.list ((s.filter λc=>!decide (c∈smaL)).map λc=>st [c]),.list [],.lst (s3 _ _ e2) (iq _),.lst e3 .nil,o5 hf,`d,?_⟩;have em:((s.filter λc=>!decide (c∈smaL)).map λc=>st [c]).isEmpty=s.all isSma:=by rw[<- BV];cases s.filter (λc=>!decide (c∈smaL)) <;> rfl
   rw[eW,em];have k':=k H3 (s2.trans s3);have:wordB s=s.all isSma:=by unfold wordB;rw[decide_eq_true (show 1<=s.length by lia),decide_eq_true (show s.length<=60 by lia)];rfl
   rw[this] at k';exact k'
  .have:wordB s=false:=by unfold wordB;rw[decide_eq_false (show ¬ s.length<=60 by lia)];simp
   rw[this] at k;exact k H `r
 |gap n=>
  refine ite2 `E (λ_=>⟨_,_,.inr hp,Pc.at0 _,?_⟩);refine L2.aF.mpr ⟨_,rfl,?_⟩;rw[av];refine ite2 `E (λ_=>⟨_,_,.inr hp,Pc.at0 _,?_⟩);refine L2.aF.mpr ⟨_,rfl,?_⟩;rw[bT];refine ite2 `E (λ_=>⟨_,_,.inr hp,Pc.at0 _,?_⟩);refine L2.aF.mpr ⟨_,rfl,?_⟩;rw[cw];have e:fitsM (.gap n) s=true:=by unfold fitsM;rw[hd];rfl
  rw[e] at k;exact ite2 `E (λ_=>k H `r)
 |rest n=>
  refine ite2 `E (λ_=>⟨_,_,.inr hp,Pc.at0 _,?_⟩);refine L2.aF.mpr ⟨_,rfl,?_⟩;rw[av];refine ite2 `E (λ_=>⟨_,_,.inr hp,Pc.at0 _,?_⟩);refine L2.aF.mpr ⟨_,rfl,?_⟩;rw[bT];refine ite2 `E (λ_=>⟨_,_,.inr hp,Pc.at0 _,?_⟩);refine L2.aF.mpr ⟨_,rfl,?_⟩;rw[cw];have e:fitsM (.rest n) s=true:=by unfold fitsM;rw[hd];rfl
  rw[e] at k;exact ite2 `E (λ_=>k H `r)
theorem F7:g.DG.Ok P w base 1 (sp__law_is_way K):=by
 refine lnF sH ?_;rintro Fr A BT s H vs Q E hr ⟨r,t,a,b,w,rfl,dl,mt,hn,hw,k⟩
 nomatch (a8 `D
   (a8 `D
   (aC (aI (pcm (dy hr.units) (cmp1 [] [] (bu (K:=K) rfl `D) (bt (PW.pt (ao (b0 (af (bq l9 rfl g.ak.1 wv (a6 (pv 0) (a6 (kC (v:=.ty "str") rfl g.aw.1 l8 rfl) aA))))) (bF (ptm cY (pv 0) aJ))))) (pv 0)) `D))))),sH.nd,hint 2 0,g.fU,g.ak,g.bK,g.aK
 fail "r";have e0:ofString ""=⟨([]:Tq).toArray⟩:=by fail "k"
 have kt:∀{q:Addr}{xs:`V},H q=some (.tup xs)->kindV (.ref q) H=some "tuple" := λ{q xs} h=>by simp only[kindV,h]
 refine⟨_,kt dl,ite2 (λz=>absurd z `d) (λ_=>⟨_,.inr (.of dl),ite2 `a (λ_=>⟨_,_,.inr (.of dl),a7 (j:=0) rfl,_,rfl,?_⟩)⟩)⟩;refine ite2 (λz=>absurd z `d) (λ_=>⟨_,_,.inr (.of dl),a7 (j:=1) rfl,_,kt mt,ite2 (λz=>absurd z `d) (λ_=>⟨_,_,.inr (.of dl),a7 (j:=2) rfl,_,rfl,ite2 (λz=>absurd z `d) (λ_=>?_)⟩)⟩);refine⟨_,_,.inr (.of dl),a7 (j:=1) rfl,t,rfl,⟨_,.of mt⟩,λl n1=>?_⟩;refine AZ (λ_=>false) (λx=>x) (.of mt) (by rw[length_map];exact a9 `l) n1 (λi x hx H1 R s1 hR=>?_) (λi x hx hf H1 T s1 hT=>by cases hf) (λH1 s1 hl=>?_)
 .rw[List.getElem?_map] at hx;obtain⟨s,hs,rfl⟩:=Option.map_eq_some_iff.mp hx;have Fn:=hw s (mem_of_getElem? hs);fail "r";have:decide ((⟨s.toArray⟩:Str)=⟨#[]⟩)=false:=decide_eq_false (λz=>Fn (aH.mp (show (⟨s.toArray⟩:Str)=⟨([]:Tq).toArray⟩ from z)));rw[this];exact hR H1 `r
 .refine⟨`d,λp4 H4 n4 s4 Cl=>?_⟩;have hl:H1 l=some (.lst []):=by rw[hl];simp
  refine⟨.list [],.list [],.lst (s4 _ _ hl) .nil,.lst Cl .nil,`d,`d,?_⟩;exact k H4 (s1.trans s4)
theorem u9:g.pX.Ok P w base 1 sp__law_written:=by
 refine lnF sI ?_;rintro Cl A dl s H vs Q E hr ⟨l,rfl,hl,hn,k⟩
 exists sI.nd,hint 2 0,g.jQ,hint 12 667
 have eP:ofString "abcdefghijklmnopqrstuvwxyzABCDEFGHIJKLMNOPQRSTUVWXYZ0123456789-_."=⟨plS.toArray⟩:=(fF _).symm;rw[eP];fail "r";refine y8 (z:=`A) (λi Z H'=>H'=H/\∃v,Z=[some (tV l),some (.str (ofString "0123456789abcdef")),some (tV (wr (l.take i))),v]) ⟨rfl,none,rfl⟩ ?_ ?_
 .rintro i c Z H' hc ⟨rfl,v,rfl⟩;have hc:l[i]?=some c:=hc;have BT:=hl c (mem_of_getElem? hc);have l1:=bA BT;have et:wr (l.take (i+1))=wr (l.take i)++wr1 c:=by
   rw[take_add_one,hc,zc];simp[wr]
  have mt:(wr (l.take i)).length<=300:=by have h1:=au (l.take i);rw[length_take] at h1;lia
  rw[et];fail "r";refine ite2 (λh=>?_) (λh=>?_)
  .rw[show wr1 c=[c] from if_pos ((eX `l).mp h)];exact⟨a9 `l,_,rfl,rfl⟩
  .rw[show wr1 c=[126,hexd (c / 16),hexd (c % 16)] from if_neg λz=>h ((eX `l).mpr z)];refine⟨a9 `l,⟨`d,`d⟩,hexd (c / 16),`d,eC `l `l,a9 (by rw[length_append];simp;lia),`d,hexd (c % 16),`d,eC `l `l,a9 (by rw[length_append,length_append];simp;lia),_,?_,rfl⟩;simp
 .rintro Z H' ⟨rfl,v,rfl⟩;fail "r";rw[take_length];exact k
theorem jx:g.DH.Ok P w base 2 sp_is_text:=by
 refine lnF sJ ?_;rintro mt A dl s H vs Q E hr ⟨d,v,rfl,hv,hs,k⟩
 exists sJ.nd,dU,g.jL,g.aw,g.ak
 cases hv with
 |lst hp r=>fail "r";simp only[ci hp];fail "r";exact k H `r
 |tup hp r=>fail "r";simp only[cj hp];fail "r";exact k H `r
 |dic hp=>fail "r";exact⟨"dict",by simp only[kindV,hp],ite2 (λz=>absurd z `d) (λ_=>k H `r)⟩
 |str x=>fail "r";refine⟨x,_,rfl,iL hs,λH' sm=>?_⟩;simp only[A1];exact k H' sm
 |_=>fail "r";exact k H `r
theorem uA:g.pY.Ok P w base 2 rM:=by
 refine g.pY.F.ok sK (λvs H Q E h=>?_) (λmt A dl s H vs Q E hr h=>?_)
 .obtain⟨c,rfl,_⟩:=h;rfl
 .obtain⟨l,rfl,hl,ha,k⟩:=h
  exists sK.nd,EU,ET,g.aK
  fail "r";have hz:`L<=sizeLine:=a9 `l;refine⟨hz,ite2 (λh=>?_) (λh=>?_)⟩
  .rw[lU `l] at k;exact k
  .obtain⟨a,b,rfl⟩:=zZ (l:=l) `l;refine⟨a,hz,rfl,ha a `s,b,hz,rfl,ha b `s,?_⟩;have k:Q (signOf a b) H:=k;unfold signOf at k;cases e1:fig a with
   |none=>rw[e1] at k;rw[iI e1];exact k
   |some x=>
    cases e2:fig b with
    |none=>rw[e1,e2] at k;rw[cm e1,iI e2];exact k
    |some y=>rw[e1,e2] at k;rw[cm e1,cm e2];fail "r";exact⟨.inr ⟨`d,`d⟩,x * 16+y,by rw[Int.natCast_add,Int.natCast_mul];rfl,k⟩
theorem cW:g.fN.Ok P w base 2 jf:=by
 refine g.fN.F.ok EO (λvs H Q E h=>?_) (λCl A mt s H vs Q E hr h=>?_)
 .obtain⟨c,rfl,_⟩:=h;rfl
 .obtain⟨l,rfl,hl,hs,k⟩:=h;refine⟨_,(aC (aI (aW (K:=K) rfl PySem.F.plainAttrs_str PySem.F.slot_str_join PySem.F.type_str_join (ce (K:=K) rfl) aJ (a6 (cmp1 [] [] (cE (pv 0)) ae (bG (bN h9 (pv 0) (glC g.fO) (by with_unfolding_all rfl)) (pv 0) (aV g.jH (ES g) hr rfl (a6 (pv 0) aA)))) aA)))),?_⟩;fail "r";intro p hp;refine i9 (z:=`A) (by rw[aE];exact a9 `l) hp (λc=>.str ⟨(wr1 c).toArray⟩) (λc hc H' R hR=>?_) (λH' sm BT=>?_)
  .have l1:=bA (hs c hc);have e:=iK c `l;have dl:=hR H' `r;fail "r";unfold wr1 at dl;refine ite2 (λh=>?_) (λh=>?_)
   .rw[decide_eq_true h] at e;rw[<- e,if_pos rfl] at dl;exact dl
   .rw[decide_eq_false h] at e;rw[<- e,if_neg `d] at dl;exact⟨`l,dl⟩
  .fail "r";refine⟨l.map λc=>⟨(wr1 c).toArray⟩,SqL.of (by rw[BT,map_map];rfl),?_,?_⟩
   .have h3:∀m:Tq,((m.map λc=>(⟨(wr1 c).toArray⟩:Str)).map (·.length)).sum<=3 * m.length:=λm=>by
     induction m with
     |nil=>simp
     |cons c r ih=>have:=lW c;simp only[map_cons,sum_cons,length_cons,aE] at ih ⊢;lia
    have:=h3 l;simp only[length_map,length_nil,Nat.mul_zero,Nat.add_zero,aE] at this ⊢;lia
   .rw[iH];have e:((l.map λc=>(⟨(wr1 c).toArray⟩:Str)).flatMap λy=>y.cps.toList)=wr l:=by
     unfold wr;rw[List.flatMap_map]
    rw[e];exact k H' sm
theorem F8:g.DI.Ok P w base 2 (sp_steps_left K):=by
 refine lnF sL ?_;rintro Fr A mt s H vs Q E hr ⟨ps,ss,r,rfl,BT,hl,k⟩
 exists sL.nd,EX,hint 2 0,g.bK,g.c_UP,g.fT,hint 11 142
 fail "r";refine⟨`d,λp H1 hp s1 Cl=>⟨⟨_,s1.tup BT⟩,?_⟩⟩;refine z7 (xs:=ss.map sV) (λi Z H2=>Same H H2/\H2 p=some (.lst ((stk (sofar r ss i)).map sV))/\∃kk,Z=[some (.ref ps),some (.bl r),some (.ref p),kk]) ⟨s1,by rw[Cl];simp[sofar,stk],none,rfl⟩ (λi Z H2 _ h=>h.1.tup BT) ?_ ?_
 .rintro i x Z H2 hx ⟨sm,dl,kk,rfl⟩;rw[List.getElem?_map] at hx;obtain⟨s,hs,rfl⟩:=Option.map_eq_some_iff.mp hx;have hi:i < ss.length:=by
   rcases Nat.lt_or_ge i ss.length with z|z
   .exact z
   .rw[List.getElem?_eq_none z] at hs;cases hs
  obtain⟨ok,lk⟩:=mI r ss i;rw[Aq hs];simp only[kup,kst];fail "r";simp only[aH];by_cases h1:s=sUp
  .rw[if_pos h1];refine⟨p,_,r,rfl,dl,`l,bv hp sm,?_,_,rfl⟩;rw[aB,Am ok,h1]
  .rw[if_neg h1];by_cases h2:s=sStay
   .subst h2;rw[Ap];exact ite2 `a (λ_=>⟨sm,dl,_,rfl⟩)
   .refine ite2 (λ_=>?_) (λz=>absurd h2 z);refine⟨⟨_,.of dl⟩,_,dl,a9 (by rw[length_map];lia),bv hp sm,?_,_,rfl⟩;rw[aB,Ao h1 h2,map_append];rfl
 .rintro Z H2 ⟨sm,dl,kk,rfl⟩;rw[length_map,Ar] at dl;fail "r";exact⟨_,.inl (.of dl),λl H3 s3 Fn=>k l H3 (sm.trans s3) Fn⟩
theorem uB:g.DJ.Ok P w base 2 sp_is_name:=by
 refine lnF sM ?_;rintro mt A dl s H vs Q E hr ⟨n,rfl,hn,k⟩
 exists sM.nd,dU,g.jM,g.aK,g.qQ,g.aw,g.ak
 have eF:jG=.str ⟨smaL.toArray⟩:=by show V.str (ofString _)=_;unfold smaL;simp
 rw[eF];have h1:=hn.1;fail "r";refine⟨a9 `l,ite2 (λ_=>ite2 (λ_=>⟨_,_,rfl,by rw[aE];lia,λH' sm=>?_⟩) (λz=>absurd h1.2 `l)) (λz=>absurd h1.1 `l)⟩;have e:=hn.2;rw[ik] at e;rw[show (mkS n).cps.toList=n by simp,show (mkS smaL).cps.toList=smaL by simp,e];exact k H' sm
theorem F9:g.DK.Ok P w base 2 (sp_names_of K):=by
 refine lnF EQ ?_;rintro BT A dl s H vs Q E hr ⟨cs,xs,q,rfl,hq,hx,hn,k⟩;refine⟨_,(aC (aI (cmp1 [] [] (bu (K:=K) rfl (pv 0)) (bt (af (aV g.pT (gd g) hr rfl (a6 (pv 0) aA)))) (aV g.pU (u4 g) hr rfl (a6 (pv 0) aA))))),?_⟩;fail "r";have hl:=hx.length;refine⟨⟨_,hq⟩,λp n=>?_⟩;refine C1 (λi=>(cs[i]?.map λc=>!c.isStep).getD false) (λi=>(cs[i]?.map λc=>tV c.name).getD .non) hq (a9 `l) n (λi x hi H1 R s1 hR=>?_) (λi x hi ht H1 T s1 hT=>?_) (λH1 s1 mt=>?_)
 .obtain⟨c,q,hc,rfl,hv⟩:=hx.get hi;fail "r";have:=hR H1 `r;rw[hc] at this;exact⟨c,q,rfl,s1.tup hv,_,rfl,this⟩
 .obtain⟨c,q,hc,rfl,hv⟩:=hx.get hi;rw[hc] at ht;fail "r";have:=hT H1 `r;rw[hc] at this;exact⟨c,q,rfl,s1.tup hv,by simpa using ht,this⟩
 .refine k p H1 s1 ?_;rw[mt,hl,o8 (λc:Pc=>!c.isStep) (λc:Pc=>tV c.name) .non cs];unfold gapsM;rw[map_map];rfl
theorem uC:g.DL.Ok P w base 2 (sp_spread K):=by
 refine lnF sN ?_;rintro Ga A Cl s H vs Q E hr ⟨cs,xs,p,q,e,n,rfl,hp,hq,hx,hn,Fr,k0,k⟩
 nomatch (a8 `D
   (a8 `D
   (a8 (aL `D
    (aC (aI (aU (al (K:=K)) (pv 2) (aU AX `D (pv 3))))) aO)
   (aC `D)))),sN.nd,EZ,hint 3 0,g.aK,g.bi
 fail "r";refine⟨_,_,.inr hp,a7 (j:=0) rfl,?_⟩;have hl:=hx.length;fail "r";refine⟨xs,.inr (.of hq),?_⟩;refine⟨cs,xs,p,q,e,rfl,hp,.of hq,hx,`l,_,rfl,?_⟩;rw[hl];have dl:¬ (hasRest cs=true/\cs.length<=n)->if (n:Int) - (cs.length:Int)=0 then Q (.ref q) H else Q .non H:=λmt=>by
  refine ite2 (λh0=>?_) (λh0=>?_)
  .refine k cs xs q H ?_ `r (.of hq) hx;unfold spreadM;rw[if_neg mt,if_pos `l]
  .refine k0 ?_;unfold spreadM;rw[if_neg mt,if_neg `l]
 refine ite2 (λhr=>ite2 (λhm=>?_) (λhm=>dl λz=>`l)) (λhr=>dl λz=>hr z.1);have Fn:(xs.drop (`x - 1)).length<=1:=by rw[length_drop];lia
 have ht:((n:Int) - (cs.length:Int)).toNat=n - cs.length:=by lia
 refine⟨_,hq,λp1 H1 s1 e1=>⟨_,e1,hm,`l,?_,λp2 H2 s2 e2=>.inr ⟨_,_,(s1.trans s2) _ _ hq,e2,?_,λp3 H3 s3 e3=>?_⟩⟩⟩
 .rw[io,ht];exact a9 (Nat.le_trans (Nat.mul_le_mul Fn `n) `l)
 .rw[io,ht];have:=BP (xs.drop (`x - 1)) (n - cs.length) Fn;exact a9 `l
 .rw[io,ht,hl] at e3;have BT:=s1.trans (s2.trans s3);refine k _ _ p3 H3 ?_ BT (.of e3) (PcAll.append (((hx.drop (cs.length - 1)).reps (n - cs.length)).mono BT) (hx.mono BT));unfold spreadM;rw[if_pos ⟨hr,`l⟩]
theorem Fa:g.DM.Ok P w base 2 (sp_fits_part K):=by
 refine lnF sP ?_;rintro mt A dl s H vs Q E hr ⟨h1,n,t,s,p,rfl,hp,hs,hh,ht,k⟩
 nomatch (a8 `D
   (a8 `D
   (aC (aI (bW (aW (K:=K) rfl PySem.F.plainAttrs_str PySem.F.slot_str_startswith PySem.F.type_str_startswith ii (pv 1) (a6 (pv 2) aA)) (bW (aW (K:=K) rfl PySem.F.plainAttrs_str PySem.F.slot_str_endswith PySem.F.type_str_endswith nZ (pv 1) (a6 (pv 3) aA)) (be `D))))))),sP.nd,dX,dW,g.aK
 fail "r";refine⟨_,p,rfl,hp,_,p,rfl,hp,?_⟩;show rStart1 (tV s) [tV h1] H _;rw[L2.ij];have kp:partB h1 t s=(decide (s.take h1.length=h1) && (decide (s.drop (s.length - `t)=t) && decide (h1.length+`t < s.length))):=rfl;rw[kp] at k;refine⟨_,rfl,ite2 (λha=>?_) (λha=>?_)⟩;rotate_left
 .rw[(Bool.not_eq_true _).mp ha] at k;exact k
 rw[ha,Bool.true_and] at k;show rEnd1 (tV s) [tV t] H _;rw[L2.nh];refine⟨_,rfl,ite2 (λhb=>?_) (λhb=>?_)⟩;rotate_left
 .rw[(Bool.not_eq_true _).mp hb] at k;exact k
 rw[hb,Bool.true_and] at k;refine⟨a9 hs,?_⟩;show rLenU K [tV h1] H _;fail "r";refine⟨a9 hh,a9 ht,?_⟩;show Q (V.bl (decide ((h1.length:Int)+(`t:Int) < (s.length:Int)))) H;rw[show decide ((h1.length:Int)+(`t:Int) < (s.length:Int))=decide (h1.length+`t < s.length) from decide_eq_decide.mpr `l];exact k
theorem Fb:g.DN.Ok P w base 2 sp_is_number:=by
 refine lnF sQ ?_;rintro mt A dl s H vs Q E hr ⟨l,rfl,hl,k⟩
 exists sQ.nd,dU,g.qH,g.aK,g.qR
 have eF:pN=.str ⟨fgS.toArray⟩:=by show V.str (ofString _)=_;unfold fgS;simp
 have e0:ofString "0"=⟨[48].toArray⟩:=by fail "k"
 rw[eF,e0];fail "r";have no:∀H',Same H H'->(¬ (1<=`L/\`L<=60/\l.all isFig=true))->Q (.bl false) H':=λH' sm h=>by
  have:numB l=false:=by
   unfold numB;by_cases h1:1<=`L
   .by_cases h2:`L<=60
    .rw[show l.all isFig=false by simpa using λz=>h ⟨h1,h2,z⟩];simp
    .rw[decide_eq_false h2];simp
   .rw[decide_eq_false h1];simp
  rw[<- this];exact k H' sm
 refine⟨a9 hl,ite2 (λh1=>ite2 (λh2=>no _ `r `l) (λh2=>?_)) (λh1=>no _ `r `l)⟩;refine⟨_,_,rfl,hl,λH' sm=>⟨_,rfl,?_⟩⟩;have ea:((⟨l.toArray⟩:Str).cps.toList.all λc=>decide (c∈(⟨fgS.toArray⟩:Str).cps.toList))=l.all isFig:=by rw[<- nu]
 rw[ea];refine ite2 (λh3=>no H' sm (by rw[h3];simp)) (λh3=>?_);have h3:l.all isFig=true:=by simpa using h3
 have en:numB l=(decide (l=[48]) || !decide (l.head?=some 48)):=by unfold numB;rw[decide_eq_true (show 1<=`L by lia),decide_eq_true (show `L<=60 by lia),h3];rfl
 have k':=k H' sm;rw[en] at k';cases l with
 |nil=>simp at h1
 |cons c r=>
  refine ite2 (λh4=>?_) (λh4=>⟨c,a9 hl,a7 (j:=0) rfl,?_⟩)
  .rw[decide_eq_true (aH.mp h4)] at k';exact k'
  .rw[decide_eq_false (λz=>h4 (by rw[z]))] at k';have:decide ((⟨#[c]⟩:Str)=⟨[48].toArray⟩)=decide ((c::r).head?=some 48):=by
    refine decide_eq_decide.mpr ?_;rw[show (⟨#[c]⟩:Str)=⟨[c].toArray⟩ from rfl,aH];simp
   first|(rw[this];simpa using k')|(simp at this ⊢;simpa [this] using k')
theorem Fc:g.DO.Ok P w base 2 sp_is_word:=by
 refine lnF sR ?_;rintro mt A dl s H vs Q E hr ⟨l,rfl,hl,k⟩
 exists sR.nd,dU,g.jM,g.aK,g.qS
 have eF:jG=.str ⟨smaL.toArray⟩:=by show V.str (ofString _)=_;unfold smaL;simp
 rw[eF];fail "r";have no:(¬ (1<=`L/\`L<=60))->Q (.bl false) H:=λh=>by
  have:wordB l=false:=by
   unfold wordB;by_cases h1:1<=`L
   .rw[decide_eq_false (show ¬ `L<=60 from λz=>h ⟨h1,z⟩)];simp
   .rw[decide_eq_false h1];simp
  rw[<- this];exact k H `r
 refine⟨a9 hl,ite2 (λh1=>ite2 (λh2=>?_) (λh2=>no `l)) (λh1=>no `l)⟩;refine⟨_,_,rfl,hl,λH' sm=>?_⟩;have e:wordB l=(l.all λc=>decide (c∈smaL)):=by unfold wordB;rw[decide_eq_true (show 1<=`L by lia),decide_eq_true (show `L<=60 by lia),ik];rfl
 have:=k H' sm;rw[e] at this;simpa using this
theorem Fe:g.pZ.Ok P w base 2 (sp_bound_value K):=by
 refine lnF sS ?_;rintro Fn A dl s H vs Q E hr ⟨c,s,ss,p,q,rfl,hp,hq,hf,hs,hh,ht,hn,k⟩
 nomatch (a8 `D
   (a8 (aL `D
    (aC (aI (cb B3 rfl g.fV.1 l7 (a6 `D aA)))) aO)
   (aC `D))),sS.nd,dW,dX,g.aK,hint 2 0,g.dE
 fail "r";refine⟨_,_,.inr hp,c.at0,?_⟩;refine L2.aF.mpr ⟨_,rfl,?_⟩;rw[ek];have rest:c.isRest=false->c.isNum=false->c.head.length+c.tail.length<=s.length->IxE K H q 0 λv=>sp_head_of K [V.ref p] H (λx H1=>rLenU K [x] H1 λx H1=>∃i,x=V.int i/\IxE K H1 q 0 λBT=>rLenU K [BT] H1 λx H1=>sp_tail_of K [V.ref p] H1 (λmt H1=>rLenU K [mt] H1 λy H2=>rI0 (λi j=>V.int (i - j)) x y H2 λx H1=>∃i_1,x=V.int i_1/\rSl K v (some i) (some i_1) H1 Q) E0) E0:=λh1 h2 Cl=>by
  refine⟨_,_,.inr hq,a7 (j:=0) rfl,c,p,rfl,hp,a9 hh,_,rfl,_,_,.inr hq,a7 (j:=0) rfl,a9 hs,c,p,rfl,hp,a9 ht,?_⟩;refine Exists.intro _ ⟨rfl,?_⟩;refine L2.lD.mpr ⟨a9 hs,?_⟩;show Q (.str (Txt.slice ⟨s.toArray⟩ (some (c.head.length:Int)) (some ((s.length:Int) - (c.tail.length:Int))))) H;rw[show (s.length:Int) - (c.tail.length:Int)=((s.length - c.tail.length:Nat):Int) by lia,eG];refine k _ H `r ?_ (λq z=>by cases z);cases c with
  |rest n=>cases h1
  |num n=>cases h2
  |_=>rfl
 cases c with
 |rest n=>refine ite2 (λ_=>?_) `a;exact⟨_,.inr hq,λl H1 n1 s1 e1=>k _ H1 s1 ⟨l,rfl,e1⟩ (λq z=>by cases z;exact n1)⟩
 |num n=>refine ite2 `E (λ_=>⟨_,_,.inr hp,Pc.at0 _,?_⟩);refine L2.aF.mpr ⟨_,rfl,?_⟩;rw[bT];refine ite2 (λ_=>⟨_,_,.inr hq,a7 (j:=0) rfl,?_⟩) `a;have hn:=BN hf;exact⟨⟨s.toArray⟩,intOf s,rfl,by show s.length<=640;lia,BM hn.2.2 hn.1 hn.2.1,k _ H `r rfl (λq z=>by cases z)⟩
 |part h n t=>refine ite2 `E (λ_=>⟨_,_,.inr hp,Pc.at0 _,?_⟩);refine L2.aF.mpr ⟨_,rfl,?_⟩;rw[bT];exact ite2 `E (λ_=>rest rfl rfl (BO hf))
 |_=>refine ite2 `E (λ_=>⟨_,_,.inr hp,Pc.at0 _,?_⟩);refine L2.aF.mpr ⟨_,rfl,?_⟩;rw[bT];exact ite2 `E (λ_=>rest rfl rfl (by show 0+0<=_;lia))
theorem uD:FnOk P w K mg base CX0 2 g.ft g.fu ["self","signs"] (sp_Cursor_sees K g.aN):=by
 refine lnT (g.qf.ok sU) ?_;rintro BT A mt s H vs Q E hr ⟨p,t,sg,i,rfl,⟨dx,hp⟩,hi,hl,k⟩
 nomatch (aC (aI (bW (kE (ca (pv 0) g.aQ g.jV (u6 g) (hr.mono `d) g.jR .nil pass0)) (be `D)))),sU.nd
 have dl:Cur H g.aN p t i:=⟨dx,hp⟩;fail "r";refine aX dl ⟨p,t,i,rfl,dl,hl,_,rfl,?_⟩;by_cases he:i=`t
 .rw[decide_eq_true he,if_neg `d];rw[mz (by rw[he];exact List.getElem?_eq_none `n)] at k;exact k
 rw[decide_eq_false he,if_pos rfl];refine cJ dl g.aQ g.bj (bh dl g.aQ g.bC ?_);have hc:t[i]?=some t[i]:=List.getElem?_eq_getElem `l;fail "r";refine⟨t[i],a9 hl,a7 hc,?_⟩;rw[cu hc] at k;exact k
theorem Ff:g.DP.Ok P w base 2 (sp_taken_door K g.aN):=by
 refine lnF sW ?_;rintro BT A mt s H vs Q E hr ⟨p,t,i,rfl,dl,hi,hl,hh,k⟩
 nomatch (a8 (aL (b0 (af (aT (pv 0) g.aQ g.bd (bo g) (hr.mono `d) g.bc .nil pass0 (a6 aJ aA))))
    `D aO)
   (a8 `D
   (a8 `D
   (a8 `D
   (aC `D))))),sW.nd,hint 1 366,hint 1 363,hint 1 362,hint 1 360
 have e1:ofString ":"=⟨[58].toArray⟩:=by fail "k"
 rw[e1];fail "r";refine aX dl (dZ dl hi hl rfl hh ⟨_,rfl,?_⟩);rw[if_pos rfl];exact k
theorem Fg:g.DQ.Ok P w base 2 (sp_taken_question K g.aN):=by
 refine lnF sX ?_;rintro BT A mt s H vs Q E hr ⟨p,t,rfl,dl,hl,k⟩
 nomatch (a8 (aL (b0 (af (aT (pv 0) g.aQ g.bd (bo g) (hr.mono `d) g.bc .nil pass0 (a6 aJ aA))))
    `D aO)
   (a8 `D
   (a8 `D
   (a8 `D
   (a8 `D
   (aC `D)))))),sX.nd,hint 1 391,hint 1 388,hint 1 387,hint 1 385,hint 1 384
 have e1:ofString "?"=⟨[63].toArray⟩:=by fail "k"
 rw[e1];fail "r";refine aX dl (dZ dl `n hl drop_length `s ⟨_,rfl,?_⟩);rw[if_pos rfl];exact k
theorem Fh:g.DR.Ok P w base 2 (sp_worth_of K):=by
 refine lnF sY ?_;rintro mt A dl s H vs Q E hr ⟨c,p,rfl,hp,hz,k⟩
 nomatch (a8 `D
   (aC (aI (bZ (a6 (oR (g.rJ P) (bE (v:=.ref g.gT) rfl g.rH rfl) `D (λ_ _=>rfl)) (a6 `D (a6 `D aA))))))),sY.nd,dX,dW,g.aK,hint 2 0
 fail "r";refine⟨c,p,rfl,hp,?_⟩;refine⟨_,_,.inr hp,c.at0,c.kw,wordW c,rfl,?_,?_⟩
 .cases c with
  |step w=>show Spec.lookup (PyData.str (ofString "step")) _=some (PyData.int 6);with_unfolding_all kernel_rfl
  |part a n b=>show Spec.lookup (PyData.str (ofString "part")) _=some (PyData.int 5);with_unfolding_all kernel_rfl
  |num n=>show Spec.lookup (PyData.str (ofString "number")) _=some (PyData.int 4);with_unfolding_all kernel_rfl
  |word n=>show Spec.lookup (PyData.str (ofString "word")) _=some (PyData.int 3);with_unfolding_all kernel_rfl
  |gap n=>show Spec.lookup (PyData.str (ofString "gap")) _=some (PyData.int 2);with_unfolding_all kernel_rfl
  |rest n=>show Spec.lookup (PyData.str (ofString "rest")) _=some (PyData.int 1);with_unfolding_all kernel_rfl
 have h1:=hz.1;have h2:=hz.2.1;refine⟨a9 (by rw[aE];lia),c,p,rfl,hp,a9 (by rw[aE];lia),a9 (by rw[aE];lia),`d,λr H1 n1 s1 hr=>?_⟩;exact k r H1 s1 hr
theorem Fi:g.DS.Ok P w base 2 (sp_has_room K):=by
 refine lnF sZ ?_;rintro cdv A outer s H vs Q E hr ⟨l,ws,v,rfl,hl,hws,k⟩
 exists sZ.nd,u7,g.aK,g.qW
 fail "r";exact⟨_,.inl (.of hl),ite2 (λ_=>k) (λz=>absurd `l z)⟩
theorem Fj:g.DT.Ok P w base 2 (sp_with_entry K):=by
 refine lnF si ?_;rintro Gf A Fr s H vs Q E hr ⟨l,p,T,ws,t,rfl,hl,hT,Gd,hp,k⟩
 nomatch (a8 (aL `D
    (aC (aI (cmp1 ["name","pattern"] [1,2] (b9 (K:=K) rfl (pv 0)) ae (bG (ptm cY (px K (pv 0) aZ) (pv 1)) (bZ (a6 (pv 1) (a6 (pv 2) aA))) (pv 0))))) aO)
   (aC `D)),si.nd,u7,hint 2 0
 fail "r";have hwl:=hT.length;refine⟨l,T,ws,t.1,rfl,hl,hT,Gd,λH1 s1=>⟨_,rfl,ite2 (λCl=>⟨⟨_,.of (s1 _ _ hl)⟩,λq nq=>?_⟩) (λCl=>?_)⟩⟩
 .refine yK (.of (s1 _ _ hl)) (a9 `l) nq (λx y H'=>∀r,RwAt H1 r x->RwAt H' (if r.1=t.1 then t else r) y) (λx y Ha Hb sm h r hr=>(h r hr).mono sm) (λx hx H2 U s2 hU=>?_) (λys H2 s2 hA hq=>k q ys H2 (Wm.Same.free s1 nq) (s1.trans s2) hq ?_)
  .obtain⟨i,hi⟩:=List.getElem?_of_mem hx;obtain⟨r,hr,a,pa,rfl,ha,Ge⟩:=(hT.mono s1.toT).get hi;have dl:∀r',RwAt H1 r' (.ref a)->r'.1=r.1:=λr' ⟨a',p',e',h1,_⟩=>by
    cases e';rw[ha] at h1;injection h1 with h1;injection h1 with h1;injection h1 with h1 _;exact (aH.mp (V.str.inj h1)).symm
   fail "r";refine⟨_,_,.inr (.of (s2 _ _ ha)),a7 (j:=0) rfl,aF.mpr ⟨_,rfl,ite2 (λe=>⟨`d,λq4 H4 n4 s4 BT=>hU _ _ s4 λr' mt=>?_⟩) (λe=>hU _ _ `r λr' mt=>?_)⟩⟩
   .rw[if_pos (by rw[dl r' mt];exact aH.mp (of_decide_eq_true e))];exact⟨q4,p,rfl,BT,hp.mono ((s1.trans s2).trans s4).toT⟩
   .rw[if_neg (by rw[dl r' mt];exact λz=>e (decide_eq_true (by rw[z])))];exact mt.mono s2.toT
  .unfold putR;rw[if_pos Cl];have Ga:∀{rs:List Rw}{xs ys:`V},TbV H1 rs xs->All2 (λx y H'=>∀r,RwAt H1 r x->RwAt H' (if r.1=t.1 then t else r) y) H2 xs ys->TbV H2 (rs.map λr=>if r.1=t.1 then t else r) ys:=λ{rs xs ys} h=>by
    induction h generalizing ys with
    |nil=>intro h;cases h;exact .nil
    |cons a b ih=>
     intro h;cases h with
     |cons h1 h2=>exact .cons (h1 _ a) (ih h2)
   exact Ga (hT.mono s1.toT) hA
 .refine⟨`d,λq2 H2 n2 s2 Gc=>⟨`d,λq3 H3 n3 s3 Gb=>.inl ⟨_,_,(s1.trans (s2.trans s3)) _ _ hl,Gb,a9 (by simp only[length_cons,length_nil];lia),λq4 H4 n4 s4 BT=>?_⟩⟩⟩;have Fn:=s1.trans (s2.trans (s3.trans s4));refine k q4 _ H4 (Wm.Same.free (s1.trans (s2.trans s3)) n4) Fn BT ?_;unfold putR;rw[if_neg Cl];exact TbV.append (.cons ⟨q2,p,rfl,(s3.trans s4) _ _ Gc,hp.mono Fn.toT⟩ .nil) (hT.mono Fn.toT)
theorem Fk:g.DU.Ok P w base 2 (sp__law_cells K):=by
 refine lnF ER ?_;rintro BT A mt s H vs Q E hr ⟨a,ns,s0,m,rfl,hS,hm,k⟩;refine⟨_,(aC (aI (cmp1 ["_law_script","_law_start"] [0,1] (bX rfl g.bU.1 (a6 (pv 2) aA)) ae (aV g.jJ (dh g) hr rfl (a6 (pv 1) (a6 (aU (al (K:=K)) (pv 2) (pv 0)) aA)))))),?_⟩;fail "r";refine⟨`l,`l,λp n=>?_⟩;rw[Int.toNat_natCast];refine nX (λi ys H'=>SameBut p H H'/\∃is:List Int,ys=is.map V.int/\is.length=i) (a9 `l) ⟨ag,[],rfl,rfl⟩ (λi ys H2 T hi hJ dl hT=>?_) (λys H2 hJ dl=>?_)
 .obtain⟨sb,is,rfl,hl⟩:=hJ;fail "r";rw[show ((s0:Int)+(0+(i:Int)))=((s0+i:Nat):Int) by lia];exact⟨a,ns,s0+i,rfl,(sb.same n).seq hS,hT _ H2 dl ⟨sb.trans ag,is++[ns.getD (s0+i) 0],by rw[map_append];rfl,by rw[length_append,length_singleton,hl]⟩⟩
 .obtain⟨sb,is,rfl,hl⟩:=hJ;exact k is p H2 hl (sb.same n) dl
theorem Fl:g.DV.Ok P w base 2 sp__law_text:=by
 refine lnF sj ?_;rintro Ga A dl s H vs Q E hr ⟨c,gg,m,rfl,mt,Fn,Fr,hm,k⟩
 exists sj.nd,F6
 fail "r";have eD:ofString "."=⟨[46].toArray⟩:=by fail "k"
 have eU:ofString ".."=⟨[46,46].toArray⟩:=by fail "k"
 have eM:ofString "-"=⟨[45].toArray⟩:=by fail "k"
 rw[eD,eU,eM];refine⟨c,gg,m,rfl,mt,Fn,hm,λl hl hs=>aF.mpr ⟨_,rfl,?_⟩⟩;obtain⟨g0,gr,rfl⟩:∃g0 gr,gg=g0::gr:=by
  cases gg with
  |nil=>cases mt
  |cons a b=>exact⟨a,b,rfl⟩
 have Cl:(46∈g0::gr)->`L<=m->∃c,(g0::gr).length<=sizeLine/\atI (g0::gr) 0=some c/\rAddU K (tV l) (V.str {cps:=#[c]}) H λx H1=>rAddU K x (V.str ⟨[45].toArray⟩) H1 Q:=λBT _=>by
  refine⟨g0,a9 `l,a7 (j:=0) rfl,gz.mpr ⟨a9 (by rw[aE];show `L+1<=_;lia),?_⟩⟩;rw[show (⟨#[g0]⟩:Str)=⟨[g0].toArray⟩ from rfl,ah];refine gz.mpr ⟨a9 (by rw[aE,aE,length_append,length_singleton,length_singleton];lia),?_⟩;rw[ah];refine k _ `s (by simp;lia) (λz=>absurd BT z) (λx hx=>?_) (BS _ 45 `d);rcases mem_append.mp hx with z|z
  .rcases mem_append.mp z with z|z
   .exact .inl (hs x z)
   .rw[mem_singleton.mp z];exact .inl `f
  .exact .inr ⟨BT,mem_singleton.mp z⟩
 refine ite2 (λh1=>?_) (λh1=>aF.mpr ⟨_,rfl,?_⟩)
 .have h1:=aH.mp (of_decide_eq_true h1);exact Cl (hs 46 (by rw[h1];exact mem_cons_self ..)) `l
 refine ite2 (λh2=>?_) (λh2=>?_)
 .have h2:=aH.mp (of_decide_eq_true h2);exact Cl (hs 46 (by rw[h2];exact mem_cons_self ..)) `l
 .refine k l `l `l (λ_=>hl) (λx hx=>.inl (hs x hx)) (bx.mpr ⟨λz=>h2 (decide_eq_true (by rw[z];rfl)),λz=>h1 (decide_eq_true (by rw[z];rfl))⟩)
theorem Fm:g.DW.Ok P w base 2 (sp__law_fits K):=by
 refine lnF cU ?_;rintro GC A Gg s H vs Q E hr ⟨cs,xs,p,q,pw,ps,cl,r,e,ss,rfl,hp,hq,hx,hn,Gi,hw,Gb,G9,Gx,k⟩
 nomatch (a8 (gi (i:=2) cU.nd rfl (Or.inr rfl) `D)
   (a8 (gh (pv 1) (ck (n:=3) (K:=K) rfl rfl (b6 (pgn 3 cU.nd) (b6 (cC (i:=4) cU.nd rfl (Or.inr rfl)) (b6 (pgn 5 cU.nd) cD)))))
   (a8 `D
   (ac (aL (PW.pt (dm (ptm (iC hr.units) (pv 2) `D) (dk `D)))
    `D aO)
   (a8 `D
   (aC (aI (pcm (dy hr.units) (cmp1 ["_law_pieces","_law_steps"] [2,4] (bX rfl g.bU.1 (a6 `D aA)) (bt (b0 (af (aV g.pW (u8 g) hr rfl (a6 (px K (pv 1) (pv 0)) (a6 (px K (pv 2) (pv 0)) aA)))))) (pv 0)) `D)))))))),cU.nd,g.aK,hint 2 0,g.dE
 fail "r";have Gv:=hx.length;have fS:fitsP cs cl r ss e=(match spreadM cs ss.length with|none=>false|some ds=>r && decide (e=cl) && (List.zipWith fitsM ds ss).all id):=rfl;refine⟨_,_,.inr hp,a7 (j:=0) rfl,?_⟩;fail "r";refine⟨_,.inr (.of hq),λl H1 n1 s1 hl=>?_⟩;refine⟨pw,_,rfl,s1.tup hw,rfl,_,_,rfl,_,_,rfl,_,_,rfl,rfl,r,rfl,?_⟩;cases r with
 |false=>
  refine ite2 (λ_=>?_) `a;have:fitsP cs cl false ss e=false:=by rw[fS];cases spreadM cs ss.length <;> rfl
  rw[this] at k;exact k H1 s1
 |true=>
 refine ite2 `E (λ_=>?_);refine⟨_,_,.inr (s1.tup hp),a7 (j:=1) rfl,?_⟩;refine L2.i7.mpr ⟨_,rfl,?_⟩;by_cases Gd:e=cl;rotate_left
 .have:fitsP cs cl true ss e=false:=by rw[fS];cases spreadM cs ss.length <;> simp[Gd]
  rw[this] at k;exact ite2 (λ_=>k H1 s1) (λz=>absurd (by rw[decide_eq_false Gd];rfl) z)
 refine ite2 (λz=>by rw[decide_eq_true Gd] at z;cases z) (λ_=>?_);have hT:PcT H1 cs xs:=hx.mono s1.toT;refine⟨λZ H2=>Same H H2/\∃(ds:List Pc) (ys:`V),Z=[some (.ref p),some (.ref pw),some (.ref l),some (.bl true),some (.ref ps),some (.bl e)]/\H2 l=some (.lst ys)/\PcT H2 ds ys/\(∀c∈ds,c∈cs)/\ds.length<=200/\spreadM cs ss.length=(if ds.length=ss.length then some ds else none),?_,?_⟩
 .refine⟨`d,λp2 H2 n2 s2 Gz=>?_⟩;have BT:=s2 _ _ hl;refine⟨.list (cs.map pcD),.list [],.lst BT (hT.mono s2.toT).isT.is,.lst Gz .nil,(BY λc hc=>(Gi c hc).2).shaped `d,`k,_,rfl,?_⟩;rw[eW];have Gs:=s1.trans s2;have Gr:=hT.mono s2.toT;have Cl:hasRest cs=false->Same H H2/\∃(ds:List Pc) (ys:`V),[some (V.ref p),some (.ref pw),some (.ref l),some (.bl true),some (.ref ps),some (.bl e)]=[some (V.ref p),some (.ref pw),some (.ref l),some (.bl true),some (.ref ps),some (.bl e)]/\H2 l=some (.lst ys)/\PcT H2 ds ys/\(∀c∈ds,c∈cs)/\ds.length<=200/\spreadM cs ss.length=(if ds.length=ss.length then some ds else none):=λhr=>
   ⟨Gs,cs,xs,rfl,BT,Gr,λc hc=>hc,`l,oK (.inl hr)⟩
  refine ite2 (λGa=>?_) (λGa=>Cl ?_);rotate_left
  .cases cs with
   |nil=>rfl
   |cons a b=>exact absurd rfl Ga
  obtain⟨c,hc⟩:∃c,cs.getLast?=some c:=by
   cases Gm:cs.getLast? with
   |some c=>exact⟨c,rfl⟩
   |none=>rw[List.getLast?_eq_none_iff] at Gm;subst Gm;cases Ga
  have Go:=hc;rw[List.getLast?_eq_getElem?] at Go;have Gm:=(List.getElem?_eq_some_iff.mp Go).1;obtain⟨v,hv⟩:∃v,xs[cs.length - 1]?=some v:=⟨_,List.getElem?_eq_getElem `l⟩;obtain⟨c2,pc,Gn,rfl,Gc⟩:=Gr.get hv;rw[Go] at Gn;cases Gn;have Gw:xs.getLast?=some (.ref pc):=by rw[List.getLast?_eq_getElem?,Gv];exact hv
  have Gp:∀j:Nat,atI (xs++List.replicate j (V.ref pc)) (-1)=some (.ref pc):=λj=>by
   have:=cI (l:=xs++List.replicate j (V.ref pc)) (s:=.ref pc) id (by
    cases j with
    |zero=>simpa using Gw
    |succ j=>rw[List.getLast?_append,List.getLast?_replicate];simp)
   simpa using this
  refine⟨_,_,.inl (.of BT),by simpa using Gp 0,?_⟩;fail "r";refine⟨_,_,.inr (.of Gc),c.at0,?_⟩;refine L2.aF.mpr ⟨_,rfl,?_⟩;rw[ek];refine ite2 (λhr=>?_) (λhr=>?_);rotate_left
  .obtain⟨a,ds,ys,_,b⟩:=Cl (by unfold hasRest;rw[hc];simpa using hr);exact⟨a,ds,ys,b⟩
  refine dw (λm Z H3=>∃j:Nat,m=ss.length - (cs.length+j)/\(j=0\/cs.length+j<=ss.length)/\Z=[some (.ref p),some (.ref pw),some (.ref l),some (.bl true),some (.ref ps),some (.bl e)]/\Same H H3/\H3 l=some (.lst (xs++List.replicate j (.ref pc)))/\PcT H3 (cs++List.replicate j c) (xs++List.replicate j (.ref pc))/\H3 pc=some (.tup c.vals)) (ss.length - cs.length) ⟨0,rfl,.inl rfl,rfl,Gs,by simpa using BT,by simpa using Gr,Gc⟩ ?_;rintro m Z H3 ⟨j,rfl,hj,rfl,s3,dl,Gq,Fr⟩;fail "r";have Fn:(xs++List.replicate j (V.ref pc)).length=cs.length+j:=by rw[length_append,length_replicate,Gv]
  have mt:(ss.map tV).length=ss.length:=length_map ..;refine⟨_,.inl (.of dl),_,.inr (.of (s3 _ _ Gb)),ite2 (λGj=>?_) (λGk=>?_)⟩
  .have Gj:cs.length+j < ss.length:=by rw[Fn,mt] at Gj;lia
   refine⟨λZ' H4=>Z'=[some (.ref p),some (.ref pw),some (.ref l),some (.bl true),some (.ref ps),some (.bl e)]/\H4=upd H3 l (.lst (xs++List.replicate j (V.ref pc)++[.ref pc])),?_,⟨_,.of dl⟩,_,_,.inl (.of dl),Gp j,_,dl,?_,rfl,rfl⟩
   .rintro Z' H4 ⟨rfl,rfl⟩;have tk:SameT H3 (upd H3 l (.lst (xs++List.replicate j (V.ref pc)++[.ref pc]))):=λb o hb=>by rw[aD (λz=>by subst z;rw[dl] at hb;cases hb)];exact hb
    have er:xs++List.replicate (j+1) (V.ref pc)=xs++List.replicate j (V.ref pc)++[.ref pc]:=by rw[replicate_succ',append_assoc]
    have ec:cs++List.replicate (j+1) c=cs++List.replicate j c++[c]:=by rw[replicate_succ',append_assoc]
    refine⟨ss.length - (cs.length+(j+1)),`l,j+1,rfl,.inr `l,rfl,λb o hb=>?_,?_,?_,tk _ _ Fr⟩
    .rw[aD (λz=>by subst z;rw[n1] at hb;cases hb)];exact s3 _ _ hb
    .rw[er];exact aB
    .rw[er,ec];exact PcT.append (.cons (tk _ _ Fr) .nil) (Gq.mono tk)
   .rw[Fn];exact Nat.lt_of_lt_of_le (show cs.length+j < 100000 by lia) (a9 `n)
  .have Gk:ss.length<=cs.length+j:=by rw[Fn,mt] at Gk;lia
   refine⟨s3,_,_,dl,Gq,λz hz=>?_,?_,?_⟩
   .rcases mem_append.mp hz with hz|hz
    .exact hz
    .rw[List.eq_of_mem_replicate hz];exact mem_of_getLast? hc
   .rw[length_append,length_replicate];lia
   .rw[length_append,length_replicate];by_cases G7:cs.length<=ss.length
    .have ej:j=ss.length - cs.length:=by lia
     rw[Cg hc hr G7,if_pos `l,ej]
    .have ej:j=0:=by lia
     subst ej;rw[oK (.inr `l),if_neg `l,if_neg `l]
 .rintro Z H2 ⟨s2,ds,ys,rfl,BT,hd,Ge,GB,Gf⟩;fail "r";have Fn:=hd.length;have mt:(ss.map tV).length=ss.length:=length_map ..;refine⟨_,.inl (.of BT),_,.inr (.of (s2 _ _ Gb)),ite2 (λGa=>?_) (λhe=>?_)⟩
  .have:fitsP cs cl true ss e=false:=by
    rw[fS,Gf,if_neg (λz=>Ga (by rw[Fn,mt,z]))]
   rw[this] at k;exact k H2 s2
  have G8:ds.length=ss.length:=by have:=Classical.not_not.mp he;rw[Fn,mt] at this;lia
  rw[if_pos G8] at Gf;have fE:fitsP cs cl true ss e=(List.zipWith fitsM ds ss).all id:=by rw[fS,Gf];show (true && decide (e=cl) && _)=_;rw[decide_eq_true Gd];rfl
  have hZ:(List.zipWith fitsM ds ss).length=ss.length:=by rw[length_zipWith];lia
  refine⟨_,.inr (.of (s2 _ _ Gb)),by rw[mt];lia,by rw[mt];lia,λl3 n3=>?_⟩;rw[mt,Int.toNat_natCast];refine Ce (λi=>!((List.zipWith fitsM ds ss)[i]?.getD true)) (λi=>V.int (0+(i:Int))) (a9 `l) n3 (λi hi H3 R s3 hR=>?_) (λi hi hf H3 T s3 hT=>?_) (λH3 s3 dl=>?_)
  .obtain⟨v,hv⟩:∃v,ys[i]?=some v:=⟨_,List.getElem?_eq_getElem `l⟩;obtain⟨c,pc,hc,rfl,Gc⟩:=hd.get hv;obtain⟨s,hs⟩:∃s,ss[i]?=some s:=⟨_,List.getElem?_eq_getElem `l⟩;have Gu:(List.zipWith fitsM ds ss)[i]?=some (fitsM c s):=by rw[List.getElem?_zipWith,hc,hs]
   rw[Gu] at hR;have Gh:=Gx s (mem_of_getElem? hs);have GA:=Gi c (Ge c (mem_of_getElem? hc));fail "r";refine⟨_,_,.inl (.of (s3 _ _ BT)),by rw[Int.zero_add];exact a7 hv,_,_,.inr (.of ((s2.trans s3) _ _ Gb)),by rw[Int.zero_add];exact a7 (by rw[List.getElem?_map,hs];rfl),?_⟩;exact⟨c,pc,s,rfl,.of (s3 _ _ Gc),GA.1,Gh.1,Gh.2.1,Gh.2.2,λH4 s4=>⟨_,rfl,hR H4 s4⟩⟩
  .fail "r";exact hT H3 `r
  .refine⟨`d,λp4 H4 n4 s4 Gy=>?_⟩;have em:((List.range ss.length).filter λi=>!((List.zipWith fitsM ds ss)[i]?.getD true)).map (λi:Nat=>V.int (0+(i:Int)))=(((List.range ss.length).filter λi=>!((List.zipWith fitsM ds ss)[i]?.getD true)).map (λi:Nat=>(0+(i:Int)))).map V.int:=by rw[map_map];rfl
   rw[em] at dl;refine⟨_,.list [],.lst (s4 _ _ dl) (f8 _),.lst Gy .nil,Cf _,`d,?_⟩;rw[eW,List.isEmpty_map,List.isEmpty_map];have:=range_all (List.zipWith fitsM ds ss);rw[hZ] at this;rw[this,<- fE];exact k H4 ((s2.trans s3).trans s4)
theorem Fo:g.pe.Ok P w base 2 (sp__law_general K):=by
 refine lnF sk ?_;rintro Gc A Fn s H vs Q E hr ⟨s,i,n,rfl,hs,k⟩
 exists sk.nd,u8,hint 2 0,g.aK,hint 0 636,hint 0 638,hint 0 640
 fail "r";have hd:=hs.2.2.2;have fm:∀{c:Pc}{z:Tq},fitsM c z=(!isDot z && match c with|.step w=>decide (z=w)|.part h _ t=>partB h t z|.num _=>numB z|.word _=>wordB z|.gap _=>true|.rest _=>true):=λ{c z}=>rfl;have Ga:s.length<=70:=hs.2.1;refine⟨⟨`d,`d⟩,.inr ⟨`d,`d⟩,`d,?_⟩;have Fr:0<=i / 6 * 48271 % 2147483647:=Int.emod_nonneg _ `d;generalize i / 6 * 48271 % 2147483647=mo at Fr;refine⟨λZ H1=>Same H H1/\Z=[some (tV s),some (.int i),some (tV n),some (.int mo),none,none],?_,?_⟩
 .refine⟨`d,ite2 (λ_=>⟨`d,λp1 H1 n1 s1 Cl=>k (.step s) p1 H1 ⟨hs.1,`l,hs.2.2.1,hd⟩ rfl ?_ `E s1 Cl⟩) (λ_=>⟨Same.refl _,rfl⟩)⟩;rw[fm,hd];exact decide_eq_true rfl
 rintro Z H1 ⟨s1,rfl⟩;fail "r";refine⟨λZ H2=>Same H H2/\Z=[some (tV s),some (.int i),some (tV n),some (.int mo),none,none],?_,?_⟩
 .refine⟨`d,ite2 (λ_=>⟨`d,λp2 H2 n2 s2 dl=>?_⟩) (λ_=>⟨s1,rfl⟩)⟩;refine⟨.num n,p2,s,rfl,.of dl,trivial,hs.1,`l,hs.2.2.1,λH3 s3=>⟨_,rfl,ite2 (λhf=>⟨`d,λp4 H4 n4 s4 BT=>k (.num n) p4 H4 trivial rfl hf (λ_=>rfl) (((s1.trans s2).trans s3).trans s4) BT⟩) (λ_=>⟨(s1.trans s2).trans s3,rfl⟩)⟩⟩
 clear s1;clear H1;rintro Z H1 ⟨s1,rfl⟩;fail "r";refine⟨λZ H2=>Same H H2/\Z=[some (tV s),some (.int i),some (tV n),some (.int mo),none,none],?_,?_⟩
 .refine⟨`d,ite2 (λ_=>⟨`d,λp2 H2 n2 s2 dl=>?_⟩) (λ_=>⟨s1,rfl⟩)⟩;refine⟨.word n,p2,s,rfl,.of dl,trivial,hs.1,`l,hs.2.2.1,λH3 s3=>⟨_,rfl,ite2 (λhf=>⟨`d,λp4 H4 n4 s4 BT=>k (.word n) p4 H4 trivial rfl hf (λ_=>rfl) (((s1.trans s2).trans s3).trans s4) BT⟩) (λ_=>⟨(s1.trans s2).trans s3,rfl⟩)⟩⟩
 clear s1;clear H1;rintro Z H1 ⟨s1,rfl⟩;fail "r";have mt:∀(p1:Addr) (H2:Hp),Same H1 H2->H2 p1=some (.tup [.str (ofString "gap"),tV n])->Q (.ref p1) H2:=λp1 H2 s2 Cl=>k (.gap n) p1 H2 trivial rfl (by rw[fm,hd];rfl) (λ_=>rfl) (s1.trans s2) Cl;have ls:s.length<=sizeLine:=a9 `l;refine⟨`d,ite2 (λ_=>⟨ls,ite2 (λh1=>?_) (λ_=>⟨`d,λp2 H2 _ s2 dl=>mt p2 H2 s2 dl⟩)⟩) (λ_=>⟨`d,λp2 H2 _ s2 dl=>mt p2 H2 s2 dl⟩)⟩;have Gb:2<=s.length:=by lia
 obtain⟨b,hb,eb⟩:∃b:Nat,b < s.length/\mo % (s.length:Int)=(b:Int):=by have h1:=Int.emod_nonneg mo (show (s.length:Int)≠0 by lia);have h2:=Int.emod_lt_of_pos mo (show (0:Int) < (s.length:Int) by lia);exact⟨(mo % (s.length:Int)).toNat,`l,`l⟩
 rw[eb,show (s.length:Int) - (b:Int)=((s.length - b:Nat):Int) by lia];obtain⟨a,ha,ea⟩:∃a:Nat,a < s.length - b/\mo / 64 % ((s.length - b:Nat):Int)=(a:Int):=by have h1:=Int.emod_nonneg (mo / 64) (show ((s.length - b:Nat):Int)≠0 by lia);have h2:=Int.emod_lt_of_pos (mo / 64) (show (0:Int) < ((s.length - b:Nat):Int) by lia);exact⟨(mo / 64 % ((s.length - b:Nat):Int)).toNat,`l,`l⟩
 rw[ea];refine⟨ls,`l,⟨`d,`d⟩,ls,`l,ite2 (λh3=>⟨ls,ls,ls,`d,λp2 H2 _ s2 dl=>?_⟩) (λ_=>⟨`d,λp2 H2 _ s2 dl=>mt p2 H2 s2 dl⟩)⟩;rw[lS,lT] at dl;refine k (.part (s.take a) n (s.drop (s.length - b))) p2 H2 ⟨by rw[length_take];lia,by rw[length_drop];lia,λx hx=>hs.2.2.1 x (mem_of_mem_take hx),λx hx=>hs.2.2.1 x (mem_of_mem_drop hx),λz=>?_⟩ rfl ?_ (λ_=>rfl) (s1.trans s2) dl
 .have:=congrArg List.length z;rw[length_append,length_take,length_drop,length_nil] at this;lia
 .rw[fm,hd];show (true && partB (s.take a) (s.drop (s.length - b)) s)=true;rw[Bool.true_and];exact Cp.mpr ⟨List.take_prefix _ _,List.drop_suffix _ _,by rw[length_take,length_drop];lia⟩
theorem Fp:g.pf.Ok P w base 3 rN:=by
 refine g.pf.F.ok so (λvs H Q E h=>?_) (λCl A dl s H vs Q E hr h=>?_)
 .obtain⟨c,r,fr,rfl,_⟩:=h;rfl
 .obtain⟨c,r,fr,rfl,hl,ha,BT,k⟩:=h
  exists so.nd,uA,g.fO
  by_cases hc:c=126
  .subst hc;rw[lf] at k;fail "r";refine⟨126,a9 `l,a7 (j:=0) rfl,?_⟩;rw[if_pos rfl];exact⟨a9 `l,hl,λd hd=>ha d (mem_cons_of_mem _ hd),k⟩
  .have mt:r=[]:=BT.resolve_left hc;subst mt;fail "r";have hp:=iK c (ha c `s);rw[lh hc] at k;refine⟨c,`d,rfl,?_⟩;rw[if_neg (zt hc)];refine ite2 (λh=>?_) (λh=>?_)
   .rw[decide_eq_true h] at hp;rw[<- hp,Bool.true_or,if_pos rfl] at k;exact k
   .rw[decide_eq_false h] at hp;rw[<- hp,Bool.false_or] at k;refine ite2 (λh2=>?_) (λh2=>?_)
    .rw[if_pos (decide_eq_true h2)] at k;exact k
    .rw[if_neg (by simpa using h2)] at k;exact k
theorem Fq:g.DX.Ok P w base 3 sp_is_scheme:=by
 refine lnF sq ?_;rintro BT A dl s H vs Q E hr ⟨d,v,rfl,hv,hs,k⟩
 exists sq.nd,dU,jx,g.qG,g.qF,g.aK,g.qN
 fail "r";refine⟨d,v,rfl,hv,hs,λH1 s1=>?_⟩;fail "r";have k1:=k H1 s1;cases hv with
 |str x=>
  have hx:=iL hs;refine ite2 (λh=>?_) (λh=>?_)
  .rw[show schD (.str x)=false by simp only[schD];rw[show x.cps.toList.all isSg=false from h];rfl] at k1;exact k1
  have h:x.cps.toList.all isSg=true:=(Bool.not_eq_false _).mp h;fail "r";refine⟨a9 hx,ite2 (λh2=>?_) (λh2=>?_)⟩
  .rw[show schD (.str x)=false by simp only[schD,h,Bool.true_and];rw[decide_eq_false `l];rfl] at k1;exact k1
  have e:x=⟨x.cps.toList.toArray⟩:=by simp
  refine⟨a9 hx,?_⟩;have e1:Txt.slice x none (some 1)=⟨(x.cps.toList.take 1).toArray⟩:=by
   conv=>lhs;rw[e]
   exact lT x.cps.toList 1
  rw[e1];refine⟨⟨(x.cps.toList.take 1).toArray⟩,_,rfl,by rw[aE,length_take];lia,λH2 s2=>?_⟩;have mt:=all_eq_true.mp h;have f1:((⟨(x.cps.toList.take 1).toArray⟩:Str).cps.toList.all λc=>decide (c∈(ofString "abcdefghijklmnopqrstuvwxyzABCDEFGHIJKLMNOPQRSTUVWXYZ").cps.toList))=(x.cps.toList.take 1).all isLet:=by rw[zp,Bool.eq_iff_iff,all_eq_true,all_eq_true];refine forall_congr' λc=>forall_congr' λhc=>?_;rw[zy c (by have:=bA (mt c (mem_of_mem_take hc));lia)]
  have f2:(x.cps.toList.all λc=>decide (c∈(ofString "abcdefghijklmnopqrstuvwxyzABCDEFGHIJKLMNOPQRSTUVWXYZ0123456789").cps.toList))=x.cps.toList.all isAln:=by rw[Bool.eq_iff_iff,all_eq_true,all_eq_true];refine forall_congr' λc=>forall_congr' λhc=>?_;rw[zz c (by have:=bA (mt c hc);lia)]
  rw[f1];fail "r";refine ite2 (λh3=>?_) (λh3=>?_)
  .refine⟨x,_,rfl,hx,λH3 s3=>?_⟩;have k3:=k H3 (s1.trans (s2.trans s3));rw[f2];simp only[schD,h,h3,Bool.true_and,decide_eq_true (show x.length<=8 by lia)] at k3;exact k3
  .have k3:=k H2 (s1.trans s2);simp only[schD,h,(Bool.not_eq_true _).mp h3,Bool.false_and,Bool.and_false,Bool.true_and] at k3;exact k3
 |_=>exact k1
theorem Fs:g.DY.Ok P w base 3 sp_is_filled_text:=by
 refine lnF sr ?_;rintro mt A dl s H vs Q E hr ⟨d,v,rfl,hv,hs,k⟩
 exists sr.nd,jx,g.aK
 fail "r";refine⟨d,v,rfl,hv,hs,λH1 s1=>?_⟩;fail "r";have k1:=k H1 s1;cases hv with
 |str x=>
  refine ite2 (λh=>?_) (λh=>?_)
  .fail "r";refine⟨a9 (iL hs),?_⟩;have e:ftx (.str x)=decide ((0:Int) < (x.length:Int)):=by
    simp only[ftx];rw[show x.cps.toList.all isSg=true from h,Bool.true_and];exact decide_eq_decide.mpr `l
   rw[e] at k1;exact k1
  .rw[show ftx (.str x)=false by simp only[ftx];rw[show x.cps.toList.all isSg=false from (Bool.not_eq_true _).mp h,Bool.false_and]] at k1;exact k1
 |_=>exact k1
theorem Ft:g.DZ.Ok P w base 3 sp_shown_house:=by
 refine lnF su ?_;rintro Cl A dl s H vs Q E hr ⟨o,d,rfl,ho,hd,k⟩
 exists su.nd,cW,g.aw,hint 0 110
 have c1:ofString ":"=⟨[58].toArray⟩:=by fail "k"
 have c2:ofString "//"=⟨[47,47].toArray⟩:=by fail "k"
 rw[c1,c2];fail "r";cases o with
 |none=>
  cases d with
  |some i=>exact absurd rfl (hd i rfl).2
  |none=>refine ite2 (λ_=>?_) `a;exact k H `r
 |some l=>
  refine ite2 (λz=>absurd z (by simp[otV])) (λ_=>?_);have hl:=ho l rfl;have w:=au l;refine⟨λZ H'=>H'=H/\Z=[some (otV (some l)),some (itV d),some (.str ⟨(dooT d).toArray⟩)]/\(dooT d).length<=6,?_,?_⟩
  .cases d with
   |none=>exact ite2 (λ_=>⟨rfl,rfl,`d⟩) `a
   |some i=>
    have hi:=(hd i rfl).1;have BT:=A3 hi.1 hi.2;refine ite2 (λz=>absurd z (by simp[itV])) (λ_=>?_);refine⟨i,rfl,lg hi.1 hi.2,a9 (by rw[mF,aE];lia),rfl,?_,?_⟩
    .rw[mF,show (⟨#[58]⟩:Str)=⟨[58].toArray⟩ from rfl,ah];simp[dooT]
    .simp only[dooT,length_cons];lia
  .rintro Z H' ⟨rfl,rfl,BT⟩;fail "r";show jf [.str `A] H' _ _;fail "r";refine⟨`l,hl.2,λH'' mt=>?_⟩;refine⟨a9 `l,a9 `l,?_⟩;have:=k H'' mt;simpa [houT] using this
theorem uE:g.E1.Ok P w base 3 (sp_shown_way K):=by
 refine lnF sv ?_;rintro Fr A dl s H vs Q E hr ⟨r,e,ss,p,q,rfl,hp,hq,hs,hn,hl,k⟩
 nomatch (aC (aI (aV g.jI (u3 g) hr rfl (a6 `D (a6 (cmp1 [] [] (bu (K:=K) rfl `D) ae (aV g.fN (cW g) hr rfl (a6 (pv 0) aA))) (a6 `D aA)))))),sv.nd,g.cO,g.cA,g.dB
 fail "r";refine⟨_,_,.inr hp,rfl,?_⟩;refine⟨_,_,.inr hp,rfl,q,rfl,⟨_,hq⟩,λp1 Fn=>?_⟩;refine lK (zs:=(ss.map wr).map λl=>V.str `A) hq (by rw[length_map];exact a9 `l) Fn `s (λi x z hx hz H' T sm hT=>?_) (λH' sm Cl=>?_)
 .rw[List.getElem?_map] at hx hz;rw[List.getElem?_map] at hz;obtain⟨s,mt,rfl⟩:=Option.map_eq_some_iff.mp hx;rw[mt] at hz;simp only[Option.map_some,Option.some.injEq] at hz;subst hz;have BT:=hs s (mem_of_getElem? mt);fail "r";exact⟨BT.1,BT.2,hT⟩
 .refine⟨_,_,.inr (sm.tup hp),rfl,?_⟩;have hw:(joinT 47 (ss.map wr)).length<=90000:=by
   have:=hl;unfold wayT at this;simp only[length_append] at this;lia
  refine⟨r,e,p1,ss.map wr,rfl,.of Cl,hw,?_⟩;rw[<- Ae];exact k H' sm
theorem Fu:g.pi.Ok P w base 3 EG:=by
 refine g.pi.F.ok sw (λvs H Q E h=>?_) (λcdv A outer s H vs Q E hr h=>?_)
 .obtain⟨rfl,_⟩:=h;rfl
 .obtain⟨rfl,k⟩:=h
  exists sw.nd,cW
  fail "r";exact k
theorem uF:g.E2.Ok P w base 3 (sp_gone K):=by
 refine lnF t6 ?_;rintro Gg A Fr s H vs Q E hr ⟨⟨rt,ss,en⟩,v,rfl,hI,hn,k⟩
 exists t6.nd,ju,F8,g.dB,hint 2 0,g.fT,g.aK,g.cO,g.cA
 obtain⟨pw,ps,rfl,hw,BT⟩:=cq (r:=rt) (e:=en) (ss:=ss) hI;dsimp only at hn;fail "r";refine⟨_,_,.inr hw,rfl,?_⟩;fail "r";refine⟨_,.inr BT,?_⟩;rw[length_map];by_cases h0:ss=[]
 .subst h0;refine ite2 (λ_=>k _ H `r ?_) `a;rw[show goneV (rt,[],en)=(rt,[],en) by simp[goneV,goneW]];exact hI
 have Gf:0 < ss.length:=length_pos_iff.mpr h0;refine ite2 (λz=>absurd z `l) (λ_=>?_);refine⟨_,_,.inr hw,rfl,?_⟩;refine⟨ps,ss,rt,rfl,BT,hn,λp H1 s1 Cl=>?_⟩;have Ga:=s1.tup hw;refine⟨_,.inr (.of Cl),?_⟩;rw[length_map];fail "r";by_cases h1:goneS rt ss=[]
 .refine ite2 (λz=>by rw[h1] at z;simp at z) (λ_=>?_);refine⟨_,_,.inr Ga,rfl,rt,rfl,?_⟩;cases rt with
  |true=>rw[if_pos rfl];refine⟨`d,λp7 H7 Gc s7 mt=>⟨`d,λp8 H8 Fn s8 dl=>k _ H8 ((s1.trans s7).trans s8) ?_⟩⟩;rw[show goneV (true,ss,en)=(true,[],true) by simp[goneV,goneW,h0,h1]];exact wayK (.of dl) (.of (s8 _ _ mt))
  |false=>rw[if_neg `d];refine⟨`d,λp7 H7 Gc s7 mt=>⟨`d,λp8 H8 Fn s8 dl=>k _ H8 ((s1.trans s7).trans s8) ?_⟩⟩;rw[show goneV (false,ss,en)=(false,[sStay],true) by simp[goneV,goneW,h0,h1]];rw[kst] at mt;exact wayK (.of dl) (.of (s8 _ _ mt))
 .have Ge:0 < (goneS rt ss).length:=length_pos_iff.mpr h1;have hW:goneV (rt,ss,en)=(rt,goneS rt ss,en || lastDot ss):=by simp[goneV,goneW,h0,h1]
  refine ite2 (λ_=>?_) (λz=>absurd (show (0:Int) < ((goneS rt ss).length:Int) by lia) z);refine⟨_,_,.inr Ga,rfl,_,_,.inr Ga,rfl,en,rfl,?_⟩;refine ite2 (λhe=>⟨`d,λp8 H8 Fn s8 dl=>k _ H8 (s1.trans s8) ?_⟩) (λhe=>?_)
  .rw[hW,he,Bool.true_or];exact wayK (.of dl) (.of (s8 _ _ Cl))
  .have he:en=false:=by simpa using he
   obtain⟨s,Gb⟩:∃s,ss.getLast?=some s:=by
    cases hl:ss.getLast? with
    |none=>exact absurd (List.getLast?_eq_none_iff.mp hl) h0
    |some s=>exact⟨s,rfl⟩
   have Gd:lastDot ss=isDot s:=by unfold lastDot;rw[Gb]
   refine⟨_,_,.inr (s1.tup BT),cI _ Gb,s,rfl,`d,λp8 H8 Fn s8 dl=>k _ H8 (s1.trans s8) ?_⟩;rw[hW,he,Bool.false_or,Gd];exact wayK (.of dl) (.of (s8 _ _ Cl))
theorem Fv:g.E3.Ok P w base 3 sp_are_ends_of_part:=by
 refine lnF t7 ?_;rintro mt A dl s H vs Q E hr ⟨a,b,rfl,l1,l2,c1,c2,hn,k⟩
 exists t7.nd,jx
 have t1:tx (.str (mkS a))=true:=all_eq_true.mpr (by simpa using c1);have t2:tx (.str (mkS b))=true:=all_eq_true.mpr (by simpa using c2);fail "r";refine⟨_,_,rfl,.str _,j5 `l,λH1 s1=>⟨_,rfl,ite2 (λ_=>⟨_,_,rfl,.str _,j5 `l,λH2 s2=>⟨_,rfl,ite2 (λ_=>?_) (λz=>absurd t2 z)⟩⟩) (λz=>absurd t1 z)⟩⟩;refine⟨Nat.le_trans (Nat.add_le_add (show (mkS a).length<=100 by rw[aE];exact l1) (show (mkS b).length<=100 by rw[aE];exact l2)) `d,?_⟩;rw[decide_eq_false (λz=>hn (bg.mp z))];exact k H2 (s1.trans s2)
theorem Fw:g.E4.Ok P w base 3 (sp_names_are_unlike K):=by
 refine lnF t8 ?_;rintro mt A dl s H vs Q E hr ⟨cs,xs,q,rfl,hq,hx,hl,k⟩
 nomatch (a8 `D
   (aC (aI (pcm cY (CI rfl rfl g.qX.1 rfl g.aK.1 PySem.boot_len (a6 (pv 1) aA)) `D)))),t8.nd,F9,g.aK
 fail "r";refine⟨cs,xs,q,rfl,.of hq,hx,hl,λp1 H1 s1 h1=>?_⟩;have hgl:=C2 cs;refine⟨p1,(gapsM cs).map mkS,rfl,by rw[h1,map_map];rfl,by rw[length_map];lia,?_⟩;fail "r";refine⟨_,.inl (.of h1),?_⟩;have e:decide ((((fstU ((gapsM cs).map mkS)).length:Nat):Int)=(((gapsM cs).map tV).length:Int))=decide ((gapsM cs).Nodup):=by have h2:=(fB _ ((gapsM cs).map mkS) rfl).2;rw[CM,length_map] at h2;rw[decide_eq_decide,length_map,<- h2];lia
 rw[e];exact k H1 s1
theorem Fx:g.pj.Ok P w base 3 (sp_shown_piece K):=by
 refine lnF jh ?_;rintro Gf A dl s H vs Q E hr ⟨c,p,rfl,hp,ok,hn,k⟩
 nomatch (a8 `D
   (a8 `D
   (a8 (sx 1 jh.nd (bG (bN (bz (K:=K) rfl) `D (bE (v:=.ref g.cR) rfl g.jb rfl) (by with_unfolding_all rfl)) `D aJ))
   (aC `D)))),jh.nd,cW,hint 2 0
 have b1:ofString "{"=⟨[123].toArray⟩:=by fail "k"
 have b2:ofString "}"=⟨[125].toArray⟩:=by fail "k"
 have b3:ofString ":"=⟨[58].toArray⟩:=by fail "k"
 rw[b1,b2,b3];fail "r";have w1:ofString "number"=⟨[110,117,109,98,101,114].toArray⟩:=by fail "k"
 have w2:ofString "word"=⟨[119,111,114,100].toArray⟩:=by fail "k"
 have w3:ofString "rest"=⟨[114,101,115,116].toArray⟩:=by fail "k"
 obtain⟨n1,n2,n3,n4,n5,n6,n7,n8,n9,Ge,Fr,Gd,Fn,Gc,Cl⟩:=CL;have ad:∀{a b:Tq}{H1:Hp}{Q1:VK},a.length+b.length<=2000->Q1 (tV (a++b)) H1->rAddS K (tV a) (tV b) H1 Q1:=λhl h=>bQ.mpr ⟨a9 (by rw[aE,aE];lia),by rw[ah];exact h⟩;have no:∀{a b:Str},a≠b->¬ decide (a=b)=true:=λh z=>h (of_decide_eq_true z);have named:∀(kw:Str) (n w:Tq),kw=⟨w.toArray⟩->kw∈kwW->w.length<=6->SqT K H p [.str kw,tV n]->NmOk n->(∀H',Same H H'->Q (tV (123::(n++58::(w++[125])))) H')->IxE K H p 0 λv=>rIn K false v (V.ref g.cR) H λx H'=>∃k,x=V.bl k/\if k=true then IxE K H' p 0 λv=>rAddS K (V.str ⟨[58].toArray⟩) v H' λx H1=>IxE K H1 p 1 λv=>rAddS K (V.str ⟨[123].toArray⟩) v H1 λBT H1=>rAddS K BT x H1 λx H1=>rAddS K x (V.str ⟨[125].toArray⟩) H1 Q else IxE K H' p 1 λv=>rAddS K (V.str ⟨[123].toArray⟩) v H' λx H1=>rAddS K x (V.str ⟨#[]⟩) H1 λx H1=>rAddS K x (V.str ⟨[125].toArray⟩) H1 Q:=λkw n w e Gb hl hp Ga hk=>by have:=Ga.1;refine⟨_,_,.inr hp,a7 (j:=0) rfl,_,kwW.map V.str,rfl,.inr (bb (ss:=kwW) (g.gS H)),rfl,rfl,_,rfl,?_⟩;rw[if_neg (show ¬ false=true by decide),ai,decide_eq_true Gb];refine ite2 (λ_=>⟨_,_,.inr hp,a7 (j:=0) rfl,?_⟩) `a;rw[e];refine ad (a:=[58]) (by simp only[length_cons,length_nil];lia) ⟨_,_,.inr hp,a7 (j:=1) rfl,ad (a:=[123]) (by simp only[length_cons,length_nil];lia) (ad (by simp only[length_append,length_cons,length_nil];lia) (ad (b:=[125]) (by simp only[length_append,length_cons,length_nil];lia) ?_))⟩;have:=hk H `r;simpa using this
 cases c with
 |step s=>exact⟨_,_,.inr hp,a7 (j:=0) rfl,aF.mpr ⟨_,rfl,ite2 (λ_=>⟨_,_,.inr hp,a7 (j:=1) rfl,s,rfl,by have:=ok.2.1;lia,ok.2.2.1,λH' sm=>k H' sm⟩) (λz=>absurd (decide_eq_true rfl) z)⟩⟩
 |part h n t=>obtain⟨o1,o2,o3,o4,_⟩:=ok;have mt:=(hn rfl).1;have mt:n.length<=8:=mt.2;have l1:=au h;have l2:=au t;refine⟨_,_,.inr hp,a7 (j:=0) rfl,aF.mpr ⟨_,rfl,ite2 (λz=>absurd z (no n5)) (λ_=>⟨_,_,.inr hp,a7 (j:=0) rfl,aF.mpr ⟨_,rfl,ite2 (λ_=>⟨_,_,.inr hp,a7 (j:=1) rfl,h,rfl,`l,o3,λH1 s1=>?_⟩) (λz=>absurd (decide_eq_true rfl) z)⟩⟩)⟩⟩;refine ad (b:=[123]) (by simp only[length_cons,length_nil];lia) ⟨_,_,.inr (s1.tup hp),a7 (j:=2) rfl,ad (by simp only[length_append,length_cons,length_nil];lia) (ad (b:=[125]) (by simp only[length_append,length_cons,length_nil];lia) ⟨_,_,.inr (s1.tup hp),a7 (j:=3) rfl,t,rfl,`l,o4,λH2 s2=>ad (by simp only[length_append,length_cons,length_nil];lia) ?_⟩)⟩;have:=k H2 (s1.trans s2);simpa [pcT] using this
 |gap n=>have:=(hn rfl).1;have mt:n.length<=8:=this.2;refine⟨_,_,.inr hp,a7 (j:=0) rfl,aF.mpr ⟨_,rfl,ite2 (λz=>absurd z (no n3)) (λ_=>⟨_,_,.inr hp,a7 (j:=0) rfl,aF.mpr ⟨_,rfl,ite2 (λz=>absurd z (no n8)) (λ_=>?_)⟩⟩)⟩⟩;refine⟨_,_,.inr hp,a7 (j:=0) rfl,_,kwW.map V.str,rfl,.inr (bb (ss:=kwW) (g.gS H)),rfl,rfl,_,rfl,?_⟩;rw[if_neg (show ¬ false=true by decide),ai];refine ite2 (λz=>absurd (of_decide_eq_true z) (by unfold kwW;simp only[mem_cons,not_mem_nil,or_false];exact λh=>by rcases h with h|h|h;exact Fr h;exact Fn h;exact Cl h.symm)) (λ_=>⟨_,_,.inr hp,a7 (j:=1) rfl,ad (a:=[123]) (by simp only[length_cons,length_nil];lia) (ad (b:=[]) (by simp only[length_append,length_cons,length_nil];lia) (ad (b:=[125]) (by simp only[length_append,length_cons,length_nil];lia) ?_))⟩);have:=k H `r;simpa [pcT] using this
 |num n=>exact⟨_,_,.inr hp,a7 (j:=0) rfl,aF.mpr ⟨_,rfl,ite2 (λz=>absurd z (no n1)) (λ_=>⟨_,_,.inr hp,a7 (j:=0) rfl,aF.mpr ⟨_,rfl,ite2 (λz=>absurd z (no n6)) (λ_=>named _ n _ w1 (by unfold kwW;simp) `d hp (hn rfl) k)⟩⟩)⟩⟩
 |word n=>exact⟨_,_,.inr hp,a7 (j:=0) rfl,aF.mpr ⟨_,rfl,ite2 (λz=>absurd z (no n2)) (λ_=>⟨_,_,.inr hp,a7 (j:=0) rfl,aF.mpr ⟨_,rfl,ite2 (λz=>absurd z (no n7)) (λ_=>named _ n _ w2 (by unfold kwW;simp) `d hp (hn rfl) k)⟩⟩)⟩⟩
 |rest n=>exact⟨_,_,.inr hp,a7 (j:=0) rfl,aF.mpr ⟨_,rfl,ite2 (λz=>absurd z (no n4)) (λ_=>⟨_,_,.inr hp,a7 (j:=0) rfl,aF.mpr ⟨_,rfl,ite2 (λz=>absurd z (no n9)) (λ_=>named _ n _ w3 (by unfold kwW;simp) `d hp (hn rfl) k)⟩⟩)⟩⟩
theorem jy:g.jK.Ok P w base 3 (sp_step_fits K):=by
 refine lnF t9 ?_;rintro Cl A BT s H vs Q E hr ⟨c,s,p,rfl,hp,hs,hh,ht,k⟩
 exists t9.nd,Fc,Fb,Fa,ju
 fail "r";refine⟨s,rfl,_,rfl,?_⟩;have kk:=k;by_cases mt:isDot s=true
 .rw[if_pos mt];have e:fitsM c s=false:=by unfold fitsM;rw[mt];rfl
  rw[e] at k;exact k H `r
 rw[if_neg mt];have dl:isDot s=false:=by simpa using mt
 refine⟨_,_,.inr hp,c.at0,?_⟩;refine L2.aF.mpr ⟨_,rfl,?_⟩;rw[eh];cases c with
 |step w=>
  refine ite2 (λ_=>⟨_,_,.inr hp,a7 (j:=1) rfl,?_⟩) `a;refine L2.aF.mpr ?_;have e:fitsM (.step w) s=decide ((⟨s.toArray⟩:Str)=⟨w.toArray⟩):=by unfold fitsM;rw[dl];show decide (s=w)=_;exact decide_eq_decide.mpr aH.symm
  rw[<- e];exact k H `r
 |part h n t=>
  refine ite2 `E (λ_=>⟨_,_,.inr hp,Pc.at0 _,?_⟩);refine L2.aF.mpr ⟨_,rfl,?_⟩;rw[av];refine ite2 (λ_=>?_) `a;have e:fitsM (.part h n t) s=partB h t s:=by unfold fitsM;rw[dl];rfl
  exact⟨h,n,t,s,p,rfl,hp,hs,hh,ht,by rw[<- e];exact k H `r⟩
 |num n=>
  refine ite2 `E (λ_=>⟨_,_,.inr hp,Pc.at0 _,?_⟩);refine L2.aF.mpr ⟨_,rfl,?_⟩;rw[av];refine ite2 `E (λ_=>⟨_,_,.inr hp,Pc.at0 _,?_⟩);refine L2.aF.mpr ⟨_,rfl,?_⟩;rw[bT];refine ite2 (λ_=>?_) `a;have e:fitsM (.num n) s=numB s:=by unfold fitsM;rw[dl];rfl
  exact⟨s,rfl,hs,λH' sm=>by rw[<- e];exact k H' sm⟩
 |word n=>
  refine ite2 `E (λ_=>⟨_,_,.inr hp,Pc.at0 _,?_⟩);refine L2.aF.mpr ⟨_,rfl,?_⟩;rw[av];refine ite2 `E (λ_=>⟨_,_,.inr hp,Pc.at0 _,?_⟩);refine L2.aF.mpr ⟨_,rfl,?_⟩;rw[bT];refine ite2 `E (λ_=>⟨_,_,.inr hp,Pc.at0 _,?_⟩);refine L2.aF.mpr ⟨_,rfl,?_⟩;rw[cw];refine ite2 (λ_=>?_) `a;have e:fitsM (.word n) s=wordB s:=by unfold fitsM;rw[dl];rfl
  exact⟨s,rfl,hs,λH' sm=>by rw[<- e];exact k H' sm⟩
 |_=>refine ite2 `E (λ_=>⟨_,_,.inr hp,Pc.at0 _,?_⟩);refine L2.aF.mpr ⟨_,rfl,?_⟩;rw[av];refine ite2 `E (λ_=>⟨_,_,.inr hp,Pc.at0 _,?_⟩);refine L2.aF.mpr ⟨_,rfl,?_⟩;rw[bT];refine ite2 `E (λ_=>⟨_,_,.inr hp,Pc.at0 _,?_⟩);refine L2.aF.mpr ⟨_,rfl,?_⟩;rw[cw];refine ite2 `E (λ_=>?_);have e:=k H `r;unfold fitsM at e;rw[dl] at e;exact e
theorem Fy:g.E5.Ok P w base 3 (sp_taken_pair K g.aN):=by
 refine lnF ji ?_;rintro Gb A mt s H vs Q E hr ⟨p,t,r,i,a,b,c,rfl,dl,hd,hs,hl,k⟩
 nomatch (a8 (aL (b0 (af (aT (pv 0) g.aQ g.jW (uD g) (hr.mono `d) g.jS .nil pass0 (a6 `D aA))))
    `D aO)
   (a8 (sx 1 ji.nd (aU (lG (K:=K) rfl) (ca (pv 0) g.aQ g.gP (jv g) (hr.mono `d) g.fi .nil pass0) `D))
   (a8 `D
   (a8 `D
   (a8 (bf (ca (pv 0) g.aQ g.gP (jv g) (hr.mono `d) g.fi .nil pass0))
   (aC `D)))))),ji.nd,uA,hint 1 413,g.qV,hint 1 409
 obtain⟨hf,ha,hb,Ga⟩:=iY hs;have Fn:i+2<=`t:=by have:=congrArg List.length hd;rw[length_drop] at this;simp only[length_cons] at this;lia
 have BT:t[i]?=some a:=by rw[<- List.head?_drop,hd];rfl
 have Fr:t[i+1]?=some b:=by rw[<- List.head?_drop,<- drop_drop,hd];rfl
 have eF:pQ=.str ⟨[50,51,52,53,54,55].toArray⟩:=by show V.str (ofString "234567")=_;rw[show ofString "234567"=⟨[50,51,52,53,54,55].toArray⟩ by fail "k"]
 have hf:a∈[50,51,52,53,54,55]:=by rw[show (ofString "234567").cps.toList=[50,51,52,53,54,55] by fail "k"] at hf;exact hf
 fail "r";rw[eF];refine aX dl ⟨p,t,_,i,rfl,dl,`l,hl,_,rfl,?_⟩;rw[cu BT,decide_eq_true hf,if_neg `d];refine aX dl ⟨p,t,i,a,rfl,dl,BT,hl,λH1 s1 c1=>?_⟩;refine cJ c1 g.aQ g.bj (bh c1 g.aQ g.bC ⟨_,rfl,bh c1 g.aQ g.bC ?_⟩);fail "r";rw[show ((i+1:Nat):Int)+1=((i+2:Nat):Int) by lia,eG,show i+2 - (i+1)=1 by lia,<- drop_drop,hd,show List.take 1 (List.drop 1 (a::b::r))=[b] from rfl];fail "r";refine⟨a9 hl,`d,`d,λd Cl=>?_,?_⟩
 .simp only[mem_cons,not_mem_nil,or_false] at Cl;rcases Cl with rfl|rfl
  .exact ha
  .exact hb
 rw[show signOfL [a,b]=signOf a b from rfl,lX,hs,if_neg (by intro z;cases z)];exact aX c1 ⟨p,t,i+1,b,rfl,c1,Fr,hl,λH2 s2 c2=>k H2 (s1.trans s2) c2⟩
theorem Fz:g.E6.Ok P w base 3 (sp_worth_more K):=by
 refine lnF gU ?_;rintro Gr A Fn s H vs Q E hr ⟨cs,ds,xs,ys,p,q,p',q',e,e',rfl,hp,hq,hx,Gb,Cl,hy,Gq,Gp,oc,od,k⟩
 nomatch (a8 (b8 PassesOwn.never rfl (eg (K:=K) rfl rfl g.dF.1 (a6 `D (a6 `D aA))) (ck (n:=2) (K:=K) rfl rfl (b6 (pgn 2 gU.nd) (b6 (pgn 3 gU.nd) cD)))
   (aC (aL `D
    (aC (aI (pcm (Cy (K:=K) rfl hr.units) `D `D))) aO)))
   (aC `D)),gU.nd,Fh,g.bi,g.aK,hint 7 0
 fail "r";have Go:=hx.length;have Gn:=hy.length;refine⟨_,_,.inr hp,a7 (j:=0) rfl,_,_,.inr Gb,a7 (j:=0) rfl,q,q',xs,ys,`R,hq,Cl,?_⟩;refine BE (λi Z H'=>Same H H'/\Ex2 λ(v2 v3:Option V)=>Z=[some (.ref p),some (.ref p'),v2,v3]/\moreM cs ds=moreM (cs.drop i) (ds.drop i)) ⟨Same.refl _,none,none,rfl,rfl⟩ (λi Z H' hi ⟨s,_⟩=>⟨s.tup hq,s.tup Cl⟩) ?_ ?_
 .rintro i x y Z H1 T Gg Gf ⟨s1,v2,v3,rfl,hm⟩ hT;obtain⟨c,pc,hc,rfl,Ga⟩:=hx.get Gg;obtain⟨d,pd,hd,rfl,Fr⟩:=hy.get Gf;have s2:=s1.trans (aM (o:=.tup [.ref pc,.ref pd]) hT);refine⟨T,_,rfl,.of aB,rfl,_,_,rfl,_,_,rfl,rfl,?_⟩;fail "r";generalize upd H1 T (.tup [.ref pc,.ref pd])=H2 at s2;have Ge:=oc c (mem_of_getElem? hc);have Gd:=od d (mem_of_getElem? hd);refine⟨c,pc,rfl,s2.tup Ga,Ge,λr3 H3 s3 Gk=>?_⟩;have Gc:=s2.trans s3;refine⟨d,pd,rfl,Gc.tup Fr,Gd,λr4 H4 s4 Gj=>?_⟩;have BT:=Gc.trans s4;refine⟨.tuple ((worthM c).map PyData.int),.tuple ((worthM d).map PyData.int),.tup (s4 _ _ Gk) (f8 _),.tup Gj (f8 _),oS _,oS _,_,rfl,?_⟩;rw[CB];have ec:cs.drop i=c::cs.drop (i+1):=by obtain⟨h1,h2⟩:=List.getElem?_eq_some_iff.mp hc;rw[<- h2];exact drop_eq_getElem_cons h1
  have ed:ds.drop i=d::ds.drop (i+1):=by obtain⟨h1,h2⟩:=List.getElem?_eq_some_iff.mp hd;rw[<- h2];exact drop_eq_getElem_cons h1
  have mt:moreM cs ds=if worthM c=worthM d then moreM (cs.drop (i+1)) (ds.drop (i+1)) else HT.lexLt (worthM d) (worthM c):=by rw[hm,ec,ed];rfl
  refine ite2 (λdl=>?_) (λdl=>?_)
  .have dl:¬ worthM c=worthM d:=by simpa using dl
   refine⟨c,pc,rfl,BT.tup Ga,Ge,λr5 H5 s5 Gi=>⟨d,pd,rfl,(BT.trans s5).tup Fr,Gd,λr6 H6 s6 Gh=>?_⟩⟩;refine⟨r5,r6,worthM c,worthM d,rfl,rfl,.of (s6 _ _ Gi),.of Gh,?_⟩;rw[if_neg dl] at mt;rw[<- mt];exact k H6 ((BT.trans s5).trans s6)
  .have dl:worthM c=worthM d:=by simpa using dl
   rw[if_pos dl] at mt;exact⟨BT,_,_,`R,mt⟩
 .rintro Z H1 ⟨s1,v2,v3,rfl,hm⟩;fail "r";refine⟨_,_,.inr (s1.tup hp),a7 (j:=0) rfl,xs,.inr (s1.tup hq),_,_,.inr (s1.tup Gb),a7 (j:=0) rfl,ys,.inr (s1.tup Cl),?_⟩;have e1:moreM cs ds=decide ((`x:Int) < (ys.length:Int)):=by
   rw[hm,Go,Gn];have Gm:cs.drop (min cs.length ds.length)=[]\/ds.drop (min cs.length ds.length)=[]:=by simp only[List.drop_eq_nil_iff];lia
   have hl:(cs.drop (min cs.length ds.length)).length < (ds.drop (min cs.length ds.length)).length↔(cs.length:Int) < (ds.length:Int):=by rw[length_drop,length_drop];lia
   rw[<- decide_eq_decide.mpr hl];exact Cz Gm
  fail "r";rw[<- e1];exact k H1 s1
theorem FA:g.pp.Ok P w base 3 (sp_shown_value K):=by
 refine lnF tD ?_;rintro Fn A dl s H vs Q E hr ⟨x,v,rfl,hv,hx,k⟩
 nomatch (a8 (aL `D
    (aC (aI (aW (K:=K) rfl PySem.F.plainAttrs_str PySem.F.slot_str_join PySem.F.type_str_join (ce (K:=K) rfl) aJ (a6 (cmp1 [] [] (b9 (K:=K) rfl (pv 0)) ae (aV g.fN (cW g) hr rfl (a6 (pv 0) aA))) aA)))) aO)
   (aC `D)),tD.nd,EV,cW,g.aw,g.dE,g.ak
 cases x with
 |txt l=>cases hv;fail "r";exact⟨.str (mkS l),_,rfl,.str _,false,rfl,ite2 `E (λ_=>⟨by have:=hx.2;lia,hx.1,k⟩)⟩
 |int i=>cases hv;fail "r";exact⟨.int i,_,rfl,.int _,true,rfl,ite2 (λ_=>⟨lg60 hx.1 hx.2,k H `r⟩) `a⟩
 |lst ls=>
  obtain⟨q,rfl,hq⟩:=hv;fail "r";have h6:=hx.2;refine⟨_,ci hq,ite2 (λ_=>⟨⟨_,.of hq⟩,λp np=>?_⟩) (λz=>absurd `d z)⟩;refine e9 (zs:=(ls.map wr).map tV) (.of hq) (a9 (by rw[length_map];lia)) np (by rw[length_map,length_map,length_map]) (λi x z mt hz H1 U s1 hU=>?_) (λH1 s1 BT=>?_)
  .rw[List.getElem?_map] at mt;obtain⟨s,hs,rfl⟩:=Option.map_eq_some_iff.mp mt;rw[List.getElem?_map,List.getElem?_map,hs] at hz;cases hz;have Cl:=hx.1 s (mem_of_getElem? hs);fail "r";exact⟨`l,Cl.1,hU⟩
  .have hj:=(bB 44 210 (ws:=ls.map wr) λw hw=>by
    obtain⟨l,hl,rfl⟩:=mem_map.mp hw;have:=au l;have:=(hx.1 l hl).2;lia).2
   rw[length_map] at hj;refine⟨_,p,(ls.map wr).map mkS,rfl,rfl,.of (by rw[map_map];exact BT),?_,?_⟩
   .rw[map_map,length_map,length_map,show ((λx:Str=>x.length) ∘ mkS)=(λx:Tq=>x.length) from funext λx=>aE x,show (ofString ",").length=1 by fail "k"];lia
   .rw[show ofString ","=mkS [44] by fail "k",eN];exact k H1 s1
theorem FB:g.E7.Ok P w base 3 (sp__law_general_pattern K):=by
 refine lnF jj ?_;rintro GF A Gi s H vs Q E hr ⟨r,t,pc,pn,e,ss,ns,is,rfl,Gm,Gk,GC,Gu,Gd,GE,Go,GD,Gg,Gq,Gv,k⟩
 nomatch (ac (cmpS2 K ["_law_cells_here","_law_names_here"] [1,2] 3 jj.nd (ig (K:=K) rfl rfl g.fW.1 (a6 `D aA)) ae (aV g.pe (Fo g) hr rfl (a6 (pv 1) (a6 (px K (pv 2) (aU (al (K:=K)) aZ (pv 0))) (a6 (px K (pv 3) (pv 0)) aA)))))
   (ac `D
   (aC `D))),jj.nd,hint 2 0,g.bK,hint 7 0,g.aK,hint 4 0
 have Ga:∀n∈ns,∀x∈n,isSg x=true:=λn hn=>o6 (Gg n hn).2;fail "r";refine⟨λZ H1=>Same H H1/\∃(l:Addr) (ds:List Pc) (ys:`V),Z=[some (.ref r),some (.ref pc),some (.ref pn),some (.ref l)]/\H l=none/\H1 l=some (.lst ys)/\PcT H1 ds ys/\ds.length=ss.length/\(∀c∈ds,PcOk c/\PcSg c)/\(∀(j:Nat) (c:Pc) (s:Tq),ds[j]?=some c->ss[j]?=some s->fitsM c s=true)/\∀(j:Nat) (c:Pc),ds[j]?=some c->c.isRest=false/\(c.isStep=false->ns[j]?=some c.name),?_,?_⟩
 .refine⟨_,_,.inr (.of Gm),a7 (j:=1) rfl,t,_,rfl,.of Gk,λl n1=>?_⟩;refine BI (λi ws H'=>Same H H'/\∃ds:List Pc,PcT H' ds ws/\ds.length=i/\(∀c∈ds,PcOk c/\PcSg c)/\(∀(j:Nat) (c:Pc) (s:Tq),ds[j]?=some c->ss[j]?=some s->fitsM c s=true)/\∀(j:Nat) (c:Pc),ds[j]?=some c->c.isRest=false/\(c.isStep=false->ns[j]?=some c.name)) ?_ ?_ ?_ ?_ ?_ ?_
  .rintro i ws H3 H4 s4 ⟨s3,ds,h1,h2⟩;exact⟨s3.trans s4,ds,h1.mono s4.toT,h2⟩
  .exact a9 (by rw[length_map];lia)
  .exact⟨aM n1,[],.nil,rfl,λs hs=>(by cases hs),(λj c d hd=>by simp at hd),λj c hd=>by simp at hd⟩
  .rintro i ws H3 ⟨s3,h⟩;exact .of (s3 _ _ Gk)
  .rintro i x ws H3 T Gj ⟨s3,ds,Gh,mt,BT,Cl,Fn⟩ Gb hT;rw[List.getElem?_map] at Gj;obtain⟨s,hs,rfl⟩:=Option.map_eq_some_iff.mp Gj;have hil:=(List.getElem?_eq_some_iff.mp hs).1;obtain⟨m,hm⟩:∃z,is[1+i]?=some z:=⟨_,List.getElem?_eq_getElem `l⟩;obtain⟨nm,dl⟩:∃z,ns[i]?=some z:=⟨_,List.getElem?_eq_getElem `l⟩;fail "r";refine⟨_,_,.inl (.of (s3 _ _ Gd)),by rw[show (1+(i:Int))=((1+i:Nat):Int) by lia];exact a7 (by rw[List.getElem?_map,hm];rfl),_,_,.inl (.of (s3 _ _ Go)),a7 (by rw[List.getElem?_map,dl];rfl),?_⟩;refine⟨s,m,nm,rfl,Gu s (mem_of_getElem? hs),λc' p' H4 o1 o2 o4 o3 s4 Gz=>?_⟩;refine hT (.ref p') H4 (s4 _ _ Gb) ⟨oM (s3.trans s4) n1,ds++[c'],?_,by rw[length_append,mt];rfl,λz hz=>?_,λj c2 d2 h1 h2=>?_,λj c2 h1=>?_⟩
   .have st:=dz (ys:=ws++[.ref p']) (s4 _ _ Gb);exact PcT.append (.cons (st _ _ Gz) .nil) ((Gh.mono s4.toT).mono st)
   .rcases mem_append.mp hz with y|y
    .exact BT z y
    .rw[mem_singleton.mp y];refine⟨o1,f9 o1 λx hx=>?_⟩;cases hst:c'.isStep with
     |true=>
      cases c' with
      |step s=>exact absurd (show x∈([]:Tq) from hx) not_mem_nil
      |_=>cases hst
     |false=>rw[o3 hst] at hx;exact Ga nm (mem_of_getElem? dl) x hx
   .by_cases hj:j < ds.length
    .rw[List.getElem?_append_left hj] at h1;exact Cl j c2 d2 h1 h2
    .have e1:j=i:=by
      have:=(List.getElem?_eq_some_iff.mp h1).1;rw[length_append] at this;simp at this;lia
     subst e1;rw[List.getElem?_append_right `l,mt,Nat.sub_self] at h1;cases h1;rw[hs] at h2;cases h2;exact o4
   .by_cases hj:j < ds.length
    .rw[List.getElem?_append_left hj] at h1;exact Fn j c2 h1
    .have e1:j=i:=by
      have:=(List.getElem?_eq_some_iff.mp h1).1;rw[length_append] at this;simp at this;lia
     subst e1;rw[List.getElem?_append_right `l,mt,Nat.sub_self] at h1;cases h1;exact⟨o2,λz=>by rw[o3 z];exact dl⟩
  .rintro ws H3 ⟨s3,ds,Gh,mt,BT,Cl,Fn⟩ Gb;rw[length_map] at mt;exact⟨s3,l,ds,ws,rfl,n1,Gb,Gh,mt,BT,Cl,Fn⟩
 rintro Z H2 ⟨s2,l,ds,ys,rfl,nl,hl,hD,mt,BT,Cl,Fn⟩;have hyl:=hD.length;fail "r";refine⟨λZ H4=>Same H H4/\∃(l:Addr) (cs:List Pc) (us:`V),Z=[some (.ref r),some (.ref pc),some (.ref pn),some (.ref l)]/\H4 l=some (.lst us)/\PcT H4 cs us/\PcsOk cs/\PtG cs e/\fitsP cs e true ss e=true,?_,?_⟩
 .refine⟨`d,λp3 H3 n3 s3 G7=>?_⟩;obtain⟨Gc,Gr⟩:∃z,is[0]?=some z:=⟨_,List.getElem?_eq_getElem `l⟩;refine⟨.list (ds.map pcD),.list [],.lst (s3 _ _ hl) (hD.mono s3.toT).isT.is,.lst G7 .nil,(layL (n:=1) λd hd=>by obtain⟨c,hc,rfl⟩:=mem_map.mp hd;exact o7 (BT c hc).2).shaped `d,`d,_,rfl,?_⟩;have Fr:Same H H3/\∃(l_1:Addr) (cs:List Pc) (us:`V),[some (V.ref r),some (V.ref pc),some (V.ref pn),some (V.ref l)]=[some (V.ref r),some (V.ref pc),some (V.ref pn),some (V.ref l_1)]/\H3 l_1=some (.lst us)/\PcT H3 cs us/\PcsOk cs/\PtG cs e/\fitsP cs e true ss e=true:=⟨s2.trans s3,l,ds,ys,rfl,s3 _ _ hl,hD.mono s3.toT,⟨`l,BT⟩,Dl Gq Gg BT Fn `l (λz=>Gv (length_eq_zero_iff.mp (by rw[<- mt,z];rfl))),Cs mt Cl⟩;refine ite2 (λG8=>⟨_,_,.inl (.of ((s2.trans s3) _ _ Gd)),a7 (j:=0) (by rw[List.getElem?_map,Gr];rfl),rd_I.mpr ⟨`d,?_⟩⟩) (λ_=>Fr);have Gn:0 < ds.length:=by
   cases ds with
   |nil=>exact absurd G8 `d
   |cons a b=>exact Nat.succ_pos _
  refine i6.mpr ⟨_,rfl,ite2 (λ_=>?_) (λ_=>Fr)⟩;refine⟨_,_,.inl (.of ((s2.trans s3) _ _ Gd)),a7 (j:=0) (by rw[List.getElem?_map,Gr];rfl),rd_I.mpr ⟨⟨`d,`d⟩,_,.inl (.of (s3 _ _ hl)),rd_I.mpr ⟨`l,_,rfl,?_⟩⟩⟩;obtain⟨m,hm,em⟩:∃m:Nat,m < ys.length/\Gc / 3 % (ys.length:Int)=(m:Int):=by have h1:=Int.emod_nonneg (Gc / 3) (show (ys.length:Int)≠0 by lia);have h2:=Int.emod_lt_of_pos (Gc / 3) (show (0:Int) < (ys.length:Int) by lia);exact⟨(Gc / 3 % (ys.length:Int)).toNat,`l,`l⟩
  rw[em];obtain⟨nm,dl⟩:∃z,ns[6]?=some z:=⟨_,List.getElem?_eq_getElem `l⟩;refine⟨_,.of (s3 _ _ hl),λp5 H5 n5 s5 Gp=>?_⟩;rw[oC] at Gp;refine⟨_,_,.inl (.of (((s2.trans s3).trans s5) _ _ Go)),a7 (j:=6) (by rw[List.getElem?_map,dl];rfl),`d,λp6 H6 n6 s6 Ge=>⟨`d,λp7 H7 n7 s7 Gy=>.inl ⟨_,_,(s6.trans s7) _ _ Gp,Gy,?_,λp8 H8 n8 s8 Gx=>?_⟩⟩⟩
  .rw[length_take];exact a9 (by simp only[length_cons,length_nil];lia)
  have Gs:=s3.trans (s5.trans (s6.trans (s7.trans s8)));refine⟨s2.trans Gs,p8,ds.take m++[.rest nm],_,rfl,Gx,PcT.append (.cons ((s7.trans s8) _ _ Ge) .nil) ((hD.mono Gs.toT).take m),⟨by rw[length_append,length_take];simp;lia,λz hz=>?_⟩,Dm Gq Gg BT Fn `l dl `l,Ct mt `l Cl⟩;rcases mem_append.mp hz with y|y
  .exact BT z (mem_of_mem_take y)
  .rw[mem_singleton.mp y];exact⟨trivial,f9 trivial λx hx=>Ga nm (mem_of_getElem? dl) x hx⟩
 rintro Z H4 ⟨s4,l,cs,us,rfl,G9,GB,Gf,Gw,GA⟩;fail "r";refine⟨_,.inl (.of G9),λt5 H5 s5 ht=>⟨_,_,.inr (.of ((s4.trans s5) _ _ Gm)),a7 (j:=2) rfl,`d,λp6 H6 n6 s6 Ge=>?_⟩⟩;exact k cs p6 H6 Gf Gw GA ((s4.trans s5).trans s6) ⟨t5,us,Ge,s6 _ _ ht,GB.mono (s5.trans s6).toT⟩
theorem uG:g.pq.Ok P w base 3 (sp__law_one_step K):=by
 refine lnF tE ?_;rintro Gi A mt s H vs Q E hr ⟨i,sg,rfl,Gf,Ge,Gd,k⟩
 nomatch (a8 `D
   (a8 (aL `D
    (aC (aI (cb kM rfl g.aw.1 l8 (a6 (aU kG (pv 2) (px K (lM (a6 aZ (a6 (aU vC aZ aZ) aA))) `D)) aA)))) aO)
   (a8 `D
   (aC `D)))),tE.nd,Fl,hint 2 0
 fail "r";have b3:300000<=sizeLine:=by decide
 refine⟨⟨`d,`d⟩,.inr ⟨`d,`d⟩,`d,`d,?_⟩;have Gb:0<=i / 4 * 69621 % 2147483629:=Int.emod_nonneg _ `d;generalize i / 4 * 69621 % 2147483629=m at Gb;refine ite2 (λh0=>?_) (λh0=>⟨`d,ite2 (λh1=>?_) (λh1=>?_)⟩)
 .refine⟨⟨`d,`d,`d⟩,`d,λp2 H2 n2 s2 Fr=>⟨`d,?_⟩⟩;obtain⟨j,hj,ej⟩:∃j:Nat,j < 2/\m % 2=(j:Int):=⟨(m % 2).toNat,`l,`l⟩;obtain⟨z,hz,dl,Gg⟩:∃z:Int,[V.int 10,V.int (10 ^ Int.toNat 9)][j]?=some (.int z)/\0 < z/\z<=10 ^ 60:=by
   match j,hj with
   |0,_=>exact⟨_,rfl,`d,`k⟩
   |1,_=>exact⟨_,rfl,`k,`k⟩
  refine⟨_,_,.inl (.of Fr),by rw[ej];exact a7 hz,rd_I.mpr ⟨dl,_,rfl,?_,?_⟩⟩
  .have h1:=Int.emod_nonneg m (show z≠0 by lia);have h2:=Int.emod_lt_of_pos m dl;generalize m % z=y at h1 h2;by_cases h0:y.natAbs=0
   .rw[h0];decide
   .rw[Nat.log2_lt h0];have:y.natAbs < 10 ^ 60:=by lia
    exact Nat.lt_of_lt_of_le this `k
  .have h1:=Int.emod_nonneg m (show z≠0 by lia);have h2:=Int.emod_lt_of_pos m dl;generalize m % z=y at h1 h2;obtain⟨n,hn⟩:=Int.eq_ofNat_of_zero_le h1;subst hn;have hd:=ia n;have ed:dg (n:Int)=(Nat.toDigits 10 n).map Char.toNat:=by unfold dg;rw[PySem.W.KIN.signs_num]
   have BT:=iN (i:=(n:Int)) `l;have Gh:(dg (n:Int)).length<=60:=by rw[ed,length_map];exact oB `l
   have Ga:dg (n:Int)≠[]:=by rw[ed];exact hd.2.1
   refine k (dg (n:Int)) H2 s2 ⟨length_pos_iff.mpr Ga,`l,λx hx=>C9 (BT x hx),?_⟩;refine bx.mpr ⟨λz=>?_,λz=>?_⟩
   .have:=BT 46 (by rw[z];decide);revert this;decide
   .have:=BT 46 (by rw[z];decide);revert this;decide
 .obtain⟨t,ht,Fn,Cl⟩:∃t:Nat,1+m % 5=(t:Int)/\1<=t/\t<=5:=⟨(1+m % 5).toNat,`l,`l,`l⟩;have eA:ofString "abcxyz"=⟨([97,98,99,120,121,122]:Tq).toArray⟩:=by fail "k"
  rw[ht,eA];refine⟨`d,_,[97,98,99,120,121,122],t,rfl,`d,`d,`l,`l,λl l0 l1 l2 lg ld=>?_⟩;have Gc:∀x∈l,x∈([97,98,99,120,121,122]:Tq):=λx hx=>(lg x hx).elim id (λz=>absurd z.1 `d);have sm:∀x∈([97,98,99,120,121,122]:Tq),isSg x=true:=by decide
  exact k l H `r ⟨l0,`l,λx hx=>sm x (Gc x hx),ld⟩
 .obtain⟨t,ht,Fn,Cl⟩:∃t:Nat,1+m % 4=(t:Int)/\1<=t/\t<=4:=⟨(1+m % 4).toNat,`l,`l,`l⟩;rw[ht];refine⟨`d,_,sg,t,rfl,Gf,Ge,`l,`l,λl l0 l1 l2 lg ld=>?_⟩;exact k l H `r ⟨l0,`l,λx hx=>(lg x hx).elim (Gd x) (λz=>by rw[z.2];decide),ld⟩
theorem jz:FnOk P w K mg base CX0 4 g.fw g.dG ["text","free"] rP:=by
 refine g.dH.ok tF (λvs H Q E h=>?_) (λGh A Gb s H vs Q E hr h=>?_)
 .obtain⟨l,fr,rfl,_⟩:=h;rfl
 .obtain⟨l,fr,rfl,hl,ha,k⟩:=h
  exists tF.nd,Fp,g.aK
  fail "r";refine⟨`d,λq hq=>?_⟩;refine dw (λm Z H'=>Ex4 λ(p:Nat) (dn:Tq) (v4 v5:Option V)=>m=`L - p/\Z=[some (.str `A),some (.str ⟨fr.toArray⟩),some (.ref q),some (.int (p:Int)),v4,v5]/\p<=`L/\dn.length<=p/\
   H' q=some (.lst (dn.map one))/\Same H H'/\und fr l=(und fr (l.drop p)).map (dn++·)) `L ⟨0,[],none,none,`s,rfl,Nat.zero_le _,Nat.le_refl _,aB,zr hq,`s⟩ ?_
  rintro m Z H' ⟨p,dn,v4,v5,rfl,rfl,hp,Gg,Cl,sm,hu⟩;fail "r";refine⟨a9 `l,ite2 (λh=>?_) (λh=>?_)⟩
  .have Gf:p < `L:=by lia
   refine⟨_,λ_ _ h=>h,?_⟩;have hc:l[p]?=some l[p]:=List.getElem?_eq_getElem Gf;generalize l[p]=c at hc;have hd:=zu hc;refine⟨c,a9 `l,a7 hc,?_⟩;have BT:∀y,Same H (upd H' q (.lst y)):=λy b o e=>by rw[aD (aG e hq)];exact sm _ _ e
   have Fn:(dn.map one).length < sizeLine:=by rw[length_map];exact Nat.lt_of_le_of_lt (show dn.length<=2000 by lia) `d
   refine ite2 (λh2=>?_) (λh2=>?_)
   .have dl:c=126:=by have:=aH.mp h2;injection this
    subst dl;refine⟨a9 `l,?_⟩;rw[show ((p:Int)+3)=((p+3:Nat):Int) by lia,eG,show p+3 - p=3 by lia,hd,List.take_succ_cons];refine c_sw.mpr ⟨by rw[length_take];lia,λd Ga=>?_,.inl rfl,?_⟩
    .rcases mem_cons.mp Ga with rfl|q'
     .decide
     .exact ha d (mem_of_mem_drop (mem_of_mem_take q'))
    rw[lf];have mt:(l.drop p).length=`L - p:=length_drop;rw[hd] at mt;generalize l.drop (p+1)=r at hd mt ⊢;rw[length_cons] at mt;by_cases Gd:2<=r.length
    .obtain⟨a,b,r',rfl⟩:∃a b r',r=a::b::r':=by
      match r,Gd with
      |a::b::r',_=>exact⟨a,b,r',rfl⟩
     rw[show signOfL (List.take 2 (a::b::r'))=oV (sgO a b) from lX a b];rw[length_cons,length_cons] at mt;cases e:sgO a b with
     |none=>have k2:=k H' sm;rw[hu,hd,zi e] at k2;exact k2
     |some d=>rw[if_neg (by intro z;cases z)];refine⟨⟨_,SqL.of Cl⟩,dn.map one,Cl,Fn,`L - (p+3),`l,p+3,dn++[d],_,_,rfl,rfl,`l,by rw[length_append,length_singleton];lia,?_,BT _,zv hu hd e⟩;rw[aB];exact congrArg (λz=>some (HO.lst z)) (lm dn d)
    .have Fr:r.length < 2:=by lia
     have k2:=k H' sm;rw[hu,hd,zj Fr] at k2;rw[show signOfL (List.take 2 r)=V.non from lU (by rw[length_take];lia)];exact k2
   .have dl:c≠126:=λz=>h2 (by rw[z]);refine⟨a9 `l,?_⟩;rw[show ((p:Int)+1)=((p+1:Nat):Int) by lia,eG,show p+1 - p=1 by lia,hd,List.take_succ_cons,take_zero];refine c_sw.mpr ⟨`s,λd Ga=>?_,.inr rfl,?_⟩
    .rw[mem_singleton.mp Ga];exact ha c (mem_of_getElem? hc)
    rw[lh dl];by_cases hb:(isPl c || decide (c∈fr))=true
    .rw[if_pos hb,if_neg (by intro z;cases z)];refine⟨⟨_,SqL.of Cl⟩,dn.map one,Cl,Fn,`L - (p+1),`l,p+1,dn++[c],_,_,rfl,rfl,`l,by rw[length_append,length_singleton];lia,?_,BT _,zw hu hd dl hb⟩;rw[aB];exact congrArg (λz=>some (HO.lst z)) (lm dn c)
    .rw[if_neg hb,if_pos rfl];have k2:=k H' sm;rw[hu,hd,zk dl hb] at k2;exact k2
  .have Ge:p=`L:=by lia
   rw[Ge,drop_length,lY] at hu;have Gc:und fr l=some dn:=by rw[hu];simp
   refine⟨dn.map λc=>⟨[c].toArray⟩,SqL.of (by rw[Cl,map_map];rfl),?_,?_⟩
   .rw[lj];simp only[length_map,length_nil,Nat.mul_zero,Nat.add_zero];lia
   .rw[iH,li];have k2:=k H' sm;rw[Gc] at k2;exact k2
theorem k6:g.E8.Ok P w base 4 (sp_show K):=by
 refine lnF tG ?_;rintro Fr A mt s H vs Q E hr ⟨x,v,rfl,hI,wf,sz,xq,xm,k⟩
 exists tG.nd,Ft,uE,EW,Fu,jt,g.jO,g.fQ,g.cN,g.fR,g.jP,g.dA,hint 0 105
 obtain⟨p,w,q,rfl,hp,BT,i4⟩:=bR hI;obtain⟨pw,ps,rfl,hw,hs⟩:=cq BT;rw[xq] at i4;have hq:q=.non:=by cases i4;rfl
 subst hq;rw[xm] at hp;have hp:SqT K H p [.str ⟨x.scheme.toArray⟩,otV x.house,itV x.door,.ref pw,.non,.non]:=hp;rw[Ad.shw,xq,xm] at k;have Cl:x.shw=schT x.scheme++(houT x.house++(dooT x.door++x.wayT)):=by rw[Ad.shw,xq,xm];simp[queT,oT]
 have dl:=sz.all;rw[Cl] at dl;simp only[length_append] at dl;have c1:ofString ":"=⟨[58].toArray⟩:=by fail "k"
 rw[c1];fail "r";refine⟨λZ H'=>H'=H/\Z=[some (.ref p),some (.str ⟨(schT x.scheme).toArray⟩)],?_,?_⟩
 .refine⟨p,x.scheme,_,rfl,hp,_,rfl,?_⟩;by_cases hh:x.scheme=[]
  .refine ite2 (λz=>absurd hh (by simpa using z)) (λ_=>⟨rfl,?_⟩);rw[hh];rfl
  .refine ite2 (λ_=>?_) (λz=>absurd hh (by simpa using z));have e:schT x.scheme=x.scheme++[58]:=by simp[schT,hh]
   refine⟨_,_,.inr hp,rfl,?_⟩;rw[show (⟨#[58]⟩:Str)=⟨[58].toArray⟩ from rfl];fail "r";rw[e,length_append] at dl;refine⟨a9 (by simp at dl ⊢;lia),?_⟩;rw[e]
 rintro Z H' ⟨rfl,rfl⟩;fail "r";refine⟨_,_,.inr hp,rfl,_,_,.inr hp,rfl,x.house,x.door,rfl,λl e=>⟨(wf.hou l e).1.2,(wf.hou l e).2⟩,wf.doo,λH1 s1=>?_⟩;fail "r";refine⟨a9 (by simp;lia),_,_,.inr (s1.tup hp),rfl,x.rooted,x.ends,x.steps,pw,ps,rfl,s1.tup hw,s1.tup hs,λs h=>⟨sz.stp s h,(wf.stp s h).2⟩,sz.num,by show x.wayT.length<=90000;lia,λH2 s2=>?_⟩;fail "r";refine⟨a9 (by show _+x.wayT.length<=_;simp;lia),_,_,.inr ((s1.trans s2).tup hp),rfl,rfl,?_⟩;fail "r";have Fn:(schT x.scheme++(houT x.house++dooT x.door)++wayT x.rooted x.steps x.ends).length<=100000:=by simp only[length_append,Ad.wayT] at dl ⊢;lia
 refine⟨a9 `l,_,_,.inr ((s1.trans s2).tup hp),rfl,rfl,?_⟩;fail "r";refine⟨a9 `l,?_⟩;have:=k H2 (s1.trans s2);simpa [Ad.wayT,queT,oT] using this
theorem uH:g.q0.Ok P w base 4 (sp_with_way_gone K):=by
 refine lnF tH ?_;rintro Gb A dl s H vs Q E hr ⟨x,v,rfl,hI,hn,k⟩
 nomatch (aC (aI (aU (cH (K:=K) rfl) (aU (cH (K:=K) rfl) (bJ (ba (K:=K) rfl) (pv 0) bH (bI `D)) `D) (bJ (ba (K:=K) rfl) (pv 0) (bI `D) bH)))),tH.nd,uF,g.cN,hint 2 0,g.fR
 obtain⟨p,w,q,rfl,hp,hw,hq⟩:=bR hI;fail "r";refine⟨_,hp,λp1 H1 s1 Fr=>⟨_,_,.inr (s1.tup hp),rfl,?_⟩⟩;refine⟨x.w,w,rfl,hw.mono s1,hn,λu H2 s2 hu=>⟨`d,λp3 H3 Ga s3 Fn=>⟨_,_,(s2.trans s3).tup Fr,.of Fn,(show 4<=sizeLine by decide),λp4 H4 s4 Cl=>⟨_,(((s1.trans s2).trans s3).trans s4).tup hp,λp5 H5 s5 BT=>⟨_,_,s5.tup Cl,BT,(show 6<=sizeLine by decide),λp6 H6 s6 mt=>?_⟩⟩⟩⟩⟩;have sm:Same H H6:=((((s1.trans s2).trans s3).trans s4).trans s5).trans s6;exact k _ H6 sm (adK (x:=x.gone) mt (hu.mono (((s3.trans s4).trans s5).trans s6)) (hq.mono sm))
theorem FC:g.E9.Ok P w base 4 (sp_holder K):=by
 refine lnF tI ?_;rintro Cl A dl s H vs Q E hr ⟨w,v,rfl,hI,hn,k⟩
 nomatch (a8 `D
   (aC (aI (bG `D `D (bJ (ba (K:=K) rfl) `D bH (bI `D)))))),tI.nd,uF,g.cO,g.cA
 fail "r";refine⟨w,v,rfl,hI,hn,λu H1 s1 hu=>?_⟩;obtain⟨pw,ps,rfl,hw,mt⟩:=cq (K:=K) (r:=(goneV w).1) (e:=(goneV w).2.2) (ss:=(goneV w).2.1) hu;fail "r";refine⟨_,_,.inr hw,rfl,_,rfl,?_⟩;cases he:(goneV w).2.2 with
 |true=>rw[if_pos rfl];refine⟨_,_,.inr hw,rfl,k ps H1 s1 ?_⟩;rw[holder,if_pos he];exact mt
 |false=>rw[if_neg `d];refine⟨_,_,.inr hw,rfl,?_⟩;fail "r";refine⟨_,mt,λp2 H2 s2 BT=>k p2 H2 (s1.trans s2) ?_⟩;rw[AQ,mZ] at BT;rw[holder,if_neg (by rw[he];decide)];exact BT
theorem FD:g.qA.Ok P w base 4 (sp_is_piece K):=by
 refine lnF tJ ?_;rintro mt A dl s H vs Q E hr ⟨c,v,rfl,hv,ok,hn,k⟩
 nomatch (a8 `D
   (a8 `D
   (a8 `D
   (aC (aI (bW (cZ (bz (K:=K) rfl) `D (bE (v:=.ref g.gQ) rfl g.rF rfl) (by with_unfolding_all rfl)) (bW `D (be `D)))))))),tJ.nd,uB,u0,Fv,ju,Fs,g.aw,g.ak,g.aK,g.bK
 obtain⟨p,rfl,hp⟩:=j2 hv.is;have i0:=hv.is;have hq:SqT K H p c.vals:=.of hp;fail "r";refine⟨_,L2.cj hp,ite2 (λz=>absurd z `d) (λ_=>⟨_,.inr hq,ite2 (λz=>absurd z (by show ¬ (((_+1:Nat):Int)=0);lia)) (λ_=>⟨_,_,.inr hq,c.at0,⟨_,L2.cg,ite2 (λz=>absurd z `d) (λ_=>⟨_,_,.inr hq,c.at0,aF.mpr ⟨_,rfl,?_⟩⟩)⟩⟩)⟩)⟩;rw[eh];rcases CQ c with⟨s,rfl⟩|⟨a,n,t,rfl⟩|⟨h1,h2,h3,h4⟩
 .refine ite2 (λ_=>⟨_,_,_,rfl,i0,_,rfl,ite2 (λ_=>⟨_,_,.inr hq,a7 (j:=1) rfl,_,_,rfl,.str _,j5 (by have:=ok.2.1;lia),λH1 s1=>⟨_,rfl,ite2 (λ_=>⟨_,_,.inr (s1.tup hq),a7 (j:=1) rfl,s,rfl,_,rfl,?_⟩) (λz=>absurd ?_ z)⟩⟩) (λz=>absurd (fH (n:=2).mpr rfl) z)⟩) `a
  .rw[ok.2.2.2];exact k H1 s1
  .show (s.all isSg && decide (0 < (mkS s).length))=true;rw[aE,decide_eq_true ok.1,all_eq_true.mpr ok.2.2.1];rfl
 .refine ite2 `E (λ_=>⟨_,_,.inr hq,a7 (j:=0) rfl,aF.mpr ⟨_,rfl,ite2 (λ_=>⟨_,_,_,rfl,i0,_,rfl,ite2 (λ_=>⟨_,_,.inr hq,a7 (j:=2) rfl,n,rfl,hn rfl,λH1 s1=>⟨_,rfl,ite2 (λ_=>⟨_,_,.inr (s1.tup hq),a7 (j:=1) rfl,_,_,.inr (s1.tup hq),a7 (j:=3) rfl,a,t,rfl,ok.1,ok.2.1,ok.2.2.1,ok.2.2.2.1,ok.2.2.2.2,λH2 s2=>k H2 (s1.trans s2)⟩) `a⟩⟩) (λz=>absurd (fH (n:=4).mpr rfl) z)⟩) (λz=>absurd (decide_eq_true rfl) z)⟩⟩)
 .have hw:c.vals=[.str c.kw,tV c.name]:=by unfold Pc.vals;rw[h3]
  rw[hw] at hq;rw[h1];refine ite2 `E (λ_=>⟨_,_,.inr hq,a7 (j:=0) rfl,aF.mpr ⟨_,rfl,?_⟩⟩);rw[av,h2];refine ite2 `E (λ_=>⟨_,_,.inr hq,a7 (j:=0) rfl,_,kwN.map V.str,rfl,.inr (bb (ss:=kwN) (g.rG H)),rfl,rfl,_,rfl,?_⟩);rw[if_neg (show ¬ false=true by decide),ai];exact ite2 (λ_=>⟨_,_,_,rfl,i0,_,rfl,ite2 (λ_=>⟨_,_,.inr hq,a7 (j:=1) rfl,_,rfl,hn h1,k⟩) (λz=>absurd (by cases c <;> first|exact fH (n:=2).mpr rfl|cases h2) z)⟩) (λz=>absurd (decide_eq_true h4) z)
theorem uI:g.Ea.Ok P w base 4 (sp_show_pattern K):=by
 refine lnF tK ?_;rintro Fn A dl s H vs Q E hr ⟨cs,e,p,q,xs,rfl,hp,hq,hA,hl,ok,k⟩
 nomatch (aC (aI (aV g.jI (u3 g) hr rfl (a6 di (a6 (cmp1 [] [] (bu (K:=K) rfl `D) ae (aV g.pj (Fx g) hr rfl (a6 (pv 0) aA))) (a6 `D aA)))))),tK.nd,g.dC,g.bi
 fail "r";have Cl:=hA.length;refine⟨_,_,.inr hp,a7 (j:=0) rfl,q,rfl,⟨xs,hq⟩,λpl nl=>?_⟩;refine lK (zs:=(cs.map pcT).map λl=>V.str `A) hq (a9 `l) nl (by rw[length_map,length_map,Cl]) (λi x z hx hz H1 T s1 hT=>?_) (λH1 s1 BT=>?_)
 .rw[List.getElem?_map,List.getElem?_map] at hz;obtain⟨c,pc,hc,rfl,mt⟩:=hA.get hx;rw[hc] at hz;cases hz;obtain⟨o1,o2⟩:=ok c (mem_of_getElem? hc);fail "r";exact⟨c,pc,rfl,s1.tup mt,o1,o2,hT⟩
 .refine⟨_,_,.inr (s1.tup hp),a7 (j:=1) rfl,true,e,pl,cs.map pcT,rfl,.of BT,?_,k _ s1⟩;have:=(bB 47 700 (ws:=cs.map pcT) λw hw=>by
   obtain⟨c,hc,rfl⟩:=mem_map.mp hw;obtain⟨o1,o2⟩:=ok c hc;exact cy o1 o2).1
  rw[length_map] at this;lia
theorem uJ:g.qB.Ok P w base 4 (sp_fits K):=by
 refine lnF tL ?_;rintro Gi A Fn s H vs Q E hr ⟨cs,xs,p,q,pw,ps,cl,r,e,ss,rfl,hp,hq,hx,hn,hz,hw,Ga,Gd,Ge,k⟩
 nomatch (a8 `D
   (ac `D
   (a8 `D
   (aC (aI (bq (cf (K:=K) rfl rfl) rfl g.dD.1 PyProof.Rows.boot_all (a6 (cmp2 K [] [] (eg (K:=K) rfl rfl g.dF.1 (a6 (pv 3) (a6 (pv 2) aA))) ae (aV g.jK (jy g) hr rfl (a6 (pv 0) (a6 (pv 1) aA)))) aA))))))),tL.nd,uC,g.cO,g.dC,g.dB,g.aK,g.cA
 fail "r";refine⟨_,_,.inr hw,a7 (j:=1) rfl,?_⟩;refine⟨λZ H1=>Same H H1/\((spreadM cs ss.length=none/\Z=[some (.ref p),some (.ref pw),some (.ref ps),some .non])\/Ex3 λ(ds:List Pc) (ys:`V) (r':Addr)=>spreadM cs ss.length=some ds/\SqT K H1 r' ys/\PcAll K H1 ds ys/\Z=[some (.ref p),some (.ref pw),some (.ref ps),some (.ref r')]),?_,?_⟩
 .fail "r";refine⟨_,.inr Ga,?_⟩;rw[length_map];exact⟨cs,xs,p,q,cl,ss.length,rfl,hp,hq,hx,hn,Gd,λh=>⟨Same.refl _,.inl ⟨h,rfl⟩⟩,λds ys r' H1 h s1 h1 h2=>⟨s1,.inr ⟨ds,ys,r',h,h1,h2,rfl⟩⟩⟩
 rintro Z H1 ⟨s1,⟨h0,rfl⟩|⟨ds,ys,r',h0,Fr,hy,rfl⟩⟩
 .fail "r";have e:fitsP cs cl r ss e=false:=by unfold fitsP;rw[h0]
  rw[e] at k;exact k H1 s1
 have ef:fitsP cs cl r ss e=(r && decide (e=cl) && (List.zipWith fitsM ds ss).all id):=by unfold fitsP;rw[h0]
 have Gc:=s1.tup hw;have Gh:=s1.tup hp;have Cl:=s1.tup Ga;fail "r";refine⟨_,_,.inr Gc,a7 (j:=0) rfl,r,rfl,?_⟩;cases r with
 |false=>refine ite2 (λ_=>?_) `a;rw[ef] at k;exact k H1 s1
 |true=>
  refine ite2 `E (λ_=>?_);refine⟨_,_,.inr Gc,a7 (j:=2) rfl,_,_,.inr Gh,a7 (j:=1) rfl,?_⟩;refine L2.i7.mpr ⟨_,rfl,?_⟩;by_cases BT:e=cl
  .rw[decide_eq_true BT] at ef;refine ite2 (λz=>by rw[decide_eq_true BT] at z;cases z) (λ_=>?_);refine⟨r',ps,ys,ss.map tV,`R,Fr,Cl,λpc nc=>?_⟩;have Gg:=hy.length;have hdl:=o0 h0;refine nW (zs:=(List.zipWith fitsM ds ss).map V.bl) Fr Cl (a9 (by rw[length_map,length_zipWith];lia)) nc (by rw[length_map,length_zipWith,length_map,Gg]) (λi x y z Gb dl mt H2 T s2 hT=>?_) (λH2 s2 e2=>?_)
   .obtain⟨c,p',hc,rfl,Gf⟩:=hy.get Gb;obtain⟨s,hs,rfl⟩:∃s,ss[i]?=some s/\tV s=y:=by
     rw[List.getElem?_map] at dl;cases hs:ss[i]? with
     |none=>rw[hs] at dl;cases dl
     |some s=>rw[hs] at dl;exact⟨s,rfl,by simpa using dl⟩
    have mt:V.bl (fitsM c s)=z:=by rw[List.getElem?_map,List.getElem?_zipWith,hc,hs] at mt;simpa using mt
    subst mt;obtain⟨z1,z2⟩:=hz c (BQ h0 c (mem_of_getElem? hc));fail "r";exact⟨c,s,p',rfl,s2.tup Gf,Ge s (mem_of_getElem? hs),z1,z2,hT⟩
   .refine⟨pc,_,rfl,.of e2,?_⟩;rw[ef] at k;exact k H2 (s1.trans s2)
  .rw[decide_eq_false BT] at ef;refine ite2 (λ_=>?_) (λz=>by rw[decide_eq_false BT] at z;exact absurd rfl z);rw[ef] at k;exact k H1 s1
theorem FE:g.Eb.Ok P w base 4 (sp_fitting_texts K):=by
 refine lnF tM ?_;rintro Gb A dl s H vs Q E hr ⟨c,p,rfl,hp,hz,k⟩
 nomatch (ac `D
   (aC (aI (cmp1 ["piece"] [0] (b9 (K:=K) rfl (pv 1)) (bt (af (aV g.jK (jy g) hr rfl (a6 (pv 1) (a6 (pv 0) aA))))) (pv 0))))),tM.nd,gd,dX,dW,u5,hint 2 0
 fail "r";refine⟨λZ H1=>Same H H1/\Ex2 λ(l:Addr) (ts:List Tq)=>Z=[some (.ref p),some (.ref l)]/\H1 l=some (.lst (ts.map tV))/\ts.filter (fitsM c)=fitT c/\(∀t∈ts,`t<=90000)/\ts.length<=4,⟨c,p,rfl,hp,_,rfl,?_⟩,?_⟩
 .cases hst:c.isStep with
  |true=>
   refine ite2 (λz=>absurd z `d) (λ_=>?_);cases c with
   |step w=>exact⟨_,_,.inr hp,a7 (j:=1) rfl,`d,λp1 H1 n1 s1 Cl=>⟨s1,p1,[w],rfl,Cl,rfl,λt ht=>by rw[mem_singleton.mp ht];have:=hz.2.2 w rfl;lia,(show 1<=4 by decide)⟩⟩
   |_=>cases hst
  |false=>
   refine ite2 (λ_=>?_) `a;refine⟨c,p,rfl,hp,c,p,rfl,hp,c.head,c.tail,rfl,hz.1,hz.2.1,λl H1 s1 hl=>⟨s1,l,trialsM c.head c.tail,rfl,hl,?_,λt ht=>?_,(show 4<=4 by decide)⟩⟩
   .cases c with
    |step w=>cases hst
    |_=>rfl
   .obtain⟨x,_,rfl⟩:=mem_map.mp ht;have:=hz.1;have:=hz.2.1;simp only[length_append,length_singleton];lia
 rintro Z H1 ⟨s1,l,ts,rfl,hl,hf,mt,Fn⟩;fail "r";refine⟨⟨_,.of hl⟩,λp2 n2=>?_⟩;have Fr:∀t,(match tV t with|.str s=>fitsM c s.cps.toList|_=>false)=fitsM c t:=λt=>rfl;refine BL (λv=>match v with|.str s=>fitsM c s.cps.toList|_=>false) (λv=>v) (.of hl) (by rw[length_map];exact a9 `l) n2 (λi x hx H2 R s2 hR=>?_) (λi x hx Ga H2 T s2 hT=>?_) (λH2 s2 BT=>?_)
 .rw[List.getElem?_map] at hx;obtain⟨t,ht,rfl⟩:=Option.map_eq_some_iff.mp hx;have htm:=mt t (mem_of_getElem? ht);have h1:=hz.1;have h2:=hz.2.1;fail "r";exact⟨c,t,p,rfl,(s1.trans s2).tup hp,`l,`l,`l,λH3 s3=>⟨_,rfl,hR H3 s3⟩⟩
 .fail "r";exact hT H2 `r
 .refine k p2 H2 (s1.trans s2) ?_;rw[BT,<- hf,map_id',filter_map];rfl
theorem FF:g.Ec.Ok P w base 4 (sp_taken_scheme K g.aN):=by
 refine lnF jk ?_;rintro Fr A Cl s H vs Q E hr ⟨p,t,rfl,dl,hl,k⟩
 nomatch (a8 (sx 1 jk.nd (px K (aW (K:=K) rfl PySem.F.plainAttrs_str PySem.F.slot_str_partition PySem.F.type_str_partition cr `D (a6 aJ aA)) aZ))
   (a8 (aL (PW.pt (ao `D (ao `D (bF (b0 (af (aT (pv 0) g.aQ g.bd (bo g) (hr.mono `d) g.bc .nil pass0 (a6 `D aA))))))))
    `D aO)
   (aC `D))),jk.nd,Fq
 have e1:ofString ":"=⟨[58].toArray⟩:=by fail "k"
 rw[e1];fail "r";refine cJ dl g.aQ g.bj ⟨rfl,mq.mpr ⟨`d,a9 (show `t<=100000 by lia),λq hq=>?_⟩⟩;rw[show (⟨#[58]⟩:Str)=⟨[58].toArray⟩ from rfl,Bb];have mt:=aM (o:=.tup [.str ⟨(ahead t).toArray⟩,.str (Txt.partition ⟨t.toArray⟩ ⟨[58].toArray⟩).2.1,.str (Txt.partition ⟨t.toArray⟩ ⟨[58].toArray⟩).2.2]) hq;have Fn:(upd H q (.tup [.str ⟨(ahead t).toArray⟩,.str (Txt.partition ⟨t.toArray⟩ ⟨[58].toArray⟩).2.1,.str (Txt.partition ⟨t.toArray⟩ ⟨[58].toArray⟩).2.2])) q=some (.tup [.str ⟨(ahead t).toArray⟩,.str (Txt.partition ⟨t.toArray⟩ ⟨[58].toArray⟩).2.1,.str (Txt.partition ⟨t.toArray⟩ ⟨[58].toArray⟩).2.2]):=aB;generalize upd H q (.tup [.str ⟨(ahead t).toArray⟩,.str (Txt.partition ⟨t.toArray⟩ ⟨[58].toArray⟩).2.1,.str (Txt.partition ⟨t.toArray⟩ ⟨[58].toArray⟩).2.2])=H1 at mt Fn ⊢;have c1:=dl.same mt;have hal:=Bm t;fail "r";refine⟨_,_,.inr (.of Fn),rfl,?_⟩;rw[L2.aF];refine⟨_,rfl,?_⟩;by_cases h1:ahead t=[]
 .rw[decide_eq_true (by rw[h1]),if_pos rfl];obtain⟨z1,z2⟩:=ee (t:=t) (λz=>z.1 h1);have:=k H1 mt.but (by rw[z2];exact c1);rw[z1] at this;exact this
 rw[decide_eq_false (λz=>h1 (bg.mp z)),if_neg `d];refine⟨.str ⟨(ahead t).toArray⟩,_,rfl,.str _,by simp[smallD,Str.length];lia,λH2 s2=>⟨_,rfl,?_⟩⟩;have c2:=c1.same s2;have BT:=mt.trans s2;cases h2:schD (.str ⟨(ahead t).toArray⟩) with
 |false=>rw[if_pos rfl];obtain⟨z1,z2⟩:=ee (t:=t) (λz=>by rw[h2] at z;cases z.2.1);have:=k H2 BT.but (by rw[z2];exact c2);rw[z1] at this;exact this
 |true=>
  rw[if_neg `d];refine aX c2 ?_;rw[show (⟨#[58]⟩:Str)=⟨[58].toArray⟩ from rfl];fail "r";refine⟨a9 (by simp;lia),?_⟩;by_cases h3:t[(ahead t).length]?=some 58
  .obtain⟨z1,z2⟩:=nI h1 h2 h3;have ht:=(nH t).mpr h3;refine dY (w:=ahead t++[58]) (r:=t.drop (ahead t++[58]).length) c2 (Nat.zero_le _) `l ?_ λH3 s3 c3 _ _=>⟨_,rfl,?_⟩
   .rw[drop_zero]
    conv=>lhs;rw[<- take_append_drop (ahead t++[58]).length t,ht]
   rw[if_neg `d];have:=k H3 (BT.but.trans s3) (by rw[z2];rw[Nat.zero_add] at c3;exact c3);rw[z1] at this;exact this
  .obtain⟨z1,z2⟩:=ee (t:=t) (λz=>h3 z.2.2);refine jw (w:=ahead t++[58]) c2 (Nat.zero_le _) `l (by rw[drop_zero];exact λz=>h3 ((nH t).mp z)) ⟨_,rfl,?_⟩;rw[if_pos rfl];have:=k H2 BT.but (by rw[z2];exact c2);rw[z1] at this;exact this
theorem ge:FnOk P w K mg base CX0 4 g.gA g.dI ["cursor","free","most"] (sp_taken_text K g.aN):=by
 refine lnT (g.cP.ok tN) ?_;rintro Gs A Gf s H vs Q E hr ⟨p,t,fr,s,w',r,i,mo,rfl,Ga,hi,hl,Gb,Gr,hd,hw,Gh,Go,k⟩
 nomatch (a8 `D
   (a8 `D
   (a8 (gj PassesOwn.never (PW.pt (dm `D (dk (af (aT (pv 0) g.aQ g.jW (uD g) (hr.mono `d) g.jS .nil pass0 (a6 (pv 4) aA))))))
   (aC (bf (aW (K:=K) rfl PySem.F.plainAttrs_list PySem.F.slot_list_append PySem.F.type_list_append dv (pv 3) (a6 (bG (af (aT (pv 0) g.aQ g.bd (bo g) (hr.mono `d) g.bc .nil pass0 (a6 aJ aA))) `D (ca (pv 0) g.aQ g.gP (jv g) (hr.mono `d) g.fi .nil pass0)) aA)))))
   (aC `D)))),tN.nd,Fy,g.aK,g.fO
 have eP:pO=.str ⟨plS.toArray⟩:=by show V.str (ofString _)=_;unfold plS;simp
 rw[eP];fail "r";refine⟨`d,λq hq=>⟨a9 (by rw[my];lia),a9 (by rw[length_append,my];lia),?_⟩⟩;have Cl:q≠p:=by obtain⟨dx,hp⟩:=Ga;exact (aG hp hq).symm
 refine dw (λm Z H'=>Ex4 λ(dn s' u w2:Tq)=>m=s'.length/\Z=[some (.ref p),some (.str ⟨fr.toArray⟩),some (moV mo),some (.ref q),some (.str ⟨(plS++fr++[126]).toArray⟩)]/\s=dn++s'/\w'=u++w2/\WrT fr s' w2/\H' q=some (.lst (dn.map one))/\SameBut p H H'/\Cur H' g.aN p t (i+u.length)) s.length ⟨[],s,[],w',rfl,rfl,rfl,rfl,hw,aB,(aM hq).but,?_⟩ ?_
 .obtain⟨dx,hp⟩:=Ga;exact⟨dx,by rw[aD Cl.symm];exact hp⟩
 rintro m Z H' ⟨dn,s',u,w2,rfl,rfl,es,ew,Gg,mt,sb,dl⟩;have BT:t.drop (i+u.length)=w2++r:=by rw[<- drop_drop,hd,ew,append_assoc,drop_left]
 have Gj:dn.length+s'.length=s.length:=by rw[es,length_append]
 have Gm:i+w'.length<=`t:=by have:=congrArg List.length hd;rw[length_drop,length_append] at this;lia
 have hk:i+u.length<=`t:=by rw[ew,length_append] at Gm;lia
 have hsl:=eY hw;have Fr:(dn.map one).length < sizeLine:=by rw[length_map];exact Nat.lt_of_le_of_lt (show dn.length<=100000 by lia) `d
 have Gk:s'=[]->∃ys:List Str,SqL K H' q (ys.map V.str)/\(ys.map λx=>x.length).sum+ys.length * 0<=16777216/\Q (V.str (Txt.join ⟨#[]⟩ ys)) H':=λe=>by
  subst e;cases Gg;rw[append_nil] at es ew;refine⟨dn.map λc=>⟨[c].toArray⟩,SqL.of (by rw[mt,map_map];rfl),?_,?_⟩
  .rw[lj];simp only[length_map,Nat.mul_zero,Nat.add_zero];lia
  .rw[show (⟨#[]⟩:Str)=⟨([]:Tq).toArray⟩ from rfl,iH,li];rw[es,ew] at k;exact k H' sb dl
 fail "r";refine CU (A:=s'=[]->Stops fr r) (λGn=>?_) (λz _=>Gh.resolve_right λy=>by rw[y] at z;cases z) (λz Gc=>?_)
 .cases Gg with
  |nil=>
   have hn:∀c,t[i+u.length]?=some c->c∉plS++fr++[126]:=λc hc hin=>by
    have hr:r.head?=some c:=by rw[<- hc,<- List.head?_drop,BT];rfl
    obtain⟨z1,z2,z3⟩:=Gn rfl c hr;have Gi:=Gb c (mem_of_getElem? hc);rcases mem_append.mp hin with hin|hin
    .rcases mem_append.mp hin with hin|hin
     .rw[(eX Gi).mp hin] at z1;cases z1
     .exact z2 hin
    .exact z3 (mem_singleton.mp hin)
   have hb:seesB t (plS++fr++[126]) (i+u.length)=false:=by
    cases hc:t[i+u.length]? with
    |none=>exact mz hc
    |some c=>rw[cu hc];exact decide_eq_false (hn c hc)
   refine aX dl ⟨p,t,_,i+u.length,rfl,dl,hk,hl,_,rfl,?_⟩;rw[hb,if_neg `d];exact Gk rfl
  |self hpl hne hw3=>
   rename_i c s3 w3;obtain⟨hx,Gi⟩:=n0 (show t.drop (i+u.length)=c::(w3++r) from BT);have hc:=Gb c (mem_of_getElem? hx);have hin:c∈plS++fr++[126]:=mem_append.mpr (.inl (mem_append.mpr (hpl.imp (eX hc).mpr id)));refine aX dl ⟨p,t,_,i+u.length,rfl,dl,hk,hl,_,rfl,?_⟩;rw[cu hx,decide_eq_true hin,if_pos rfl];refine⟨_,λ_ _ h=>h,⟨_,.of mt⟩,aX dl ⟨p,t,[126],i+u.length,rfl,dl,hk,hl,λFn=>?_,λ_=>⟨_,rfl,?_⟩⟩⟩
   .rw[BT] at Fn;exact absurd (List.cons.inj Fn).1 hne
   rw[if_neg `d];refine aX dl ⟨p,t,i+u.length,c,rfl,dl,hx,hl,λH1 s1 c1=>⟨_,s1 _ _ Cl mt,Fr,s3.length,Nat.lt_succ_self _,dn++[c],s3,u++[c],w3,rfl,rfl,by rw[es,append_assoc];rfl,by rw[ew,append_assoc];rfl,hw3,?_,?_,?_⟩⟩
   .rw[aB,map_append];rfl
   .exact (sb.trans s1).upd hq
   .obtain⟨dx,Gd⟩:=c1;rw[length_append,length_singleton,<- Nat.add_assoc];exact⟨dx,by rw[aD Cl.symm];exact Gd⟩
  |pair hsg hw3=>
   rename_i c a b s3 w3;obtain⟨hx,Gi⟩:=n0 (show t.drop (i+u.length)=126::(a::b::(w3++r)) from BT);have hin:126∈plS++fr++[126]:=mem_append.mpr (.inr (mem_singleton.mpr rfl));refine aX dl ⟨p,t,_,i+u.length,rfl,dl,hk,hl,_,rfl,?_⟩;rw[cu hx,decide_eq_true hin,if_pos rfl];refine⟨_,λ_ _ h=>h,⟨_,.of mt⟩,aX dl ⟨p,t,[126],i+u.length,rfl,dl,hk,hl,λ_ H1 s1 c1=>⟨_,rfl,?_⟩,λFn=>?_⟩⟩
   .rw[if_pos rfl];have Gq:t.drop (i+u.length+1)=a::b::(w3++r):=by rw[<- drop_drop,BT];rfl
    refine⟨p,t,w3++r,i+u.length+1,a,b,c,rfl,c1,Gq,hsg,hl,λH2 s2 c2=>⟨_,(s1.trans s2) _ _ Cl mt,Fr,s3.length,Nat.lt_succ_self _,dn++[c],s3,u++[126,a,b],w3,rfl,rfl,by rw[es,append_assoc];rfl,by rw[ew,append_assoc];rfl,hw3,?_,?_,?_⟩⟩
    .rw[aB,map_append];rfl
    .exact ((sb.trans s1).trans s2).upd hq
    .obtain⟨dx,Gd⟩:=c2;rw[length_append,show [126,a,b].length=3 from rfl,show i+(u.length+3)=i+u.length+1+2 by lia];exact⟨dx,by rw[aD Cl.symm];exact Gd⟩
   .rw[BT] at Fn;exact absurd rfl Fn
 .cases mo with
  |none=>exact absurd rfl z
  |some m=>have hm:=Go m rfl;refine⟨_,.inl (.of mt),?_⟩;show rI0 (λi j=>V.bl (decide (i < j))) (V.int _) (V.int (m:Int)) H' _;fail "r";refine ite2 (λGe=>Gc λe=>Gh.resolve_right λz=>by have:=Option.some.inj z;rw[length_map] at Ge;rw[e] at Gj;simp at Gj;lia) (λGp=>Gk ?_);rw[length_map] at Gp;exact length_eq_zero_iff.mp `l
theorem FG:g.Ed.Ok P w base 4 (sp_worth_most K):=by
 refine lnF tP ?_;rintro Gi A BT s H vs Q E hr ⟨l,b,L,ws,rfl,hl,hT,Ga,hL,k⟩
 exists tP.nd,Fz,hint 4 0
 fail "r";have Gh:=hT.length;rw[length_cons] at Gh;obtain⟨v0,Cl⟩:∃v,ws[0]?=some v:=⟨_,List.getElem?_eq_getElem `l⟩;obtain⟨r0,Ge,Gd⟩:=hT.get Cl;cases Ge;refine⟨_,_,.inl (.of hl),a7 (j:=0) Cl,_,.of hl,λp1 H1 n1 s1 dl=>⟨⟨_,.of dl⟩,?_⟩⟩;rw[show (1:Int)=((1:Nat):Int) from rfl,ip] at dl;have Gg:TbV H1 L (ws.drop 1):=(hT.drop 1).mono s1.toT;have mt:∀n:Nat,PcsOk (mostM mrR b (L.take n)).2.1:=λn=>Ga _ (by
  rcases mem_cons.mp (fC (mr:=mrR) (L.take n) b) with h|h
  .rw[h];exact mem_cons_self ..
  .exact mem_cons_of_mem _ (mem_of_mem_take h))
 refine cG (xs:=ws.drop 1) (λi Z H'=>Same H1 H'/\Ex2 λ(v:V) (v2:Option V)=>Z=[some (.ref l),some v,v2]/\RwAt H' (mostM mrR b (L.take i)) v) ⟨Same.refl _,v0,none,rfl,Gd.mono s1.toT⟩ (λi Z H' _ h=>.of (h.1 _ _ dl)) ?_ ?_
 .rintro i x Z H2 Gc ⟨s2,v,v2,rfl,hv⟩;obtain⟨r,hr,a1,p',rfl,Gb,q',ys,Fr,Fn,hy⟩:=Gg.get Gc;have hi:i < L.length:=(List.getElem?_eq_some_iff.mp hr).1;have et:L.take (i+1)=L.take i++[r]:=by rw[take_add_one,hr];rfl
  obtain⟨a2,p,rfl,Gf,q,xs,hp,hq,hx⟩:=id hv;have or:=Ga r (mem_cons_of_mem _ (mem_of_getElem? hr));have ob:=mt i;fail "r";refine⟨_,_,.inr (.of (s2 _ _ Gb)),a7 (j:=1) rfl,_,_,.inr (.of Gf),a7 (j:=1) rfl,?_⟩;refine⟨r.2.1,(mostM mrR b (L.take i)).2.1,ys,xs,p',q',p,q,_,_,rfl,.of (s2 _ _ Fr),.of (s2 _ _ Fn),(hy.mono s2.toT).all,.of hp,.of hq,hx.all,or.1,ob.1,λc hc=>(or.2 c hc).1.tx,λc hc=>(ob.2 c hc).1.tx,λH3 s3=>⟨_,rfl,?_⟩⟩;have em:mostM mrR b (L.take (i+1))=if moreM r.2.1 (mostM mrR b (L.take i)).2.1=true then r else mostM mrR b (L.take i):=by rw[et,oZ];rfl
  refine ite2 (λhm=>?_) (λhm=>?_)
  .refine⟨s2.trans s3,_,_,`R,?_⟩;rw[em,if_pos hm];exact⟨a1,p',rfl,(s2.trans s3) _ _ Gb,q',ys,(s2.trans s3) _ _ Fr,(s2.trans s3) _ _ Fn,hy.mono (s2.trans s3).toT⟩
  .refine⟨s2.trans s3,_,_,`R,?_⟩;rw[em,if_neg hm];exact hv.mono s3.toT
 .rintro Z H2 ⟨s2,v,v2,rfl,hv⟩;fail "r";rw[length_drop,show ws.length - 1=L.length by lia,take_length] at hv;exact k v H2 (s1.trans s2) hv
theorem FH:g.Ee.Ok P w base 4 (sp_shown_lead K):=by
 refine lnF tQ ?_;rintro Gc A dl s H vs Q E hr ⟨v,rfl,k⟩
 nomatch (a8 `D
   (aC (aI (aW (K:=K) rfl PySem.F.plainAttrs_str PySem.F.slot_str_join PySem.F.type_str_join (ce (K:=K) rfl) aJ (a6 (aU (al (K:=K)) `D (cmp2 K [] [] (b9 (K:=K) rfl `D) ae (aU (al (K:=K)) (aU (al (K:=K)) (pv 0) aJ) (aV g.pp (FA g) hr rfl (a6 (pv 1) aA))))) aA))))),tQ.nd,hint 2 0
 rcases k with⟨rfl,k⟩|⟨p,l,n,bs,ys,rfl,hp,hl,hB,Ga,Gb,BT,k⟩
 .fail "r";rw[show ofString "none"=mkS wNone by fail "k"];exact k
 .have hyl:=hB.length;fail "r";refine⟨_,_,.inr (.of hp),a7 (j:=0) rfl,`d,λp1 H1 n1 s1 Fn=>⟨_,_,.inr (.of (s1 _ _ hp)),a7 (j:=1) rfl,l,rfl,⟨_,.of (s1 _ _ hl)⟩,λp2 n2=>?_⟩⟩;have Fr:=hB.mono s1;refine C0 (λi=>prAt H1 ys i) (λ_=>true) (λi=>(((bs.map valT).map tV)[i]?).getD .non) (.of (s1 _ _ hl)) (a9 `l) n2 (λi x H2 hx s2=>?_) (λi hi H2 R s2 hR=>hR H2 `r) (λi hi ht H2 U s2 hU=>?_) (λH2 s2 mt=>?_)
  .obtain⟨b,q,w,h1,rfl,h3,h4⟩:=Fr.get hx;rw[o9 hx h3];exact⟨q,rfl,.of (s2 _ _ h3)⟩
  .have hx:ys[i]?=some ys[i]:=List.getElem?_eq_getElem hi;obtain⟨b,q,w,h1,h2,h3,h4⟩:=Fr.get hx;rw[h2] at hx;rw[o9 hx h3];rw[List.getElem?_map,List.getElem?_map,h1] at hU;obtain⟨b1,b2⟩:=BT b (mem_of_getElem? h1);have vl:=fK b2;fail "r";rw[show ofString "="=mkS [61] by fail "k"];refine⟨a9 (by rw[aE,length_singleton];lia),b.2,w,rfl,h4.mono s2,b2,λH3 s3=>?_⟩;rw[ah];refine bQ.mpr ⟨a9 (by rw[aE,aE,length_append,length_singleton];lia),?_⟩;rw[ah,append_assoc];exact hU H3 s3
  .have el:((List.range ys.length).filter λ_=>true).map (λi=>(((bs.map valT).map tV)[i]?).getD .non)=(bs.map valT).map tV:=by
    rw[List.filter_eq_self.mpr λ_ _=>rfl];refine List.ext_getElem? λi=>?_;by_cases hi:i < bs.length
    .rw[List.getElem?_map,List.getElem?_range `l];show some ((((bs.map valT).map tV)[i]?).getD .non)=_;rw[List.getElem?_map,List.getElem?_map,List.getElem?_eq_getElem hi];rfl
    .rw[List.getElem?_eq_none (by rw[length_map,length_range];lia),List.getElem?_eq_none (by rw[length_map,length_map];lia)]
   rw[el] at mt;refine .inl ⟨_,_,s2 _ _ Fn,mt,a9 (by rw[length_map,length_map,length_singleton];lia),λp3 H3 n3 s3 Cl=>?_⟩;have hj:=(bB 32 1400 (ws:=n::bs.map valT) λw hw=>by
    rcases mem_cons.mp hw with rfl|hw
    .lia
    .obtain⟨b,hb,rfl⟩:=mem_map.mp hw;obtain⟨b1,b2⟩:=BT b hb;have vl:=fK b2;unfold valT;rw[length_append,length_cons];lia).2
   rw[length_cons,length_map] at hj;refine⟨_,p3,(n::bs.map valT).map mkS,rfl,rfl,.of (by rw[map_map];exact Cl),?_,?_⟩
   .rw[map_map,length_map,length_cons,length_map,show ((λx:Str=>x.length) ∘ mkS)=(λx:Tq=>x.length) from funext λx=>aE x,show (ofString " ").length=1 by fail "k"];lia
   .rw[show ofString " "=mkS [32] by fail "k",eN];exact k H3 (s1.trans (s2.trans s3))
theorem uK:g.Ef.Ok P w base 4 (sp__law_drawn_way K):=by
 refine lnF jl ?_;rintro Gd A Cl s H vs Q E hr ⟨a,ns,s0,sg,rfl,hS,Gc,Gb,Ga,k⟩
 nomatch (a8 `D
   (a8 (cmpS ["_law_signs_here","_law_script","_law_start"] [2,0,1] 4 jl.nd (bX rfl g.bU.1 (a6 `D aA)) ae (aV g.pq (uG g) hr rfl (a6 (aV g.jJ (dh g) hr rfl (a6 (pv 2) (a6 (aU (al (K:=K)) (aU (al (K:=K)) (pv 3) aZ) (pv 0)) aA))) (a6 (pv 1) aA))))
   (aC (aI (bZ (a6 di (a6 `D (a6 (kD (pcm (dy hr.units) (pv 4) `D) (be `D)) aA)))))))),jl.nd,dh,hint 2 0,g.bK
 fail "r";refine⟨a,ns,s0,rfl,hS,rd_I.mpr ⟨`d,_,rfl,?_⟩⟩;generalize ns.getD s0 0=hd0;obtain⟨m,hm,em⟩:∃m:Nat,m<=6/\hd0 % 7=(m:Int):=⟨(hd0 % 7).toNat,`l,`l⟩;rw[em];refine⟨`l,`l,λp n=>?_⟩;rw[Int.toNat_natCast];refine nX (λi ys H'=>Same H H'/\∃ss:List Tq,ys=ss.map tV/\ss.length=i/\∀l∈ss,StOk l) (a9 `l) ⟨aM n,[],rfl,rfl,λl hl=>by cases hl⟩ (λi ys H2 T hi hJ mt hT=>?_) (λys H2 hJ mt=>?_)
 .obtain⟨s2,ss,rfl,hl,dl⟩:=hJ;fail "r";rw[show ((s0:Int)+1+(0+(i:Int)))=((s0+1+i:Nat):Int) by lia];refine⟨a,ns,s0+1+i,rfl,s2.seq hS,_,sg,rfl,Gc,Gb,Ga,λl H3 s3 ol=>?_⟩;refine hT (tV l) H3 (s3 _ _ mt) ⟨oM (s2.trans s3) n,ss++[l],by rw[map_append];rfl,by rw[length_append,hl];rfl,λz hz=>?_⟩;rcases mem_append.mp hz with y|y
  .exact dl z y
  .rw[mem_singleton.mp y];exact ol
 .obtain⟨s2,ss,rfl,hl,dl⟩:=hJ;fail "r";refine⟨_,.inl (.of mt),λt H3 s3 ht=>⟨`d,λp4 H4 n4 s4 Fr=>?_⟩⟩;have sh:SeqAt.shaped (.list (ss.map st))=true:=(layL (n:=0) λd hd=>by obtain⟨s,hs,rfl⟩:=mem_map.mp hd;exact LayAt.st (dl s hs).2.2.1).shaped `d;refine⟨_,.list [],.lst ((s3.trans s4) _ _ mt) (iu ss),.lst Fr .nil,sh,`d,_,rfl,?_⟩;have Fn:=(s2.trans s3).trans s4;have e0:PyData.eqv (.list (ss.map st)) (.list [])=decide (ss=[]):=by cases ss <;> rfl
  exact ite2 (λz=>⟨`d,λp5 H5 n5 s5 BT=>k p5 t _ ss H5 (Fn.trans s5) `l dl (λ_=>rfl) BT ((s4.trans s5) _ _ ht)⟩) (λz=>⟨⟨`d,`d⟩,`d,`d,λp5 H5 n5 s5 BT=>k p5 t _ ss H5 (Fn.trans s5) `l dl (λy=>absurd (by rw[e0];exact decide_eq_true y) z) BT ((s4.trans s5) _ _ ht)⟩)
theorem FI:g.Eg.Ok P w base 5 (sp_are_pieces K):=by
 refine lnF tR ?_;rintro Fr A dl s H vs Q E hr ⟨cs,e,xs,q,rfl,hq,hx,⟨ok,hn,nd,hl,_⟩,k⟩
 nomatch (a8 (aL (PW.pt (ao `D (bF (b0 (af (bq (cf (K:=K) rfl rfl) rfl g.dD.1 PyProof.Rows.boot_all (a6 (cmp1 [] [] (bu (K:=K) rfl (pv 0)) ae (aV g.qA (FD g) hr rfl (a6 (pv 0) aA))) aA)))))))
    `D aO)
   (aC `D)),tR.nd,Fw,EY,g.aK,g.qP
 fail "r";obtain⟨mt,Cl⟩:=j6 hx;rw[length_map] at mt;refine⟨_,.inr (.of hq),ite2 (λh=>absurd h `l) (λh=>⟨⟨_,.of hq⟩,λp1 n1=>?_⟩)⟩;refine nT (xs:=xs) (λi ys H'=>Same H H'/\ys=(List.replicate i true).map V.bl) (a9 `l) ⟨aM n1,rfl⟩ (λi ys H2 hJ=>.of (hJ.1 _ _ hq)) (λi x ys H2 T BT hJ h2 hT=>?_) (λys H2 hJ h2=>?_)
 .obtain⟨s2,rfl⟩:=hJ;obtain⟨d,hd,Fn⟩:=Cl i x BT;rw[List.getElem?_map] at hd;obtain⟨c,hc,rfl⟩:=Option.map_eq_some_iff.mp hd;have hc:=mem_of_getElem? hc;fail "r";refine⟨c,x,rfl,Fn.mono s2.toT,ok.1 c hc,hn c hc,λH3 s3=>hT _ H3 (s3 _ _ h2) ⟨bv n1 (s2.trans s3),?_⟩⟩;rw[replicate_succ',map_append];rfl
 .obtain⟨s2,rfl⟩:=hJ;fail "r";refine⟨_,.of h2,?_⟩;rw[show (List.replicate `x true).all id=true by simp];refine ite2 `E (λ_=>⟨cs,xs,q,rfl,s2 _ _ hq,j7 (hx.mono s2.toT),`l,λH3 s3=>⟨_,rfl,?_⟩⟩);rw[CP ok];refine ite2 (λ_=>⟨cs,xs,q,rfl,(s2.trans s3) _ _ hq,j7 (hx.mono (s2.trans s3).toT),`l,λH4 s4=>?_⟩) `a;rw[decide_eq_true nd];exact k H4 ((s2.trans s3).trans s4)
theorem FJ:g.Eh.Ok P w base 5 (sp_read_gap K):=by
 refine lnF jm ?_;rintro BT A mt s H vs Q E hr ⟨c,a,i,b,rfl,hg,l1,l2,l3,k⟩
 nomatch (a8 (aL `D
    (aC (aI (bZ (a6 aJ (a6 (bY (jz g) (hr.mono `d) rfl g.fz g.dH.kp g.g9 .nil pass0 (a6 (pv 0) (a6 `D aA))) (a6 (pv 1) (a6 (bY (jz g) (hr.mono `d) rfl g.fz g.dH.kp g.g9 .nil pass0 (a6 (pv 2) (a6 `D aA))) aA))))))) aO)
   (a8 (sx 3 jm.nd (aW (K:=K) rfl PySem.F.plainAttrs_str PySem.F.slot_str_partition PySem.F.type_str_partition cr (pv 1) (a6 aJ aA)))
   (a8 `D
   (aC (aI (bG (bN (bz (K:=K) rfl) `D (bE (v:=.ref g.cR) rfl g.jb rfl) (by with_unfolding_all rfl)) `D dj)))))),jm.nd,hint 2 0,g.fP
 have b3:ofString ":"=⟨[58].toArray⟩:=by fail "k"
 have eF:fM=.str ⟨frS.toArray⟩:=congrArg V.str (fF _).symm;rw[b3,eF];fail "r";cases hg with
 |@part h n t a b w1 w2 w3=>
  have P:a.length<=2000/\(∀(c:Nat),c∈a->c < 128)/\∀H',Same H H'->b.length<=2000/\(∀(c:Nat),c∈b->c < 128)/\∀H2,Same H' H2->4<=sizeLine/\∀p H',H2 p=none->Same H2 H'->H' p=some (.tup [V.str (ofString "part"),undV (und frS a),tV i,undV (und frS b)])->Q (V.ref p) H':=
   ⟨l1,j4 w1,λH1 s1=>⟨l3,j4 w2,λH2 s2=>⟨`d,λp H3 n s3 e3=>k _ _ (s1.trans (s2.trans s3)) (by rw[j3 w1,j3 w2] at e3;exact .tup e3 (.cons (.str _) (.cons (.str _) (.cons (.str _) (.cons (.str _) .nil)))))⟩⟩⟩
  refine ite2 (λ_=>P) (λh1=>ite2 (λ_=>P) (λh2=>absurd ?_ w3));have e1:=eY w1;have e2:=eY w2;rw[bg.mp (Decidable.not_not.mp h1),length_nil] at e1;rw[bg.mp (Decidable.not_not.mp h2),length_nil] at e2;rw[length_eq_zero_iff.mp (show h.length=0 by lia),length_eq_zero_iff.mp (show `t=0 by lia)];rfl
 |gap h1=>refine ite2 `a (λ_=>ite2 `a (λ_=>⟨`d,a9 `l,λp hp=>?_⟩));rw[show Txt.partition ⟨i.toArray⟩ ⟨#[58]⟩=_ from fD h1];refine⟨_,_,.inr (.of aB),a7 (j:=1) rfl,aF.mpr ⟨_,rfl,ite2 (λ_=>⟨`d,λp2 H2 n2 s2 e2=>k _ _ ((aM hp).trans s2) (.tup e2 (.cons (.str _) (.cons (.str _) .nil)))⟩) (λz=>absurd (decide_eq_true rfl) z)⟩⟩
 |@kw c n kk h1 h2 h3 h4=>refine ite2 `a (λ_=>ite2 `a (λ_=>⟨`d,a9 `l,λp hp=>?_⟩));rw[show Txt.partition ⟨(n++58::kk).toArray⟩ ⟨#[58]⟩=_ from c0 h1];refine⟨_,_,.inr (.of aB),a7 (j:=1) rfl,aF.mpr ⟨_,rfl,ite2 (λz=>absurd (of_decide_eq_true z) (show (⟨#[58]⟩:Str)≠⟨#[]⟩ by decide)) (λ_=>?_)⟩⟩;generalize hH:upd H p _=H1;have s1:Same H H1:=hH▸aM hp;have dl:SqT K H1 p [.str (mkS n),.str (mkS [58]),.str (mkS kk)]:=hH▸.of aB;refine⟨_,_,.inr dl,a7 (j:=2) rfl,_,kwW.map V.str,rfl,.inr (bb (ss:=kwW) (g.gS H1)),rfl,rfl,_,rfl,?_⟩;rw[if_neg (show ¬ false=true by decide),ai];refine ite2 (λz=>⟨_,_,.inr dl,a7 (j:=2) rfl,_,_,.inr dl,a7 (j:=0) rfl,`d,λp2 H2 n2 s2 e2=>k _ _ (s1.trans s2) (by rw[h4,h2];exact .tup e2 (.cons (.str _) (.cons (.str _) .nil)))⟩) (λz=>absurd (decide_eq_true (h2▸h3)) z)
theorem FK:g.Ei.Ok P w base 5 (sp_bound K):=by
 refine lnF gW ?_;rintro Gi A BT s H vs Q E hr ⟨cs,xs,p,q,pw,ps,cl,r,e,ss,rfl,hp,hq,hx,hn,hz,hw,Fr,Gc,Cl,k0,k⟩
 nomatch (a8 `D
   (a8 `D
   (a8 (b8 PassesOwn.never rfl (ig (K:=K) rfl rfl g.fW.1 (a6 `D aA)) (ck (n:=2) (K:=K) rfl rfl (b6 (pgn 3 gW.nd) (b6 (pgn 4 gW.nd) cD)))
   (aC (aL `D
    (aC (bf (aW (K:=K) rfl PySem.F.plainAttrs_list PySem.F.slot_list_append PySem.F.type_list_append dv (pv 2) (a6 (bZ (a6 `D (a6 (aV g.pZ (Fe g) hr rfl (a6 (pv 4) (a6 (bJ (ba (K:=K) rfl) `D (bI (pv 3)) bH) aA))) aA))) aA)))) aO)))
   (aC `D)))),gW.nd,gd,u4,uJ,g.bi,g.cA,hint 2 0
 fail "r";refine⟨cs,xs,p,q,pw,ps,cl,r,e,ss,rfl,hp,hq,hx,hn,hz,hw,Fr,Gc,Cl,λH1 s1=>⟨_,rfl,?_⟩⟩;cases hf:fitsP cs cl r ss e with
 |false=>exact ite2 (λ_=>k0 hf H1 s1) `a
 |true=>
  refine ite2 `E (λ_=>⟨`d,λl H2 n2 s2 e2=>?_⟩);have mt:=s1.trans s2;have hl:=hx.length;refine⟨_,_,.inr (mt.tup hp),a7 (j:=0) rfl,q,xs,rfl,.of (mt _ _ hq),?_⟩;have nl:H l=none:=by
   cases hh:H l with
   |none=>rfl
   |some o=>rw[s1 _ _ hh] at n2;cases n2
  refine Bv (λi Z H'=>Ex3 λ(ys:`V) (v3 v4:Option V)=>Z=[some (.ref p),some (.ref pw),some (.ref l),v3,v4]/\H' l=some (.lst ys)/\BndV H' l (boundM (cs.take i) ss) ys/\Same H H') ⟨[],none,none,rfl,e2,.nil,mt⟩ (λi Z H' _ h=>by obtain⟨_,_,_,_,_,_,hh⟩:=h;exact .of (hh _ _ hq)) ?_ ?_
  .rintro i v Z H3 T hv ⟨ys,v3,v4,rfl,e3,hb,s3⟩ hT;obtain⟨c,pc,hc,rfl,Gd⟩:=hx.get hv;have st:Same H3 (upd H3 T (.tup [.int (i:Int),.ref pc])):=aM hT;have dl:=(s3.trans st).tup Gd;have et:=nv cs ss i c hc;obtain⟨s,hs,Gf⟩:=nz hf hc;fail "r";refine⟨T,_,rfl,.of aB,rfl,_,_,rfl,_,_,rfl,rfl,?_⟩;fail "r";refine⟨c,pc,rfl,dl,_,rfl,?_⟩;have hbl:=hb.length;have Gh:=il (cs.take i) ss;rw[length_take] at Gh;cases hcs:c.isStep with
   |true=>refine ite2 `E (λ_=>?_);rw[hcs,if_pos rfl,append_nil] at et;exact⟨ys,_,_,`R,st _ _ e3,by rw[et];exact hb.mono st,s3.trans st⟩
   |false=>
    refine ite2 (λ_=>?_) `a;rw[hcs,if_neg `d] at et;have sT:=s3.trans st;have Fn:ss.drop i=s::ss.drop (i+1):=by have hi:=(List.getElem?_eq_some_iff.mp hs);rw[drop_eq_getElem_cons hi.1,hi.2]
    obtain⟨z1,z2⟩:=hz c (mem_of_getElem? hc);refine⟨⟨_,.of (st _ _ e3)⟩,c,pc,rfl,dl,hcs,_,_,.inr (sT.tup hw),a7 (j:=1) rfl,ps,_,rfl,sT.tup Fr,λp4 H4 s4 e4=>?_⟩;rw[ip,<- map_drop,Fn] at e4;refine⟨c,s,ss.drop (i+1),pc,p4,rfl,s4.tup dl,e4,Gf,Cl s (mem_of_getElem? hs),z1,z2,by rw[length_drop];lia,λv H5 s5 Gb Ge=>⟨`d,λp6 H6 n6 s6 e6=>?_⟩⟩;have Gg:=(st.trans (s4.trans (s5.trans s6))) _ _ e3;have Ga:∀q,v=.ref q->q≠l:=λq z w=>by have:=Ge q z;rw[w,s4 _ _ (st _ _ e3)] at this;cases this
    refine⟨_,Gg,Nat.lt_of_le_of_lt (show ys.length<=100 by lia) `d,ys++[.ref p6],_,_,`R,by rw[aB],?_,bv nl (sT.trans (s4.trans (s5.trans s6)))⟩;rw[et,Fn];exact ((hb.mono (st.trans (s4.trans (s5.trans s6)))).snoc e6 (Gb.mono s6) Ga).upd Gg
  .rintro Z H3 ⟨ys,v3,v4,rfl,e3,hb,s3⟩;rw[hl,take_length] at hb;fail "r";exact k hf l ys H3 s3 e3 hb
theorem FL:g.Ej.Ok P w base 5 (sp_texts_for_both K):=by
 refine lnF jn ?_;rintro BT A dl s H vs Q E hr ⟨c,d,p,q,rfl,hp,hq,hc,hd,k⟩
 nomatch (a8 `D
   (a8 (sx 2 jn.nd (oN rfl rfl g.fX.1 rfl g.aK.1 PySem.boot_len PyProof.Rows.boot_max (a6 `D (a6 `D aA))))
   (aC (aI (aV g.pV (u5 g) hr rfl (a6 (pv 2) (a6 (oN rfl rfl g.fX.1 rfl g.aK.1 PySem.boot_len PyProof.Rows.boot_max (a6 `D (a6 `D aA))) aA))))))),jn.nd,dX,dW,gd,FE,hint 2 0
 fail "r";have f4:∀c:Pc,(fitT c).length<=4:=λc=>by unfold fitT;refine Nat.le_trans (length_filter_le _ _) ?_;cases c <;> first|(show 4<=4;decide)|(show 1<=4;decide)
 have mt:c.isStep=true\/d.isStep=true->sp_fitting_texts K [.ref p] H (λx H1=>sp_fitting_texts K [.ref q] H1 (λy H2=>rAddS K x y H2 Q) E0) E0:=λhs=>by
  refine⟨c,p,rfl,hp,hc,λl1 H1 s1 h1=>⟨d,q,rfl,s1.tup hq,hd,λl2 H2 s2 h2=>.inl ⟨_,_,s2 _ _ h1,h2,a9 ?_,λl3 H3 n3 s3 h3=>?_⟩⟩⟩
  .rw[length_map,length_map];have:=f4 c;have:=f4 d;lia
  .refine k l3 H3 ((s1.trans s2).trans s3) ?_;rw[h3,<- map_append];unfold bothT;rw[if_pos hs]
 refine⟨c,p,rfl,hp,_,rfl,?_⟩;cases hcs:c.isStep with
 |true=>exact ite2 (λ_=>mt (.inl hcs)) `a
 |false=>
  refine ite2 `E (λ_=>⟨d,q,rfl,hq,_,rfl,?_⟩);cases hds:d.isStep with
  |true=>exact ite2 (λ_=>mt (.inr hds)) `a
  |false=>
   refine ite2 `E (λ_=>?_);have lg:∀a b:Tq,(if (⟨a.toArray⟩:Str).length < (⟨b.toArray⟩:Str).length then (⟨b.toArray⟩:Str) else ⟨a.toArray⟩)=⟨(longM a b).toArray⟩:=λa b=>by rw[aE,aE];unfold longM;split <;> rfl
   have ll:∀a b:Tq,a.length<=40000->b.length<=40000->(longM a b).length<=40000:=λa b ha hb=>by unfold longM;split <;> assumption
   refine⟨c,p,rfl,hp,d,q,rfl,hq,⟨c.head.toArray⟩,⟨d.head.toArray⟩,rfl,a9 (by rw[aE];have:=hc.1;lia),a9 (by rw[aE];have:=hd.1;lia),?_⟩;rw[lg];refine⟨c,p,rfl,hp,d,q,rfl,hq,⟨c.tail.toArray⟩,⟨d.tail.toArray⟩,rfl,a9 (by rw[aE];have:=hc.2.1;lia),a9 (by rw[aE];have:=hd.2.1;lia),?_⟩;rw[lg];refine⟨_,_,rfl,ll _ _ hc.1 hd.1,ll _ _ hc.2.1 hd.2.1,λl H1 s1 h1=>k l H1 s1 ?_⟩;rw[h1];unfold bothT;rw[if_neg (by rw[hcs,hds];decide)]
theorem FM:g.Ek.Ok P w base 5 (sp_taken_way K g.aN):=by
 refine lnF cV ?_;rintro G9 A Gr s H vs Q E hr ⟨p,t,v,rest,i,dl,r,ro,ss,e,rfl,mt,hi,hl,BT,hd,hw,Gv,Gb,Gu,k⟩
 nomatch (ac (sx 2 cV.nd (aT (pv 0) g.aQ g.bd (bo g) (hr.mono `d) g.bc .nil pass0 (a6 aJ aA)))
   (ac `D
   (a8 `D
   (a8 `D
   (ac (sx 5 cV.nd (bY (dvs:=[.non]) (ge g) (hr.mono `d) rfl g.dJ g.cP.kp g.gB (.cons rfl .nil) pass0 (a6 (pv 0) (a6 `D aA))))
   (a8 (gj PassesOwn.never `D
   (a8 `D
   (a8 (sx 4 cV.nd (aT (pv 0) g.aQ g.bd (bo g) (hr.mono `d) g.bc .nil pass0 (a6 aJ aA)))
   (aC (sx 5 cV.nd (bY (dvs:=[.non]) (ge g) (hr.mono `d) rfl g.dJ g.cP.kp g.gB (.cons rfl .nil) pass0 (a6 (pv 0) (a6 `D aA))))))))
   (aC `D))))))),cV.nd,hint 2 0,g.bK,g.fP
 have eF:fM=.str ⟨frS.toArray⟩:=by show V.str (ofString _)=_;unfold frS;simp
 have e1:ofString "/"=⟨[47].toArray⟩:=by fail "k"
 rw[eF,e1];fail "r";refine⟨λZ H1=>SameBut p H H1/\∃j,Z=[some (.ref p),some (.bl dl),some (.bl r),none,none,none]/\Cur H1 g.aN p t j/\j<=`t/\t.drop j=v++rest,?_,?_⟩
 .cases r with
  |true=>exact aX mt (dY (w:=[47]) mt hi hl hd λH1 s1 c1 G7 G8=>⟨s1,_,rfl,c1,G7,G8⟩)
  |false=>exact aX mt (dZ mt hi hl (show t.drop i=v++rest from hd) (nE hw Gu) ⟨SameBut.refl _ _,i,rfl,mt,hi,hd⟩)
 rintro Z H1 ⟨s1,j,rfl,c1,hj,Fr⟩;fail "r";refine⟨λZ H2=>H2=H1/\Z=[some (.ref p),some (.bl dl),some (.bl r),none,none,none]/\r=ro/\(ss=[]->e=r),?_,?_⟩
 .rcases Gv with⟨h1,he,Gz⟩|⟨h1,h2,h3,h4,h5⟩
  .by_cases hm:dl=true
   .rw[if_pos hm,if_neg (by rw[Gz hm];decide)];exact⟨rfl,rfl,h1,he⟩
   .rw[if_neg hm];exact⟨rfl,rfl,h1,he⟩
  .subst h1 h2 h3 h4 h5;rw[if_pos rfl,if_pos rfl];refine⟨`d,λpt Ha na sa Go=>⟨`d,λpw Hb nb Cl Gn=>k _ Hb ((s1.trans sa.but).trans Cl.but) ?_ (wayT' (ss:=[]) Gn (Cl _ _ Go))⟩⟩;cases hw;have:=congrArg List.length Fr;rw[length_drop,nil_append] at this;rw[show `t - rest.length=j by lia];exact (c1.same sa).same Cl
 rintro Z H2 ⟨rfl,rfl,Gx,he⟩;fail "r";refine⟨`d,λq H3 hq s3 Gs=>?_⟩;have Fn:q≠p:=by obtain⟨dx,hp⟩:=c1;exact (aG hp hq).symm
 have c3:=c1.same s3;have Gq:SameBut p H H3:=s1.trans s3.but;have Gy:H q=none:=s1.free hq Fn;have Gw:ss.length<=`t:=by have h1:=Bi hw;have h2:=congrArg List.length Fr;rw[length_drop,length_append] at h2;lia
 obtain⟨W,hW⟩:∃W:Nat->St->Hp->Prop,W=λm Z H'=>(Ex6 λ(dn:List Tq) (s:Tq) (Gd:List Tq) (v':Tq) (j':Nat) (en:Bool)=>m=Gd.length+1/\Z=[some (.ref p),some (.bl dl),some (.bl r),some (.ref q),some (.bl en),some (.str ⟨s.toArray⟩)]/\s≠[]/\ss=dn++s::Gd/\TlW Gd e v'/\Cur H' g.aN p t j'/\j'<=`t/\t.drop j'=v'++rest/\H' q=some (.lst (dn.map sV))/\SameBut p H H')
  \/(m=0/\Z=[some (.ref p),some (.bl dl),some (.bl r),some (.ref q),some (.bl e),some (.str ⟨#[]⟩)]/\H' q=some (.lst (ss.map sV))/\SameBut p H H'/\Cur H' g.aN p t (`t - rest.length)):=`o
 have rl:∀{Gm:Nat}{v'':Tq},t.drop Gm=v''++rest->Gm+v''.length=`t - rest.length\/`t < Gm:=λ{Gm v''} h=>by have:=congrArg List.length h;rw[length_drop,length_append] at this;lia
 refine⟨λZ H4=>∃m,W m Z H4,?_,?_⟩
 .cases hw with
  |none=>
   refine⟨p,t,frS,[],[],rest,j,none,rfl,c3,hj,hl,BT,cv,Fr,.nil,.inl Gb,(λm z=>by cases z),λH4 s4 c4=>⟨0,?_⟩⟩;rw[hW];refine .inr ⟨rfl,by rw[he rfl],s4 _ _ Fn Gs,Gq.trans s4,?_⟩;rcases rl (v'':=[]) Fr with z|z
   .rw[<- z];exact c4
   .lia
  |some hws hs Gf=>
   rename_i s w0 ss0 v0;refine⟨p,t,frS,s,w0,v0++rest,j,none,rfl,c3,hj,hl,BT,cv,by rw[Fr,append_assoc],hws,.inl (nD Gf Gb),(λm z=>by cases z),λH4 s4 c4=>⟨ss0.length+1,?_⟩⟩;rw[hW];refine .inl ⟨[],s,ss0,v0,j+w0.length,r,rfl,rfl,hs,rfl,Gf,c4,?_,?_,s4 _ _ Fn Gs,Gq.trans s4⟩
   .have:=congrArg List.length Fr;rw[length_drop,length_append,length_append] at this;lia
   .rw[<- drop_drop,Fr,append_assoc,drop_left]
 rintro Z H4 ⟨m,hm⟩;unfold L2.Later;rw[L2.lA];refine dw W m hm ?_;rintro m Z H5 hm;rw[hW] at hm;rcases hm with⟨dn,s,Gd,v',j',en,rfl,rfl,hs,Gj,Gf,c5,Gi,Gc,Gh,Gk⟩|⟨rfl,rfl,Gh,Gk,c5⟩
 .fail "r";refine ite2 (λ_=>⟨_,λ_ _ h=>h,⟨_,.of Gh⟩,_,Gh,?_,?_⟩) (λz=>absurd (bg.mp (Classical.not_not.mp z)) hs)
  .have:=congrArg List.length Gj;rw[length_append,length_cons] at this;rw[length_map];exact Nat.lt_of_le_of_lt (show dn.length<=100000 by lia) `d
  have c6:Cur (upd H5 q (.lst (dn.map sV++[sV s]))) g.aN p t j':=by obtain⟨dx,hp⟩:=c5;exact⟨dx,by rw[aD Fn.symm];exact hp⟩
  have Ge:SameBut p H (upd H5 q (.lst (dn.map sV++[sV s]))):=Gk.upd Gy;have Gg:(upd H5 q (.lst (dn.map sV++[sV s]))) q=some (.lst ((dn++[s]).map sV)):=by rw[aB,map_append];rfl
  generalize upd H5 q (.lst (dn.map sV++[sV s]))=H6 at c6 Ge Gg ⊢;cases Gf with
  |stop=>
   refine aX c6 (dZ c6 Gi hl Gc Gu ?_);refine⟨p,t,frS,[],[],rest,j',none,rfl,c6,Gi,hl,BT,cv,Gc,.nil,.inl Gb,(λm z=>by cases z),λH7 s7 c7=>⟨0,`l,?_⟩⟩;rw[hW];refine .inr ⟨rfl,rfl,by rw[Gj];exact s7 _ _ Fn Gg,Ge.trans s7,?_⟩;rcases rl (v'':=[]) Gc with z|z
   .rw[<- z];exact c7
   .lia
  |ends=>
   refine aX c6 (dY (w:=[47]) (r:=rest) c6 Gi hl Gc λH7 s7 c7 Gp Ga=>?_);refine⟨p,t,frS,[],[],rest,_,none,rfl,c7,Gp,hl,BT,cv,Ga,.nil,.inl Gb,(λm z=>by cases z),λH8 s8 c8=>⟨0,`l,?_⟩⟩;rw[hW];refine .inr ⟨rfl,rfl,by rw[Gj];exact (s7.trans s8) _ _ Fn Gg,(Ge.trans s7).trans s8,?_⟩;rcases rl (v'':=[]) Ga with z|z
   .rw[<- z];exact c8
   .lia
  |more hws hs2 htl2=>
   rename_i s2 w2 ss2 v2;refine aX c6 (dY (w:=[47]) (r:=(w2++v2)++rest) c6 Gi hl Gc λH7 s7 c7 Gp Ga=>?_);refine⟨p,t,frS,s2,w2,v2++rest,_,none,rfl,c7,Gp,hl,BT,cv,by rw[Ga,append_assoc],hws,.inl (nD htl2 Gb),(λm z=>by cases z),λH8 s8 c8=>⟨ss2.length+1,by simp only[length_cons];lia,?_⟩⟩;rw[hW];refine .inl ⟨dn++[s],s2,ss2,v2,_,true,rfl,rfl,hs2,by rw[Gj,append_assoc];rfl,htl2,c8,?_,?_,(s7.trans s8) _ _ Fn Gg,(Ge.trans s7).trans s8⟩
   .have:=congrArg List.length Ga;rw[length_drop,length_append,length_append] at this;lia
   .rw[<- drop_drop,Ga,append_assoc,drop_left]
 .fail "r";exact⟨_,.inl (.of Gh),λpt Ha sa Go=>⟨`d,λpw Hb nb Cl Gn=>k _ Hb ((Gk.trans sa.but).trans Cl.but) ((c5.same sa).same Cl) (by rw[<- Gx];exact wayT' Gn (Cl _ _ Go))⟩⟩
theorem FN:g.El.Ok P w base 5 (sp_taken_mark K g.aN):=by
 refine lnF tS ?_;rintro BT A mt s H vs Q E hr ⟨p,t,rfl,dl,hl,k⟩
 nomatch (aC (aI (bG (af (aT (pv 0) g.aQ g.bd (bo g) (hr.mono `d) g.bc .nil pass0 (a6 aJ aA))) (bY (dvs:=[.non]) (ge g) (hr.mono `d) rfl g.dJ g.cP.kp g.gB (.cons rfl .nil) pass0 (a6 (pv 0) (a6 `D aA))) dj))),tS.nd,g.qI
 have e1:ofString "#"=⟨[35].toArray⟩:=by fail "k"
 rw[e1];fail "r";refine aX dl (dZ dl `n hl drop_length `s ⟨_,rfl,?_⟩);rw[if_neg `d];exact k
theorem FO:FnOk P w K mg base CX0 5 g.gC g.dL ["cursor","free","most"] (sp_taken_filled_text K g.aN):=by
 refine lnT (g.jT.ok jo) ?_;rintro Gb A BT s H vs Q E hr ⟨p,t,fr,s,w',r,i,mo,rfl,dl,hi,hl,mt,Ga,hd,hw,Fn,Cl,Fr,k⟩
 nomatch (a8 (sx 3 jo.nd (bY (ge g) (hr.mono `d) rfl g.dJ g.cP.kp g.qj .nil pass0 (a6 (pv 0) (a6 (pv 1) (a6 (pv 2) aA)))))
   (a8 `D
   (aC `D))),jo.nd,hint 1 399
 fail "r";refine⟨p,t,fr,s,w',r,i,mo,rfl,dl,hi,hl,mt,Ga,hd,hw,Cl,Fr,λH1 s1 c1=>?_⟩;fail "r";rw[if_neg (λz=>Fn (bg.mp z))];exact k H1 s1 c1
theorem uL:g.Em.Ok P w base 5 (sp_plain K):=by
 refine lnF jp ?_;rintro Gb A dl s H vs Q E hr ⟨x,v,rfl,hI,wf,hn,k⟩
 nomatch (a8 `D
   (ac (sx 2 jp.nd (bG `D dj (iA (K:=K) rfl PySem.F.plainAttrs_str PySem.F.slot_str_lower PySem.F.type_str_lower ku (pv 1))))
   (aC (aI (aV g.q0 (uH g) hr rfl (a6 (aU (cH (K:=K) rfl) (bZ (a6 (iA (K:=K) rfl PySem.F.plainAttrs_str PySem.F.slot_str_lower PySem.F.type_str_lower ku `D) (a6 (pv 2) aA))) (bJ (ba (K:=K) rfl) (pv 0) (bI `D) bH)) aA)))))),jp.nd,g.dA,g.jO,g.fQ
 obtain⟨p,w,q,rfl,hp,hw,hq⟩:=bR hI;have mt:∀l:Tq,(l.map PyProof.Rows.lo1)=lowT l:=λl=>rfl;have BT:∀c∈x.scheme,c < 128:=λc hc=>ml (lp (wf.sch.2.1 c hc));fail "r";refine⟨_,_,.inr hp,rfl,?_⟩;refine⟨λZ H1=>H1=H/\Z=[some (.ref p),some (otV x.house),some (otV (x.house.map lowT))],?_,?_⟩
 .fail "r";cases hh:x.house with
  |none=>exact ite2 (λ_=>rfl) `a
  |some l=>refine ite2 (λz=>absurd z (by simp[otV])) (λ_=>?_);have hl:=wf.hou l hh;refine⟨rfl,?_⟩;show rLower (.str `A) [] H _;fail "r";refine⟨λc hc=>ml (hl.2 c hc),`l,?_⟩;rw[mt];rfl
 rintro Z H1 ⟨rfl,rfl⟩;fail "r";refine⟨_,_,.inr hp,rfl,?_⟩;fail "r";rw[mt];refine⟨BT,by have:=wf.sch.1;lia,`d,λp2 H2 Ga s2 Fr=>⟨_,s2.tup hp,λp3 H3 s3 Fn=>⟨_,_,.of (s3 _ _ Fr),Fn,(show 6<=sizeLine by decide),λp4 H4 s4 Cl=>?_⟩⟩⟩;have sm:=(s2.trans s3).trans s4;refine⟨{x with scheme:=lowT x.scheme,house:=x.house.map lowT},_,rfl,adK (x:={ x with scheme:=lowT x.scheme,house:=x.house.map lowT}) Cl (hw.mono sm) (hq.mono sm),hn,λu H5 s5 hu=>k u H5 (sm.trans s5) hu⟩
theorem FP:g.En.Ok P w base 5 (sp_way_from K):=by
 refine lnF tT ?_;rintro Gb A mt s H vs Q E hr ⟨b,w,vb,vw,rfl,hB,hW,hs,hb,hw,k⟩
 nomatch (a8 (aL (ptm (mL (K:=K) rfl hr.units) (pv 1) (bE (v:=.ref g.dM) rfl g.jZ rfl))
    `D aO)
   (a8 `D
   (aC (aI (bZ (a6 di (a6 (aU (cH (K:=K) rfl) `D `D) (a6 `D aA)))))))),tT.nd,FC,g.cO,g.cA,g.dB
 fail "r";refine⟨wayOf w,wayOf noWay,hW,g.ja H,mU (r:=w.1) (e:=w.2.2) (ss:=w.2.1) hs,`d,_,rfl,?_⟩;rw[mV];by_cases e:w=noWay
 .rw[if_pos (decide_eq_true e)];refine k _ H `r ?_;rw[wayFrom,if_pos e];exact hB
 .rw[if_neg (by simpa using e)];obtain⟨pw,ps,rfl,dl,BT⟩:=cq (r:=w.1) (e:=w.2.2) (ss:=w.2.1) hW;fail "r";refine⟨_,_,.inr dl,rfl,_,rfl,?_⟩;by_cases h1:w.1=true
  .rw[if_pos h1];exact k _ H `r (by rw[wayFrom,if_neg e,if_pos h1];exact hW)
  .rw[if_neg h1];have hhl:=mX b;refine⟨b,vb,rfl,hB,`l,λph H1 s1 Fn=>⟨_,_,.inr (s1.tup dl),rfl,ph,ps,_,_,rfl,rfl,Fn,s1.tup BT,a9 (by simp;lia),λpc H2 s2 Fr=>⟨_,_,.inr ((s1.trans s2).tup dl),rfl,`d,λpr H3 Ga s3 Cl=>k _ H3 ((s1.trans s2).trans s3) ?_⟩⟩⟩;rw[wayFrom,if_neg e,if_neg h1];exact wayK (.of Cl) (by rw[map_append];exact s3.tup Fr)
theorem FQ:g.Eo.Ok P w base 6 (sp_is_pattern K):=by
 refine lnF tU ?_;rintro mt A dl s H vs Q E hr ⟨cs,e,v,rfl,hv,hG,k⟩
 exists tU.nd,FI,u0,g.bi,g.aK,g.dC,g.fU,g.ak,g.bK
 obtain⟨p,_,_,rfl,hp,h1,h2⟩:=isT2 hv;cases h2;obtain⟨q,xs,rfl,hq,hx⟩:=bw h1;have i0:=hv.is;have hs:SqT K H p [.ref q,.bl e]:=.of hp;fail "r";refine⟨_,_,2,rfl,i0,_,rfl,ite2 (λz=>absurd z (by rw[show tupN 2 (ptD cs e)=true from fH (n:=2).mpr rfl];decide)) (λ_=>?_)⟩;refine⟨_,_,.inr hs,a7 (j:=0) rfl,_,L2.cj hq,ite2 (λz=>absurd z `d) (λ_=>⟨_,_,.inr hs,a7 (j:=1) rfl,_,L2.lJ,ite2 (λz=>absurd z `d) (λ_=>⟨_,_,.inr hs,a7 (j:=0) rfl,cs,e,xs,q,rfl,hq,hx,hG,λH1 s1=>⟨_,rfl,ite2 (λ_=>⟨_,_,.inr (s1.tup hs),a7 (j:=1) rfl,e,rfl,?_⟩) `a⟩⟩)⟩)⟩;cases e with
 |true=>exact ite2 (λ_=>k H1 s1) `a
 |false=>
  refine ite2 `E (λ_=>⟨_,_,.inr (s1.tup hs),a7 (j:=0) rfl,?_⟩);fail "r";refine⟨_,.inr (.of (s1 _ _ hq)),?_⟩;have h3:=(j6 hx).1;rw[length_map] at h3;have h4:0 < cs.length:=length_pos_iff.mpr λz=>by cases hG.2.2.2.2 z
  rw[decide_eq_true (show (0:Int) < (`x:Int) by lia)];exact k H1 s1
theorem FR:g.qC.Ok P w base 6 (sp_read_piece K):=by
 refine lnF gX ?_;rintro Cl A dl s H vs Q E hr ⟨c,t,rfl,hw,l1,k⟩
 nomatch (a8 (sx 1 gX.nd (aW (K:=K) rfl PySem.F.plainAttrs_str PySem.F.slot_str_partition PySem.F.type_str_partition cr (pv 0) (a6 aJ aA)))
   (a8 (aL `D
    (aC (aI (bZ (a6 aJ (a6 (bY (jz g) (hr.mono `d) rfl g.fz g.dH.kp g.g9 .nil pass0 (a6 (pv 0) (a6 `D aA))) aA))))) aO)
   (a8 (sx 2 gX.nd (aW (K:=K) rfl PySem.F.plainAttrs_str PySem.F.slot_str_partition PySem.F.type_str_partition cr `D (a6 aJ aA)))
   (a8 `D
   (aC `D))))),gX.nd,FJ,g.fP
 have b1:ofString "{"=⟨[123].toArray⟩:=by fail "k"
 have b2:ofString "}"=⟨[125].toArray⟩:=by fail "k"
 have eF:fM=.str ⟨frS.toArray⟩:=congrArg V.str (fF _).symm;rw[b1,b2,eF];fail "r";refine⟨`d,a9 `l,λp hp=>?_⟩;rcases CS hw with⟨s,rfl,hs⟩|⟨a,i,b,rfl,ha,hi,hg⟩
 .rw[show Txt.partition ⟨t.toArray⟩ ⟨#[123]⟩=_ from fD λz=>(cx hs _ z).2.1 rfl];refine⟨_,_,.inr (.of aB),a7 (j:=1) rfl,aF.mpr ⟨_,rfl,ite2 (λ_=>⟨l1,j4 hs,λH1 s1=>⟨`d,λp2 H2 n2 s2 e2=>k _ _ ((aM hp).trans (s1.trans s2)) ?_⟩⟩) (λz=>absurd (decide_eq_true rfl) z)⟩⟩;rw[j3 hs] at e2;exact .tup e2 (.cons (.str _) (.cons (.str _) .nil))
 .rw[length_append,length_cons,length_append,length_cons] at l1;rw[show Txt.partition ⟨(a++123::(i++125::b)).toArray⟩ ⟨#[123]⟩=_ from c0 ha];refine⟨_,_,.inr (.of aB),a7 (j:=1) rfl,aF.mpr ⟨_,rfl,ite2 (λz=>absurd (of_decide_eq_true z) (show (⟨#[123]⟩:Str)≠⟨#[]⟩ by decide)) (λ_=>?_)⟩⟩;generalize hH:upd H p _=H1;have s1:Same H H1:=hH▸aM hp;have BT:SqT K H1 p [.str (mkS a),.str (mkS [123]),.str (mkS (i++125::b))]:=hH▸.of aB;refine⟨_,_,.inr BT,a7 (j:=2) rfl,?_⟩;fail "r";refine⟨`d,a9 (by rw[length_append,length_cons];lia),λp2 mt=>?_⟩;rw[show Txt.partition ⟨(i++125::b).toArray⟩ ⟨#[125]⟩=_ from c0 hi];refine⟨_,_,.inr (.of aB),a7 (j:=1) rfl,aF.mpr ⟨_,rfl,ite2 (λz=>absurd (of_decide_eq_true z) (show (⟨#[125]⟩:Str)≠⟨#[]⟩ by decide)) (λ_=>?_)⟩⟩;exact⟨_,_,.inr ((aM mt).tup BT),a7 (j:=0) rfl,_,_,.inr (.of aB),a7 (j:=0) rfl,_,_,.inr (.of aB),a7 (j:=2) rfl,c,a,i,b,rfl,hg,`l,`l,`l,λv H2 s2 hv=>k v H2 ((s1.trans (aM mt)).trans s2) hv⟩
theorem FS:g.qE.Ok P w base 6 (sp_step_for_both K):=by
 refine lnF tW ?_;rintro Ga A Cl s H vs Q E hr ⟨c,d,p,q,rfl,hp,hq,BT,mt,k⟩
 exists tW.nd,FL,jy
 fail "r";refine⟨c,d,p,q,rfl,hp,hq,BT,mt,λl H1 s1 hl=>⟨l,rfl,⟨_,.of hl⟩,?_⟩⟩;have fa:∀{l:List Tq}{i:Nat}{s:Tq},l[i]?=some s->(∀z∈l.take i,(fitsM c z && fitsM d z)=false)->(fitsM c s && fitsM d s)=true->l.find? (λs=>fitsM c s && fitsM d s)=some s:=λ{l i s} h1 h2 h3=>by have:=oF (p:=λz=>!(fitsM c z && fitsM d z)) h1 (λz hz=>by rw[h2 z hz];rfl) (by rw[h3];rfl);simpa using this
 refine cG (xs:=(bothT c d).map tV) (λi Z H'=>Same H1 H'/\∃v2,Z=[some (.ref p),some (.ref q),v2]/\∀s∈(bothT c d).take i,(fitsM c s && fitsM d s)=false) ⟨Same.refl _,none,rfl,λs hs=>by rw[take_zero] at hs;cases hs⟩ (λi Z H' _ h=>.of (h.1 _ _ hl)) ?_ ?_
 .rintro i x Z H2 Fr ⟨s2,v2,rfl,dl⟩;rw[List.getElem?_map] at Fr;obtain⟨s,hs,rfl⟩:=Option.map_eq_some_iff.mp Fr;have hsl:=Co BT mt s (mem_of_getElem? hs);have go:(fitsM c s && fitsM d s)=false->∀z∈(bothT c d).take (i+1),(fitsM c z && fitsM d z)=false:=λhf z Fn=>by
   rw[take_add_one,hs] at Fn;rcases mem_append.mp Fn with y|y
   .exact dl z y
   .have:z=s:=by simpa using y
    rw[this];exact hf
  fail "r";refine⟨c,s,p,rfl,(s1.trans s2).tup hp,`l,by have:=BT.1;lia,by have:=BT.2.1;lia,λH3 s3=>⟨_,rfl,?_⟩⟩;refine ite2 (λhf=>?_) (λhf=>⟨s2.trans s3,go (by rw[(Bool.not_eq_true _).mp hf];rfl)⟩);refine⟨d,s,q,rfl,((s1.trans s2).trans s3).tup hq,`l,by have:=mt.1;lia,by have:=mt.2.1;lia,λH4 s4=>⟨_,rfl,?_⟩⟩;refine ite2 (λhg=>?_) (λhg=>⟨(s2.trans s3).trans s4,go (by rw[(Bool.not_eq_true _).mp hg,Bool.and_false])⟩);have e:stepBoth c d=some s:=fa hs dl (by rw[hf,hg];rfl);rw[e] at k;exact k H4 (((s1.trans s2).trans s3).trans s4)
 .rintro Z H2 ⟨s2,v2,rfl,dl⟩;rw[length_map,take_length] at dl;have e:stepBoth c d=none:=List.find?_eq_none.mpr λs hs=>by rw[dl s hs];decide
  rw[e] at k;fail "r";exact k H2 (s1.trans s2)
theorem FT:g.Ep.Ok P w base 6 (sp_taken_house K g.aN):=by
 refine lnF tX ?_;rintro Gc A BT s H vs Q E hr ⟨p,t,w',r,i,o,rfl,dl,hi,hl,mt,hd,hw,Cl,hh,k⟩
 nomatch (a8 (aL (b0 (af (aT (pv 0) g.aQ g.bd (bo g) (hr.mono `d) g.bc .nil pass0 (a6 aJ aA))))
    `D aO)
   (aC (aI (bY (FO g) (hr.mono `d) rfl g.ql g.jT.kp g.qm .nil pass0 (a6 (pv 0) (a6 aJ (a6 `D aA))))))),tX.nd,g.qO
 have e1:ofString "//"=⟨[47,47].toArray⟩:=by fail "k"
 rw[e1];fail "r";cases o with
 |none=>have hw:w'=[]:=hw;subst hw;refine aX dl (jw dl hi hl (by rw[hd];exact hh rfl) ⟨_,rfl,?_⟩);rw[if_pos rfl];exact k H (SameBut.refl _ _) dl
 |some s=>obtain⟨v,rfl,hv,Fr,Fn⟩:=hw;refine aX dl (dY (w:=[47,47]) (r:=v++r) dl hi hl hd λH1 s1 c1 Ga Gb=>⟨_,rfl,?_⟩);rw[if_neg `d];refine⟨p,t,[],s,v,r,_,some 60,rfl,c1,Ga,hl,mt,`d,Gb,hv,Fr,.inl (Cl `s),(λm z=>by cases z;exact Fn),λH2 s2 c2=>k H2 (s1.trans s2) ?_⟩;rw[length_cons,length_cons,show i+(v.length+1+1)=i+[47,47].length+v.length by simp only[length_cons,length_nil];lia];exact c2
theorem FU:g.Er.Ok P w base 6 (sp_made_whole K):=by
 refine lnF tZ ?_;rintro Gj A Fr s H vs Q E hr ⟨b,x,vb,vx,rfl,hB,hX,wf,hb,hx,k⟩
 nomatch (a8 (aL `D
    (aC (aI (aU (cH (K:=K) rfl) `D (bJ (ba (K:=K) rfl) (pv 1) (bI `D) bH)))) aO)
   (a8 `D
   (aC (aI (aU (cH (K:=K) rfl) (bJ (ba (K:=K) rfl) (pv 0) bH (bI `D)) `D))))),tZ.nd,F1,FP,g.cN,g.jP,hint 2 0,g.fQ,g.dA
 obtain⟨pb,wb,qb,rfl,BT,Gb,Gg⟩:=bR hB;obtain⟨px,wx,qx,rfl,dl,Ga,Gd⟩:=bR hX;fail "r";refine⟨_,_,.inr dl,rfl,?_⟩;cases hh:x.house with
 |some l=>refine ite2 (λ_=>?_) (λz=>absurd (Classical.not_not.mp z) (by simp[otV]));refine⟨_,_,.inr BT,rfl,`d,λp1 H1 Gi s1 Gf=>⟨_,s1.tup dl,λp2 H2 s2 Fn=>⟨_,_,.of (s2 _ _ Gf),Fn,(show 6<=sizeLine by decide),λp3 H3 s3 Cl=>k _ H3 ((s1.trans s2).trans s3) ?_⟩⟩⟩;rw[madeWhole,if_pos (by simp[hh])];have sm:=(s1.trans s2).trans s3;exact adK (x:={ x with scheme:=b.scheme}) Cl (Ga.mono sm) (Gd.mono sm)
 |none=>refine ite2 `a (λ_=>?_);refine⟨_,_,.inr BT,rfl,_,_,.inr dl,rfl,b.w,x.w,wb,wx,rfl,Gb,Ga,(λs hs=>(wf.stp s hs).2),hb,hx,λv H1 s1 hv=>⟨_,s1.tup BT,λp2 H2 s2 Fn=>?_⟩⟩;have mt:=s1.trans s2;refine⟨b,x,_,_,rfl,hB.mono mt,hX.mono mt,wf,λv2 Gc=>⟨_,_,.inr (mt.tup dl),rfl,`d,λp3 H3 Gh s3 Cl=>⟨_,_,s3.tup Fn,.of Cl,(show 6<=sizeLine by decide),λp4 H4 s4 Ge=>k _ H4 (mt.trans (s3.trans s4)) ?_⟩⟩⟩;rw[madeWhole,if_neg (by simp[hh])];exact adK (x:={ scheme:=b.scheme,house:=b.house,door:=b.door,rooted:=(wayFrom b.w x.w).1,steps:=(wayFrom b.w x.w).2.1,ends:=(wayFrom b.w x.w).2.2,quest:=questFrom b x,mark:=x.mark}) Ge (hv.mono (s2.trans (s3.trans s4))) (Gc.mono (s3.trans s4))
theorem uM:g.Es.Ok P w base 6 (sp_lead K):=by
 refine lnF jq ?_;rintro Gk A Fr s H vs Q E hr ⟨l,pw,ps,T,ws,r,e,ss,rfl,hl,hT,Cl,Gj,Gd,Ge,Gc,Gb,k0,k⟩
 nomatch (ac (cmpS ["way"] [1] 2 jq.nd (b9 (K:=K) rfl (pv 0)) (bt (af (aV g.qB (uJ g) hr rfl (a6 (px K (pv 0) aZ) (a6 (pv 1) aA))))) (pv 0))
   (a8 `D
   (a8 `D
   (aC `D)))),jq.nd,FK,FG,hint 2 0,g.aK
 fail "r";have hwl:=hT.length;refine⟨λZ H1=>Same H H1/\Ex2 λ(l1:Addr) (us:`V)=>Z=[some (.ref l),some (.ref pw),some (.ref l1),none]/\H1 l1=some (.lst us)/\TbV H1 (T.filter (fitR r e ss)) us,⟨⟨_,.of hl⟩,λl1 n1=>?_⟩,?_⟩
 .refine CK (λi=>match T[i]? with|some t=>fitR r e ss t|none=>false) (λi=>ws[i]?.getD .non) (.of hl) (a9 `l) n1 (λi x BT H1 R s1 hR=>?_) (λi x BT ht H1 T' s1 Gf=>?_) (λH1 s1 mt=>?_)
  .obtain⟨t,ht,a,p,rfl,ha,q,xs,hp,hq,hx⟩:=hT.get BT;have ot:=Cl t (mem_of_getElem? ht);have o90:=ot.1;rw[ht] at hR;fail "r";refine⟨_,_,.inr (.of (s1 _ _ ha)),a7 (j:=1) rfl,?_⟩;exact⟨t.2.1,xs,p,q,pw,ps,t.2.2,r,e,ss,rfl,.of (s1 _ _ hp),s1 _ _ hq,(hx.mono s1.toT).all,`l,(λc hc=>by have:=(ot.2 c hc).1.ends;exact⟨`l,`l⟩),s1.tup Gd,s1.tup Ge,Gc,Gb,λH2 s2=>⟨_,rfl,hR H2 s2⟩⟩
  .rw[BT] at Gf;fail "r";exact Gf H1 `r
  .exact⟨s1,l1,_,rfl,mt,(hT.mono s1.toT).pick⟩
 rintro Z H1 ⟨s1,l1,us,rfl,mt,hU⟩;have Ga:=hU.length;fail "r";refine⟨_,.inl (.of mt),ite2 (λh0=>k0 ?_ H1 s1) (λh0=>?_)⟩
 .exact List.eq_nil_of_length_eq_zero `l
 cases hF:T.filter (fitR r e ss) with
 |nil=>rw[hF] at Ga;exact absurd (by rw[Ga];rfl) h0
 |cons b L=>
  rw[hF] at hU Ga;have dl:∀t∈b::L,t∈T/\fitR r e ss t=true:=λt ht=>mem_filter.mp (by rw[hF];exact ht);have Gi:L.length<=90:=by have:=length_filter_le (fitR r e ss) T;rw[hF,length_cons] at this;lia
  refine⟨l1,b,L,us,rfl,mt,hU,λt ht=>Cl t (dl t ht).1,Gi,λv H2 s2 hv=>?_⟩;obtain⟨a,p,rfl,ha,q,xs,hp,hq,hx⟩:=hv;have hm:=dl _ (fC (mr:=mrR) L b);have om:=Cl _ hm.1;have o90:=om.1;have Fn:=s1.trans s2;fail "r";refine⟨_,_,.inr (.of ha),a7 (j:=0) rfl,_,_,.inr (.of ha),a7 (j:=1) rfl,?_⟩;refine⟨_,xs,p,q,pw,ps,_,r,e,ss,rfl,.of hp,hq,hx.all,`l,(λc hc=>by have:=(om.2 c hc).1.ends;exact⟨`l,`l⟩),Fn.tup Gd,Fn.tup Ge,Gc,Gb,(λz=>by have hz:=hm.2;unfold fitR at hz;rw[hz] at z;cases z),λ_ l' ys H3 s3 Gh hB=>⟨`d,λp4 H4 n4 s4 Gg=>k b L hF p4 l' ys H4 ((Fn.trans s3).trans s4) Gg (s4 _ _ Gh) (hB.mono s4)⟩⟩
theorem FV:g.Et.Ok P w base 7 (sp_read_pattern K):=by
 refine lnF gY ?_;rintro Gb A mt s H vs Q E hr ⟨cs,e,ws,rfl,hw,hc,hG,k⟩
 nomatch (a8 (aL (PW.pt (ao `D (bF (b0 (af (aW (K:=K) rfl PySem.F.plainAttrs_str PySem.F.slot_str_startswith PySem.F.type_str_startswith ii (pv 0) (a6 aJ aA)))))))
    `D aO)
   (a8 (sx 1 gY.nd (aW (K:=K) rfl PySem.F.plainAttrs_str PySem.F.slot_str_split PySem.F.type_str_split oW (bJ (lI (K:=K) rfl) (pv 0) (bI aZ) bH) (a6 aJ aA)))
   (a8 `D
   (a8 (sx 3 gY.nd (cb (lN (K:=K) rfl) rfl g.bK.1 wu (a6 (cmp1 [] [] (b9 (K:=K) rfl `D) ae (aV g.qC (FR g) hr rfl (a6 (pv 0) aA))) aA)))
   (a8 `D
   (aC `D)))))),gY.nd,FQ,hint 2 0,hint 1 210,hint 4 0,g.aw,g.ak,hint 1 205
 have b1:ofString "/"=⟨[47].toArray⟩:=by fail "k"
 obtain⟨a1,hf,h0⟩:=CO hw hG.2.2.2.2;have Ga:=hw.length;have hl:=hG.2.2.2.1;rw[b1,a1];fail "r";have hj:(joinT 47 (ws++if e then [[]] else [])).length<=13 * 701:=Nat.le_trans (bB 47 700 (ws:=ws++if e then [[]] else []) λt ht=>by
  rcases mem_append.mp ht with z|z
  .exact hc t z
  .cases e with
   |false=>cases z
   |true=>rw[mem_singleton.mp z];exact Nat.zero_le _).1 (Nat.mul_le_mul_right _ (by rw[length_append];cases e <;> simp <;> lia))
 refine ite2 `a (λ_=>⟨a9 `l,`l,λpt nt=>?_⟩);rw[show Txt.split ⟨(joinT 47 (ws++if e then [[]] else [])).toArray⟩ ⟨#[47]⟩=_ from oi hf h0,map_map];generalize hH:upd H pt _=H1;have s1:Same H H1:=hH▸aM nt;have dl:SqL K H1 pt ((ws++if e then [[]] else []).map tV):=hH▸.of aB;have F:∀(pa:Addr) (H2:Hp),Same H H2->SqL K H2 pa (ws.map tV)->∀p,H2 p=none->∀Zb:VK,(∀(pl:Addr) (ys:`V) (H3:Hp),Same H H3->H3 pl=some (.lst ys)->IsTAll H3 (cs.map pcD) ys->Zb (.ref pl) H3)->CompI (Itl K pa) p [] tYes (tCall (sp_read_piece K) [] E0 (tCons (tVar 0) tNil)) Zb H2:=λpa H2 s2 h2 p np Zb hZ=>by refine CT (g:=pcD) h2 (a9 (by rw[length_map];lia)) np (by rw[length_map,Ga]) (λi x c hx hd H3 T s3 hT=>?_) (λys H3 s3 hA e3=>hZ p ys H3 (s2.trans s3) e3 hA);rw[List.getElem?_map] at hx;obtain⟨t,ht,rfl⟩:=Option.map_eq_some_iff.mp hx;obtain⟨c',Fr,Cl⟩:=hw.get ht;cases hd.symm.trans Fr;fail "r";exact⟨c,t,rfl,Cl,by have:=hc t (mem_of_getElem? ht);lia,hT⟩
 obtain⟨tl,Fn,eE⟩:∃tl,(ws++if e then [[]] else []).getLast?=some tl/\decide (mkS tl=⟨#[]⟩)=e:=by
  cases e with
  |true=>exact⟨[],`s,decide_eq_true rfl⟩
  |false=>rw[if_neg `d,append_nil] at h0 ⊢;obtain⟨c,_,h⟩:=hw.get (i:=ws.length - 1) (by rw[<- List.getLast?_eq_getElem?];exact List.getLast?_eq_some_getLast h0);exact⟨_,List.getLast?_eq_some_getLast h0,decide_eq_false λz=>(oo h).1 (bg.mp z)⟩
 refine⟨_,_,.inl dl,cI tV Fn,aF.mpr ⟨_,rfl,?_⟩⟩;rw[eE];have T:∀(pl:Addr) (ys:`V) (H3:Hp),Same H H3->H3 pl=some (.lst ys)->IsTAll H3 (cs.map pcD) ys->rTupleS K [.ref pl] H3 λx H1=>2<=sizeLine/\∀(p:Addr) (H':Hp),H1 p=none->Same H1 H'->H' p=some (HO.tup [x,V.bl e])->sp_is_pattern K [V.ref p] H' (λBT H'=>∃k,BT=V.bl k/\if k=false then False else 2<=sizeLine/\∀(p:Addr) (H'_1:Hp),H' p=none->Same H' H'_1->H'_1 p=some (HO.tup [x,V.bl e])->Q (V.ref p) H'_1) E0:=λpl ys H3 s3 e3 i3=>
  ⟨pl,ys,rfl,.inl (.of e3),λp4 H4 s4 e4=>⟨`d,λp5 H5 n5 s5 e5=>⟨cs,e,_,rfl,.tup e5 (.cons (.tup (s5 _ _ e4) (i3.mono (s4.trans s5).toT)) (.cons (.bl _) .nil)),hG,λH6 s6=>⟨_,rfl,ite2 `E (λ_=>⟨`d,λp7 H7 n7 s7 e7=>k _ _ (s3.trans (s4.trans (s5.trans (s6.trans s7)))) (.tup e7 (.cons (.tup ((s5.trans (s6.trans s7)) _ _ e4) (i3.mono (s4.trans (s5.trans (s6.trans s7))).toT)) (.cons (.bl _) .nil)))⟩)⟩⟩⟩⟩
 refine ite2 (λhe=>⟨_,dl,λp2 H2 n2 s2 e2=>?_⟩) (λhe=>?_)
 .rw[oj,if_pos he,map_append,map_cons,map_nil,List.dropLast_concat] at e2;exact⟨⟨_,.of e2⟩,λp np=>F p2 H2 (s1.trans s2) (.of e2) p np _ T⟩
 .rw[if_neg he,append_nil] at dl;exact⟨⟨_,dl⟩,λp np=>F pt H1 s1 dl p np _ T⟩
theorem uN:g.Eu.Ok P w base 7 (sp_meeting K):=by
 refine lnF gZ ?_;rintro Gu A Ga s H vs Q E hr ⟨cs,ds,xs,ys,p,q,p',q',e,e',rfl,hp,hq,hx,Cl,Gd,hy,Gs,Gr,oc,od,k0,k⟩
 nomatch (a8 (sx 2 gZ.nd (bq (vP rfl) rfl g.fX.1 PyProof.Rows.boot_max (a6 `D (a6 `D aA))))
   (ac `D
   (ac `D
   (a8 `D
   (a8 (cmpS2 K [] [] 5 gZ.nd (eg (K:=K) rfl rfl g.dF.1 (a6 (pv 3) (a6 (pv 4) aA))) ae (aV g.qE (FS g) hr rfl (a6 (pv 0) (a6 (pv 1) aA))))
   (aC `D)))))),gZ.nd,uC,hint 10 0,g.dC,hint 2 0,g.bK,g.bi,g.aK
 fail "r";have Gp:=hx.length;have Go:=hy.length;have en:(if (ys.length:Int) > (`x:Int) then (ys.length:Int) else (`x:Int))=((max cs.length ds.length:Nat):Int):=by rw[Gp,Go];split <;> lia
 refine⟨_,_,.inr hp,a7 (j:=0) rfl,xs,.inr (.of hq),_,_,.inr Cl,a7 (j:=0) rfl,ys,.inr (.of Gd),_,_,`R,?_⟩;rw[en];generalize hN:max cs.length ds.length=N;have Gf:N<=100:=by lia
 refine⟨λZ H1=>Same H H1/\∃mv:V,Z=[some (.ref p),some (.ref p'),some (.int (N:Int)),some mv,none,none]/\SprV K H1 (spreadM cs N) mv,?_,?_⟩
 .exact⟨cs,xs,p,q,e,N,rfl,hp,hq,hx,`l,`l,λz=>⟨Same.refl _,.non,rfl,.inl ⟨z,rfl⟩⟩,λms zs r H1 h1 s1 hr hz=>⟨s1,.ref r,rfl,.inr ⟨ms,zs,r,h1,rfl,hr,hz⟩⟩⟩
 rintro Z H1 ⟨s1,mv,rfl,Ge⟩;fail "r";refine⟨λZ H2=>Same H H2/\∃tv:V,Z=[some (.ref p),some (.ref p'),some (.int (N:Int)),some mv,some tv,none]/\SprV K H2 (spreadM cs N) mv/\SprV K H2 (spreadM ds N) tv,?_,?_⟩
 .refine⟨ds,ys,p',q',e',N,rfl,s1.tup Cl,s1 _ _ Gd,hy.mono s1,`l,`l,λz=>⟨s1,.non,rfl,Ge,.inl ⟨z,rfl⟩⟩,λts us r H2 h2 s2 hr hu=>⟨s1.trans s2,.ref r,rfl,?_,.inr ⟨ts,us,r,h2,rfl,hr,hu⟩⟩⟩;rcases Ge with z|⟨ms,zs,r0,z1,z2,z3,z4⟩
  .exact .inl z
  .exact .inr ⟨ms,zs,r0,z1,z2,s2.tup z3,z4.mono s2⟩
 rintro Z H2 ⟨s2,tv,rfl,mt,dl⟩;fail "r";refine⟨_,_,.inr (s2.tup hp),a7 (j:=1) rfl,_,_,.inr (s2.tup Cl),a7 (j:=1) rfl,?_⟩;fail "r";have mm:meetM cs e ds e'=if e≠e' then none else match spreadM cs N,spreadM ds N with|some ms,some ts=>(List.zipWith stepBoth ms ts).mapM id|_,_=>none:=by unfold meetM;rw[hN] <;> rfl
 refine ite2 (λFn=>k0 (by rw[mm,if_pos (by simpa using Fn)]) H2 s2) (λFn=>?_);have Gj:¬ (e≠e'):=by simpa using Fn
 rw[if_neg Gj] at mm;refine ite2 (λhm=>?_) (λhm=>ite2 (λht=>?_) (λht=>?_))
 .rcases mt with⟨z,_⟩|⟨ms,zs,r,_,z,_⟩
  .exact k0 (by rw[mm,z] <;> rfl) H2 s2
  .rw[z] at hm;cases hm
 .rcases dl with⟨z,_⟩|⟨ts,us,r,_,z,_⟩
  .exact k0 (by rw[mm,z];cases spreadM cs N <;> rfl) H2 s2
  .rw[z] at ht;cases ht
 rcases mt with⟨_,z⟩|⟨ms,zs,r,Fr,rfl,hr,hz⟩
 .exact absurd z hm
 rcases dl with⟨_,z⟩|⟨ts,us,r',BT,rfl,Gc,hu⟩
 .exact absurd z ht
 rw[Fr,BT] at mm;have mm:meetM cs e ds e'=(List.zipWith stepBoth ms ts).mapM id:=mm;have Gn:=hz.length;have Gq:=hu.length;have hml:=(cK Fr).1;have htl:=(cK BT).1;have Gm:=f7 oc Fr;have Gk:=f7 od BT;have Gb:∀{c:Pc},PcOk c->PcTx c:=λ{c} o=>by
  cases c with
  |step w=>exact⟨Nat.zero_le _,Nat.zero_le _,λw' h=>by cases h;have:=o.2.1;lia⟩
  |part a n b=>exact⟨by have:=o.1;show a.length<=_;lia,by have:=o.2.1;show b.length<=_;lia,λw h=>by cases h⟩
  |_=>exact⟨Nat.zero_le _,Nat.zero_le _,λw h=>by cases h⟩
 refine⟨r,r',_,_,`R,hr,Gc,λl n2=>?_⟩;refine nW (zs:=(List.zipWith stepBoth ms ts).map otV) hr Gc (a9 (by rw[length_map,length_zipWith];lia)) n2 (by rw[length_map,length_zipWith,Gn,Gq]) (λi x y z h1 h2 h3 H3 T s3 hT=>?_) (λH3 s3 hl=>?_)
 .obtain⟨c,pc,hc,rfl,Gh⟩:=hz.get h1;obtain⟨d,pd,hd,rfl,Gg⟩:=hu.get h2;rw[List.getElem?_map,List.getElem?_zipWith,hc,hd] at h3;cases h3;fail "r";exact⟨c,d,pc,pd,rfl,s3.tup Gh,s3.tup Gg,Gb (Gm c (mem_of_getElem? hc)),Gb (Gk d (mem_of_getElem? hd)),λH4 s4=>hT H4 s4⟩
 have fl:((List.zipWith stepBoth ms ts).map otV).all flatV=true:=all_eq_true.mpr λv hv=>by obtain⟨o,_,rfl⟩:=mem_map.mp hv;cases o <;> rfl
 refine⟨l,_,rfl,.inl (.of hl),rfl,fl,_,rfl,?_⟩;rw[if_neg (show ¬ false=true by decide)];rcases oO (List.zipWith stepBoth ms ts) with⟨h1,h2⟩|⟨h1,w,h2,h3⟩
 .rw[h1];exact ite2 (λ_=>k0 (mm.trans h2) H3 (s2.trans s3)) `a
 .rw[h1];refine ite2 `E (λ_=>?_);rw[h3] at hl;fail "r";exact⟨_,.inl (.of hl),λt H4 s4 ht=>⟨_,_,.inr (((s2.trans s3).trans s4).tup hp),a7 (j:=1) rfl,`d,λp5 H5 n5 s5 Gi=>k w p5 t H5 (mm.trans h2) (((s2.trans s3).trans s4).trans s5) Gi (s5 _ _ ht)⟩⟩
theorem k7:g.Ev.Ok P w base 7 (sp_read K):=by
 refine lnF jr ?_;rintro Gi A Cl s H vs Q E hr ⟨x,t,rfl,hl,BT,wf,hw,xd,xq,xm,k⟩
 nomatch (a8 `D
   (a8 (sx 1 jr.nd (gs g.rA (F0 g) (hr.mono `d) rfl g.r9 g.qZ .nil pass0 (a6 (pv 0) aA)))
   (a8 `D
   (a8 `D
   (ac `D
   (ac `D
   (a8 `D
   (a8 `D
   (a8 (aL (b0 (af (ca (pv 1) g.aQ g.jV (u6 g) (hr.mono `d) g.jR .nil pass0)))
    `D aO)
   (aC `D)))))))))),jr.nd,FN,Fg,FM,Ff,FT,FF,hint 2 0,hint 1 346,g.aw,g.ak,hint 1 337
 obtain⟨hT,dT,wT,qT,mT,rT,Fn,et,es,hH,hD,hS,hQ,hM⟩:=hw;fail "r";intro p dx hp Ge Gh;rw[xd] at hD;rw[xq] at hQ;rw[xm] at hM;have hD:dT=[]:=hD;have hQ:qT=[]:=hQ;have hM:mT=[]:=hM;subst hD hQ hM;simp only[nil_append,append_nil] at et;have Gd:SameBut p H (upd (upd H dx (.own p)) p (.ins g.aN dx [])):=λb o n e=>by rw[aD n,aD (aG e Ge)];exact e
 refine⟨p,dx,t,rfl,aB,λH1 s1 c1=>⟨rfl,?_⟩⟩;have Gg:=Gd.trans s1;have tl:∀{a b:Tq},t=a++b->a.length<=`t/\t.drop a.length=b:=λ{a b} e=>by rw[e,drop_left,length_append];exact⟨`l,rfl⟩
 refine⟨p,t,rfl,c1,hl,λH2 s2 c2=>?_⟩;rw[es];have eP:schP t=(schT x.scheme).length:=by unfold schP;rw[es]
 rw[eP] at c2;obtain⟨i2,d2⟩:=tl et;have hz:(x.scheme≠[]\/x.house≠none)->((if rT then [47] else [])++wT)=[]\/∃y,((if rT then [47] else [])++wT)=47::y:=λhx=>by
  rcases Fn with e|⟨e,_,Gf,_⟩
  .rw[e,wf.roo hx];exact .inr `o
  .subst e;rw[Gf] at hS;cases hS;exact .inl rfl
 refine⟨p,t,hT,_,_,x.house,rfl,c2,i2,`l,BT,d2,hH,?_,?_,λH3 s3 c3=>?_⟩
 .intro hn c hc;rcases hz (.inr hn) with e|⟨y,e⟩ <;> rw[e] at hc <;> cases hc
  decide
 .intro hn;have Fr:=nE (rest:=[]) hS `s;rw[append_nil] at Fr;intro z;cases rT with
  |false=>
   simp only[Bool.false_eq_true,if_false,nil_append] at z;cases wT with
   |nil=>cases z
   |cons c r=>exact Fr (by injection z with z1 z2;rw[z1];rfl)
  |true=>
   simp only[if_true,cons_append,nil_append] at z;cases wT with
   |nil=>cases z
   |cons c r=>exact Fr (by injection z with z1 z2;injection z2 with z2 z3;rw[z2];rfl)
 have Gc:=(Gg.trans s2).trans s3;obtain⟨i3,d3⟩:=tl (a:=schT x.scheme++hT) (b:=(if rT then [47] else [])++wT) (by rw[et];simp);rw[length_append] at i3 d3;refine⟨λZ H4=>SameBut p H H4/\Cur H4 g.aN p t ((schT x.scheme++hT).length)/\Z=[some (.str ⟨t.toArray⟩),some (.ref p),some (.str ⟨x.scheme.toArray⟩),some (otV x.house),some .non,none,none,none],?_,?_⟩
 .cases hho:x.house with
  |none=>rw[if_pos (show otV none=V.non from rfl)];refine⟨Gc,?_,rfl⟩;rw[length_append];exact c3
  |some l=>
   rw[if_neg (by simp[otV])];refine⟨p,t,_,rfl,c3,i3,`l,?_,Gc,?_,rfl⟩
   .rw[d3];intro hc;rcases hz (.inr (by rw[hho];simp)) with e|⟨y,e⟩ <;> rw[e] at hc <;> cases hc
   .rw[length_append];exact c3
 rintro Z H4 ⟨Gb,c4,rfl⟩;obtain⟨i4,d4⟩:=tl (a:=schT x.scheme++hT) (b:=(if rT then [47] else [])++wT) (by rw[et];simp);fail "r";have mt:∀dl:Bool,(dl=true↔(x.scheme≠[]\/x.house≠none))->∀(Q':VK),(∀u H5,SameBut p H H5->Cur H5 g.aN p t `t->IsT H5 x.way u->Q' u H5)->sp_taken_way K g.aN [V.ref p,V.bl dl] H4 Q' E0:=λdl hm Q' hk=>by
  refine⟨p,t,wT,[],_,dl,rT,x.rooted,x.steps,x.ends,rfl,c4,i4,`l,BT,by rw[d4,append_nil],hS,(by rcases Fn with e|⟨e1,e2,e3,e4,e5⟩;exact .inl ⟨e,λz=>by rw[e];exact wf.end_ z,λz=>by rw[e];exact wf.roo (hm.mp z)⟩;exact .inr ⟨e1,hm.mpr e5,e2,e3,e4⟩),?_,?_,λu H5 s5 c5 hu=>hk u H5 (Gb.trans s5) c5 hu⟩
  .exact Bg
  .simp
 refine⟨λZ H5=>∃u,SameBut p H H5/\Cur H5 g.aN p t `t/\IsT H5 x.way u/\Z=[some (.str ⟨t.toArray⟩),some (.ref p),some (.str ⟨x.scheme.toArray⟩),some (otV x.house),some .non,some u,none,none],?_,?_⟩
 .refine ite2 (λz=>?_) (λz=>?_)
  .exact mt true ⟨λ_=>.inl λe=>z (by rw[e]),λ_=>rfl⟩ _ (λu H5 sb c hu=>⟨u,sb,c,hu,rfl⟩)
  .have z0:x.scheme=[]:=bg.mp (Classical.not_not.mp z);refine mt _ ⟨λe=>.inr λz'=>?_,λe=>?_⟩ _ (λu H5 sb c hu=>⟨u,sb,c,hu,rfl⟩)
   .rw[z'] at e;exact absurd e (by simp[otV])
   .rcases e with e|e
    .exact absurd z0 e
    .cases hh:x.house with
     |none=>exact absurd hh e
     |some l=>simp[otV]
 rintro Z H5 ⟨u,Ga,c5,hu,rfl⟩;fail "r";refine⟨p,t,rfl,c5,`l,p,t,rfl,c5,`l,?_⟩;refine aX c5 ⟨p,t,_,rfl,c5,`l,_,rfl,?_⟩;rw[decide_eq_true rfl,if_neg `d];refine⟨`d,λpr H8 _ s8 h8=>k _ H8 ((Ga.same hp).trans s8) ?_⟩;refine adT (x:=x) (w:=u) (q:=.non) ?_ (hu.mono s8.toT) (by rw[xq];exact .non);rw[xd,xm];exact h8
theorem FW:g.Ew.Ok P w base 7 (sp_resolved K):=by
 refine lnF tf ?_;rintro Gc A dl s H vs Q E hr ⟨b,x,vb,vx,rfl,hB,hX,mt,wf,hb,hx,k⟩
 exists tf.nd,jt,FU,uH,hint 1 452
 obtain⟨pb,wb,qb,rfl,Cl,Fr,Gb⟩:=bR hB;obtain⟨px,wx,qx,rfl,BT,Fn,Ga⟩:=bR hX;fail "r";refine⟨pb,b.scheme,_,rfl,Cl,_,rfl,?_⟩;rw[if_neg (by simp[mt])];refine⟨px,x.scheme,_,rfl,BT,_,rfl,?_⟩;by_cases h:x.scheme=[]
 .rw[if_neg (by simp[h])];refine⟨b,x,_,_,rfl,hB,hX,wf,hb,hx,λv H1 s1 hv=>⟨madeWhole b x,v,rfl,hv,by have:=mY b x;lia,λu H2 s2 hu=>k u H2 (s1.trans s2) ?_⟩⟩;rw[iV wf h];exact hu
 .rw[if_pos (by simp[h])];refine⟨x,_,rfl,hX,`l,λu H1 s1 hu=>k u H1 s1 ?_⟩;rw[iU h];exact hu
theorem uO:g.Ex.Ok P w base 7 (sp__law_lead_text K):=by
 refine lnF dR ?_;rintro Gk A BT s H vs Q E hr ⟨l,pw,ps,T,ws,e,ss,rfl,hl,hT,hG,Gh,Ge,Gf,Gd,Fn,k⟩
 nomatch (a8 `D
   (a8 `D
   (a8 `D
   (a8 (b8 PassesOwn.never rfl (b9 (K:=K) rfl `D) (ck (n:=2) (K:=K) rfl rfl (b6 (pgn 4 dR.nd) (b6 (pgn 5 dR.nd) cD)))
   (a8 `D
   (aC (aL `D
    (aC (sx 3 dR.nd (aU (al (K:=K)) (pv 3) (aW (K:=K) rfl PySem.F.plainAttrs_str PySem.F.slot_str_join PySem.F.type_str_join (ce (K:=K) rfl) aJ (a6 (cmp1 [] [] (b9 (K:=K) rfl (pv 5)) ae (aV g.pX (u9 g) hr rfl (a6 (pv 0) aA))) aA))))) `D))))
   (aC `D))))),dR.nd,u9,uM,g.dE,g.ak,g.aw,hint 2 0
 have e0:ofString "none"=mkS wNone:=by fail "k"
 have e1:ofString " "=mkS [32]:=by fail "k"
 have e2:ofString "="=mkS [61]:=by fail "k"
 have e3:ofString ","=mkS [44]:=by fail "k"
 rw[e0,e1,e2,e3];fail "r";refine⟨l,pw,ps,T,ws,true,e,ss,rfl,hl,hT,λt ht=>(hG t ht).2.2,Gh,.of Ge,.of Gf,`l,λs hs=>by have:=(Fn s hs).2;lia,λhf H2 s2=>?_,λb L hf p2 l' ys H2 s2 mt Fr hB=>?_⟩
 .have:=k H2 s2;unfold ldT at this;rw[hf] at this;exact ite2 (λ_=>this) `a
 have mi:=c9 hf;obtain⟨o1,o2,o3⟩:=fL (hG _ mi.1) mi.2 Fn Gd;have kk:∀H',Same H H'->Q (tV (leadT (mostM mrR b L).1 (boundM (mostM mrR b L).2.1 ss))) H':=λH' s'=>by have:=k H' s';unfold ldT at this;rw[hf] at this;exact this
 generalize (mostM mrR b L).1=n at mt o1 kk;generalize boundM (mostM mrR b L).2.1 ss=bs at hB o2 o3 kk;have Gi:=hB.length;fail "r";refine⟨_,_,.inr (.of mt),a7 (j:=0) rfl,_,_,.inr (.of mt),a7 (j:=1) rfl,l',rfl,⟨_,.of Fr⟩,?_⟩;have ld:∀i,(leadT n (bs.take i)).length<=20000:=λi=>by
  have hj:=(bB 32 1400 (ws:=n::(bs.take i).map valT) λw hw=>by
   rcases mem_cons.mp hw with rfl|hw
   .lia
   .obtain⟨b,hb,rfl⟩:=mem_map.mp hw;obtain⟨b1,b2⟩:=o3 b (mem_of_mem_take hb);have vl:=fK b2;unfold valT;rw[length_append,length_cons];lia).1
  rw[length_cons,length_map,length_take] at hj;unfold leadT;lia
 refine cG (xs:=ys) (λi Z H'=>Same H2 H'/\∃v4 v5:Option V,Z=[some (.ref l),some (.ref pw),some (.ref p2),some (tV (leadT n (bs.take i))),v4,v5]) ⟨Same.refl _,none,none,by rw[take_zero];show _=[_,_,_,some (tV (n++[])),_,_];rw[append_nil]⟩ (λi Z H' _ h=>.of (h.1 _ _ Fr)) ?_ ?_;rotate_left
 .rintro Z H3 ⟨s3,v4,v5,rfl⟩;fail "r";rw[Gi,take_length];exact kk H3 (s2.trans s3)
 rintro i x Z H3 Gc ⟨s3,v4,v5,rfl⟩;obtain⟨c,q,w,h1,rfl,h3,h4⟩:=hB.get Gc;obtain⟨b1,b2⟩:=o3 c (mem_of_getElem? h1);have et:leadT n (bs.take (i+1))=leadT n (bs.take i)++([32]++(c.1++([61]++vlT c.2))):=by rw[take_add_one,h1];exact Dg n _ c
 have l1:=ld i;have l2:=fK b2;generalize leadT n (bs.take i)=lt at et l1;fail "r";refine⟨q,_,rfl,.of (s3 _ _ h3),rfl,_,_,rfl,_,_,rfl,rfl,?_⟩;have ad:∀{a b:Tq}{H1:Hp}{Q1:VK},a.length+b.length<=100000->Q1 (tV (a++b)) H1->rAddS K (tV a) (tV b) H1 Q1:=λhl h=>bQ.mpr ⟨a9 (by rw[aE,aE];lia),by rw[ah];exact h⟩;fail "r";have e4:lt++[32]++c.1++[61]++vlT c.2=leadT n (bs.take (i+1)):=by rw[et];simp only[append_assoc]
 have dl:∀{H4:Hp},Same H3 H4->rAddS K (tV (lt++[32]++c.1++[61])) (tV (vlT c.2)) H4 λx H1=>Same H2 H1/\∃v4 v5:Option V,x=tV (leadT n (bs.take (i+1)))/\some (tV c.1)=v4/\some w=v5:=λs4=>ad (by simp only[length_append,length_singleton];lia) ⟨s3.trans s4,_,_,by rw[e4],rfl,rfl⟩;refine⟨a9 `l,a9 (by simp only[length_append,length_singleton];lia),a9 (by simp only[length_append,length_singleton];lia),?_⟩;clear ld;cases hc:c.2 with
 |txt z=>rw[hc] at h4 b2 dl;cases h4;refine⟨_,cg,ite2 (λz=>absurd z `d) (λ_=>⟨_,cg,ite2 (λ_=>?_) (λz=>absurd `d z)⟩)⟩;exact⟨z,rfl,b2.1,by have:=b2.2;lia,dl `r⟩
 |int z=>rw[hc] at h4 b2 dl;cases h4;refine⟨_,iE,ite2 (λz=>absurd z `d) (λ_=>⟨_,iE,ite2 (λz=>absurd z `d) (λ_=>?_)⟩)⟩;have:=dl `r;rw[show tV (vlT (.int z))=V.str (ofString (toString z)) from rfl] at this;obtain⟨a1,a2,Gb,Ga,a3,a4,a5⟩:=bQ.mp this;exact⟨z,rfl,lg60 b2.1 b2.2,by rw[aE] at a1;exact a1,a2,Gb,Ga,V.str.inj a3,a4,a5⟩
 |lst ls=>
  rw[hc] at h4 b2 dl;obtain⟨a,rfl,ha⟩:=h4;have h6:=b2.2;refine⟨_,ci (s3 _ _ ha),ite2 (λ_=>⟨a,rfl,⟨_,.of (s3 _ _ ha)⟩,λp np=>?_⟩) (λz=>absurd `d z)⟩;refine e9 (zs:=(ls.map wr).map tV) (.of (s3 _ _ ha)) (a9 (by rw[length_map];lia)) np (by rw[length_map,length_map,length_map]) (λi x z Cl hz H1 U s1 hU=>?_) (λH1 s1 Gg=>?_)
  .rw[List.getElem?_map] at Cl;obtain⟨s,hs,rfl⟩:=Option.map_eq_some_iff.mp Cl;rw[List.getElem?_map,List.getElem?_map,hs] at hz;cases hz;have Gj:=b2.1 s (mem_of_getElem? hs);fail "r";exact⟨s,rfl,Gj.1,`l,hU H1 `r⟩
  .have hj:=(bB 44 210 (ws:=ls.map wr) λw hw=>by
    obtain⟨l,hl,rfl⟩:=mem_map.mp hw;have:=au l;have:=(b2.1 l hl).2;lia).2
   rw[length_map] at hj;refine⟨_,p,(ls.map wr).map mkS,rfl,rfl,.of (by rw[map_map];exact Gg),?_,?_⟩
   .rw[map_map,length_map,length_map,show ((λx:Str=>x.length) ∘ mkS)=(λx:Tq=>x.length) from funext λx=>aE x,aE];simp only[length_singleton];lia
   .rw[eN];exact dl s1
theorem uP:FnOk P w K mg base CX0 8 g.gD g.gE ["self","text"] (sp_Desk___init__ K g.aR):=by
 refine lnT (g.qo.ok tj) ?_;rintro Gd A BT s H vs Q E hr ⟨p,dx,ss,e,t,rfl,hp,hl,dl,hw,hR,k⟩
 exists tj.nd,uL,jt,k7,hint 2 0,hint 1 505
 fail "r";refine⟨atW ss e,t,rfl,hl,dl,cL hw,hR,rfl,rfl,rfl,λu H1 s1 hu=>?_⟩;obtain⟨pu,uw,uq,rfl,Fn,Gb,Gc⟩:=ma hu;refine⟨pu,_,_,rfl,.inl (.inl Fn),true,rfl,?_⟩;rw[if_neg `d];refine⟨atW ss e,_,rfl,hu.k,cL hw,by show ss.length<=_;have:=hw.1;lia,λv H2 s2 hv=>?_⟩;have ep:plainM (atW ss e)=atW ss e:=by rw[<- pF (s0:=[]) (e0:=true) hw,B1]
 rw[ep] at hv;have Ga:=s2 _ _ (s1 _ _ hp);refine⟨p,_,dx,_,rfl,Ga,g.aS,g.cQ,by show 0 < 1000;decide,`d,λl H3 n3 s3 e3=>?_⟩;have Cl:=s3 _ _ (aB (H:=H2) (a:=p) (o:=.ins g.aR dx (putF (ofString "address") v [])));refine⟨p,_,dx,_,rfl,Cl,g.aS,g.bn,by show 1 < 1000;decide,?_⟩;have mt:SameBut p H2 H3:=ag.trans s3.but;refine k _ l ?_ ((((s1.trans s2).but).trans mt).trans ag) ⟨dx,v,[],?_,IsK.but ag Cl (IsK.but mt Ga hv),?_,.nil⟩
 .have Fr:l≠p:=λz=>by rw[z,aB] at n3;cases n3
  rw[aD Fr] at n3;exact Wm.Same.free (s1.trans s2) n3
 .have h:ofString "address" ≠ ofString "table" := by fail "k"
  rw[aB];simp only[putF,if_neg h]
 .rw[aD (aY e3 Cl (by intro z;cases z))];exact e3
theorem FX:FnOk P w K mg base CX0 8 g.gF g.gG ["self","text"] (sp_Desk_goal_of K g.aR):=by
 refine lnT (g.qp.ok tm) ?_;rintro BT A dl s H vs Q E hr ⟨p,s0,ss,e0,e,rfl,hd,h0,hw,k⟩
 exists tm.nd,k7,FW,uL
 fail "r";refine j8 hd g.aS g.cQ λv hv=>?_;have wf:=d0 hw;have sz:=cM hw;have hl:=hw.1;have hl0:=h0.1;refine⟨wOnly ss e,_,rfl,sz.all,ib wf,wf,(ic wf).two,rfl,rfl,rfl,λu H1 s1 hu=>?_⟩;refine⟨atW s0 e0,wOnly ss e,v,u,rfl,hv.mono s1,hu.k,by show [119,101,98]≠[];decide,wf,by show s0.length<=_;lia,by show ss.length<=_;lia,λw H2 s2 mt=>?_⟩;have lr:=AO (b:=atW s0 e0) wf;have l1:(atW s0 e0).steps.length=s0.length:=rfl;have l2:(wOnly ss e).steps.length=ss.length:=rfl;refine⟨_,w,rfl,mt,AN (b:=atW s0 e0) (x:=wOnly ss e) ?_ wf (by show [119,101,98]≠[];decide),`l,λu2 H3 s3 h3=>k u2 H3 (s1.trans (s2.trans s3)) ?_⟩
 .exact cL h0
 rw[pF hw] at h3;exact h3
theorem FY:FnOk P w K mg base CX0 8 g.gH g.gI ["self","name","text"] (sp_Desk_put K g.aR):=by
 refine lnT (g.qr.ok tp) ?_;rintro Ge A Cl s H vs Q E hr ⟨p,x,T,l,t,rfl,hd,Gd,hG,k⟩
 exists tp.nd,FV,Fj,Fi,uB,hint 1 532
 obtain⟨dx,v0,ws,hp,Ga,hl,hT⟩:=id hd;have hwl:=hT.length;obtain⟨gn,gp,go⟩:=hG;have w1:PcWs t.2.1 (t.2.1.map pcT):=oq λc hc=>CN (go.2 c hc).1 (gp.2.1 c hc);fail "r";refine⟨t.1,rfl,gn,λH1 s1=>⟨true,rfl,ite2 `E (λ_=>cz (s1 _ _ hp) g.aS g.bn ⟨l,ws,_,rfl,s1 _ _ hl,`l,true,rfl,ite2 `E (λ_=>cz (s1 _ _ hp) g.aS g.bn ?_)⟩)⟩⟩;refine⟨t.2.1,t.2.2,t.2.1.map pcT,rfl,w1,λw hw=>?_,gp,λv H2 s2 hv=>?_⟩
 .obtain⟨c,hc,rfl⟩:=mem_map.mp hw;exact cy (go.2 c hc).1 (gp.2.1 c hc)
 have dl:=s1.trans s2;obtain⟨pt,rfl,Gb⟩:=Dk hv;refine⟨l,pt,T,ws,t,rfl,dl _ _ hl,hT.mono dl.toT,`l,Gb,λl' Fr H3 nl s3 Fn Gc=>?_⟩;have BT:=dl.trans s3;have mt:=BT _ _ hp;refine⟨p,_,dx,_,rfl,mt,g.aS,g.bn,by show 2 < 1000;decide,?_⟩;rw[show ofString "ok"=mkS wOk by fail "k"];refine k _ l' (Wm.Same.free dl nl) (BT.but.trans ag) ⟨dx,v0,Fr,by rw[aB];exact congrArg (λz=>some (HO.ins g.aR dx z)) Da,Wm.IsK.but ag mt (Ga.mono BT),?_,Gc.mono (sb_T ag mt)⟩;rw[aD (aY Fn mt (by intro z;cases z))];exact Fn
theorem FZ:FnOk P w K mg base CX0 8 g.gJ g.gK ["self","one","other"] (sp_Desk_both K g.aR):=by
 refine lnT (g.qu.ok tq) ?_;rintro Gc A mt s H vs Q E hr ⟨p,x,T,l,t,u,rfl,hd,BT,ht,hu,gt,gu,k⟩
 exists tq.nd,uE,F2,uN
 obtain⟨dx,v0,ws,hp,Gb,hl,hT⟩:=id hd;fail "r";refine cz hp g.aS g.bn ⟨l,T,ws,t.1,t,rfl,hl,hT,jC BT ht,λp1 H1 s1 Ga=>cz (s1 _ _ hp) g.aS g.bn ⟨l,T,ws,u.1,u,rfl,s1 _ _ hl,hT.mono s1.toT,jC BT hu,λp2 H2 s2 Fr=>?_⟩⟩;obtain⟨q1,xs,a1,a2,a3⟩:=Ga.mono s2.toT;obtain⟨q2,ys,b1,b2,b3⟩:=Fr;have dl:=s1.trans s2;have ot:∀c∈t.2.1,PcOk c:=λc hc=>(gt.2.2.2 c hc).1;have ou:∀c∈u.2.1,PcOk c:=λc hc=>(gu.2.2.2 c hc).1;have tl:=gt.2.1.2.2.2.1;have ul:=gu.2.1.2.2.2.1;refine⟨t.2.1,u.2.1,xs,ys,p1,q1,p2,q2,t.2.2,u.2.2,rfl,.of a1,a2,a3.all,.of b1,b2,b3.all,`l,`l,ot,ou,λhm H3 s3=>?_,λw r z H3 hm s3 Fn Cl=>?_⟩
 .have e:bthT t u=wNone:=by unfold bthT;rw[hm]
  have:=k H3 (dl.trans s3);rw[e] at this;refine ite2 (λ_=>?_) `a;rw[show ofString "none"=mkS wNone by fail "k"];exact this
 .obtain⟨f1,f2,f3,f4⟩:=oQ ot ou hm;have e:bthT t u=wayT true w t.2.2:=by unfold bthT;rw[hm]
  have:=k H3 (dl.trans s3);rw[e] at this;refine ite2 `E (λ_=>⟨true,t.2.2,w,r,z,rfl,.of Fn,.of Cl,λs hs=>⟨by have:=(f3 s hs).2.1;lia,(f3 s hs).2.2⟩,`l,?_,λH4 s4=>?_⟩)
  .have hj:=(bB 47 900 (ws:=w.map wr) λx hx=>by
    obtain⟨s,hs,rfl⟩:=mem_map.mp hx;have:=au s;have:=(f3 s hs).2.1;lia).1
   rw[length_map] at hj;unfold wayT;simp only[length_append];split <;> split <;> simp only[length_cons,length_nil] <;> lia
  .rw[<- e];exact k H4 ((dl.trans s3).trans s4)
theorem G0:FnOk P w K mg base CX0 9 g.gL g.gM ["self","text"] (sp_Desk_go K g.aR):=by
 refine lnT (g.qw.ok tw) ?_;rintro Cl A dl s H vs Q E hr ⟨p,s0,ss,e0,e,T,l,rfl,hd,h0,hw,k⟩
 nomatch (a8 (kP (pv 0) (aT (pv 0) g.aS g.rB (FX g) (hr.mono `d) g.qq .nil pass0 (a6 (pv 1) aA)) rfl)
   (aC `D)),tw.nd,k6
 fail "r";obtain⟨dx,v0,ws,hp,mt,hl,hT⟩:=id hd;refine aj hd.dsk ⟨p,s0,ss,e0,e,rfl,hd.dsk,h0,hw,λu H1 s1 hu=>?_⟩;have d2:=D5 (s1 _ _ hp) hu;have t2:DsT K (upd H1 p (.ins g.aR dx (putF (ofString "address") u [("address",v0),("table",.ref l)]))) g.aR p (atW ss e) T l:=by have BT:=aY (s1 _ _ hl) (s1 _ _ hp) (by intro z;cases z);refine⟨dx,u,ws,by rw[aB];exact congrArg (λz=>some (HO.ins g.aR dx z)) pC,Wm.IsK.but ag (s1 _ _ hp) hu,by rw[aD BT];exact s1 _ _ hl,(hT.mono s1.toT).mono (sb_T ag (s1 _ _ hp))⟩
 refine⟨p,_,dx,_,rfl,s1 _ _ hp,g.aS,g.cQ,by show 2 < 1000;decide,j8 d2 g.aS g.cQ λv hv=>?_⟩;exact⟨_,v,rfl,hv,cL hw,pE hw,rfl,rfl,λH3 s3=>k _ H3 ((s1.but.trans ag).trans s3.but) (t2.same s3)⟩
theorem bD:FnOk P w K mg base CX0 10 g.gN g.gO ["self","row"] (sp_Desk_say K g.aR):=by
 refine lnT (g.r8.ok tz) ?_;rintro Gk A BT s H vs Q E hr ⟨p,s0,e0,T,lt,row,rfl,hd,hw,k⟩
 nomatch (a8 `D
   (a8 `D
   (a8 (aL `D
    (aC (aI (aT (pv 0) g.aS g.rE (G0 g) (hr.mono `d) g.qz .nil pass0 (a6 `D aA)))) aO)
   (a8 `D
   (a8 (aL `D
    (aC (aI (aT (pv 0) g.aS g.rC (FY g) (hr.mono `d) g.qt .nil pass0 (a6 `D (a6 `D aA))))) aO)
   (a8 `D
   (aC (aI (aT (pv 0) g.aS g.rD (FZ g) (hr.mono `d) g.qv .nil pass0 (a6 `D (a6 `D aA))))))))))),tz.nd,uM,FH,F3,g.cN,hint 1 516,hint 1 512
 have e1:ofString "at"=mkS [97,116]:=by fail "k"
 have e2:ofString "go"=mkS wGo:=by fail "k"
 have e3:ofString "link"=mkS [108,105,110,107]:=by fail "k"
 have e4:ofString "add"=mkS wAdd:=by fail "k"
 have e5:ofString "lead"=mkS wLead:=by fail "k"
 rw[e1,e2,e3,e4,e5];fail "r";have ix:∀{H1:Hp}{l:Addr}{xs:`V}{i:Int}{v:V}{R:VK},H1 l=some (.lst xs)->atI xs i=some v->R v H1->rIy K (.ref l) (.int i) H1 R:=λh a r=>by fail "r";exact⟨_,_,.inl (.of h),a,r⟩
 have no:∀{H1:Hp}{l:Addr}{a:Tq}{xs:`V}{b:Str}{R:VK},H1 l=some (.lst (tV a::xs))->R (.bl (decide (mkS a=b))) H1->rIy K (.ref l) (.int 0) H1 λx H1=>rEq x (.str b) H1 R:=λh r=>ix h iQ (aF.mpr r);obtain⟨dx,v0,ws,hp,Gi,Gg,hT⟩:=id hd;rcases k with⟨rfl,h6,Fn,hG,Fr,k⟩|⟨ss,e,rfl,Cl,k⟩|⟨t,rfl,gt,Fr,k⟩|⟨t,u,rfl,Gf,ht,hu,gt,gu,k⟩
 .refine⟨_,[wLead],rfl,.inl `R,λl H1 s1 dl=>no dl ⟨false,`k,no dl ⟨false,`k,no dl ⟨false,`k,no dl ⟨false,`k,no dl ⟨true,`k,?_⟩⟩⟩⟩⟩⟩;simp only[if_true];refine cz (s1 _ _ hp) g.aS g.bn (j8 (hd.same s1).dsk g.aS g.cQ λv hv=>?_);obtain⟨pu,uw,uq,rfl,Gc,Ga,Gj⟩:=bR hv;fail "r";refine⟨_,_,.inr Gc,a7 (j:=3) rfl,?_⟩;obtain⟨pw,ps,rfl,Gb,Gd⟩:=cq Ga;have mt:∀s∈s0,(∀c∈s,isSg c=true)/\s.length<=70:=λs hs=>⟨(hw.2.1 s hs).1.2.2,Fn s hs⟩;refine⟨lt,pw,ps,T,ws,true,e0,s0,rfl,s1 _ _ Gg,hT.mono s1.toT,λt ht=>(hG t ht).2.2,`l,Gb,Gd,`l,λs hs=>by have:=Fn s hs;lia,λhf H2 s2=>⟨_,rfl,.inl ⟨rfl,?_⟩⟩,λb L hf p2 l' ys H2 s2 Ge Gh hB=>⟨_,rfl,.inr ⟨p2,l',_,_,ys,rfl,Ge,Gh,hB,?_,?_,?_,λH3 s3=>?_⟩⟩⟩
  .have:=k H2 (s1.trans s2);unfold ldT at this;rw[hf] at this;exact this
  .exact (fL (hG _ (c9 hf).1) (c9 hf).2 mt h6).1
  .exact (fL (hG _ (c9 hf).1) (c9 hf).2 mt h6).2.1
  .exact (fL (hG _ (c9 hf).1) (c9 hf).2 mt h6).2.2
  .have:=k H3 ((s1.trans s2).trans s3);unfold ldT at this;rw[hf] at this;exact this
 .refine⟨_,[wGo,(wOnly ss e).shw],rfl,.inr (.inl ⟨_,rfl,(cM Cl).all,rfl⟩),λl H1 s1 dl=>no dl ⟨false,`k,no dl ⟨true,`k,?_⟩⟩⟩;refine aj (hd.same s1).dsk (ix dl (a7 (j:=1) rfl) ?_);exact⟨p,s0,ss,e0,e,T,lt,rfl,hd.same s1,hw,Cl,λt H2 s2 d2=>k t H2 (s1.but.trans s2) d2⟩
 .refine⟨_,[wAdd,t.1,slT true (t.2.1.map pcT) t.2.2],rfl,.inr (.inr (.inl ⟨_,_,rfl,gt.1,?_,rfl⟩)),λl H1 s1 dl=>no dl ⟨false,`k,no dl ⟨false,`k,no dl ⟨false,`k,no dl ⟨true,`k,?_⟩⟩⟩⟩⟩
  .have:=(bB 47 700 (ws:=t.2.1.map pcT) λw hw=>by
    obtain⟨c,hc,rfl⟩:=mem_map.mp hw;exact cy (gt.2.2.2 c hc).1 (gt.2.1.2.1 c hc)).1
   rw[length_map] at this;have:=gt.2.1.2.2.2.1;unfold slT;simp only[length_append];split <;> split <;> simp only[length_cons,length_nil] <;> lia
  refine aj (hd.same s1).dsk (ix dl (a7 (j:=1) rfl) (ix dl (a7 (j:=2) rfl) ?_));exact⟨p,_,T,lt,t,rfl,hd.same s1,Fr,gt,λH2 l' nl s2 d2=>k H2 l' (Wm.Same.free s1 nl) (s1.but.trans s2) d2⟩
 .refine⟨_,[wBoth,t.1,u.1],rfl,.inr (.inr (.inr ⟨_,_,rfl,gt.1,gu.1,rfl⟩)),λl H1 s1 dl=>no dl ⟨false,`k,no dl ⟨false,`k,no dl ⟨false,`k,no dl ⟨false,`k,no dl ⟨false,`k,?_⟩⟩⟩⟩⟩⟩;refine aj (hd.same s1).dsk (ix dl (a7 (j:=1) rfl) (ix dl (a7 (j:=2) rfl) ?_));exact⟨p,_,T,lt,t,u,rfl,hd.same s1,Gf,ht,hu,gt,gu,λH2 s2=>k H2 (s1.trans s2)⟩
theorem uQ:g.Ey.Ok P w base 11 (sp__law_both K g.aR):=by
 refine lnF js ?_;rintro Gz A Gg s H vs Q E hr ⟨p,a,b,s0,e0,T,lt,t,u,rfl,hd,hw,Gu,ht,hu,gt,gu,ha,hb,k⟩
 nomatch (a8 (sx 3 js.nd (aT (pv 0) g.aS g.ay (bD g) (hr.mono `d) g.ax .nil pass0 (a6 `D aA)))
   (a8 `D
   (a8 `D
   (a8 `D
   (a8 (aL (PW.pt (ao (ptm (mM (K:=K) rfl hr.units) (bJ (ba (K:=K) rfl) (pv 4) bH (bI aZ)) `D) (ao (ptm (mM (K:=K) rfl hr.units) (bJ (ba (K:=K) rfl) (pv 4) (bI aZ) bH) `D) (bF `D))))
    `D aO)
   (aC `D)))))),js.nd,Fm,F7,k7,uN,hint 2 0,g.aw,g.ak
 have e0:ofString "none"=mkS wNone:=by fail "k"
 have e1:ofString " "=mkS [32]:=by fail "k"
 have e2:ofString "both "=mkS (wBoth++[32]):=by fail "k"
 rw[e0,e1,e2];obtain⟨a',pa,ea,Gc,qa,xs,Gn,Gk,Gi⟩:=ha;cases ea;obtain⟨b',pb,eb,Gb,qb,ys,Gm,Gj,Gh⟩:=hb;cases eb;fail "r";have ot:∀c∈t.2.1,PcOk c:=λc hc=>(gt.2.2.2 c hc).1;have ou:∀c∈u.2.1,PcOk c:=λc hc=>(gu.2.2.2 c hc).1;have tl:=gt.2.1.2.2.2.1;have ul:=gu.2.1.2.2.2.1;have n1:=gt.1.1.2;have n2:=gu.1.1.2;have ad:∀{a b:Tq}{H1:Hp}{Q1:VK},a.length+b.length<=2000->Q1 (tV (a++b)) H1->rAddS K (tV a) (tV b) H1 Q1:=λhl h=>bQ.mpr ⟨a9 (by rw[aE,aE];lia),by rw[ah];exact h⟩;have wl:(wBoth++[32]).length=5:=rfl;refine aj hd.dsk ⟨_,_,.inr (.of Gc),a7 (j:=0) rfl,ad `l (ad (by simp only[length_append,length_singleton,wl];lia) ⟨_,_,.inr (.of Gb),a7 (j:=0) rfl,ad (by simp only[length_append,length_singleton,wl];lia) ?_⟩)⟩;refine⟨p,s0,_,T,lt,_,rfl,hd,hw,.inr (.inr (.inr ⟨t,u,by simp only[append_assoc];rfl,Gu,ht,hu,gt,gu,λH1 s1=>?_⟩))⟩;refine⟨_,_,.inr (.of (s1 _ _ Gc)),a7 (j:=1) rfl,_,_,.inr (.of (s1 _ _ Gb)),a7 (j:=1) rfl,?_⟩;refine⟨t.2.1,u.2.1,xs,ys,pa,qa,pb,qb,t.2.2,u.2.2,rfl,.of (s1 _ _ Gn),s1 _ _ Gk,(Gi.mono s1.toT).all,.of (s1 _ _ Gm),s1 _ _ Gj,(Gh.mono s1.toT).all,`l,`l,ot,ou,λhm H3 s3=>?_,λw r z H3 hm s3 Gx Gw=>?_⟩
 .have e:bthT t u=wNone:=by unfold bthT;rw[hm]
  refine ite2 (λ_=>?_) `a;rw[e];refine aF.mpr ?_;rw[decide_eq_true rfl];exact k H3 (s1.trans s3)
 obtain⟨f1,f2,f3,f4⟩:=oQ ot ou hm;have Gy:=(C8 f1).2.2.2.2;have wy:WyOk w t.2.2:=⟨`l,λl hl=>⟨⟨length_pos_iff.mpr (f3 l hl).1,(f3 l hl).2.1,(f3 l hl).2.2⟩,Gy l hl⟩,λz=>gt.2.1.2.2.2.2 (length_eq_zero_iff.mp (by rw[z,length_nil] at f4;lia))⟩;have e:bthT t u=wayT true w t.2.2:=by unfold bthT;rw[hm]
 rw[e,<- jA];have wf:=d0 wy;have sz:=cM wy;refine ite2 `E (λ_=>⟨_,cg,ite2 (λz=>absurd z `d) (λ_=>aF.mpr ⟨false,?_,?_⟩)⟩)
 .refine congrArg V.bl (decide_eq_false λz=>?_);have:=aH.mp z;rw[jA] at this;unfold wayT at this;rw[if_pos rfl] at this;injection this with this;cases this
 rw[if_neg `d];refine⟨wOnly w t.2.2,_,rfl,sz.all,ib wf,wf,(ic wf).two,rfl,rfl,rfl,λv H4 s4 hv=>?_⟩;obtain⟨pu,uw,uq,rfl,dl,Gq,Gs⟩:=ma hv;fail "r";obtain⟨pw,ps,rfl,Fr,Ga⟩:=AS Gq;have Gr:uq=.non:=by cases Gs;rfl
 subst Gr;refine⟨_,.of dl,λp5 H5 s5 h5=>⟨`d,λp6 H6 n6 s6 h6=>⟨.tuple [st [],.none,.none],.tuple [st [],.none,.none],(IsK.tup (show SqT K H5 p5 [.str (mkS []),.non,.non] from h5) (.cons (.str _) (.cons .non (.cons .non .nil)))).mono s6,.tup (.inl (.inl h6)) (.cons (.str _) (.cons .non (.cons .non .nil))),`k,`k,false,congrArg V.bl `k,?_⟩⟩⟩;rw[if_neg `d];have Go:=s5.trans s6;refine⟨_,.of (Go _ _ dl),λp7 H7 s7 h7=>⟨`d,λp8 H8 n8 s8 h8=>⟨.tuple [.none,.none],.tuple [.none,.none],(IsK.tup (show SqT K H7 p7 [.non,.non] from h7) (.cons .non (.cons .non .nil))).mono s8,.tup (.inl (.inl h8)) (.cons .non (.cons .non .nil)),`k,`k,false,congrArg V.bl `k,?_⟩⟩⟩;rw[if_neg `d];have mt:=Go.trans (s7.trans s8);have Gv:=s1.trans (s3.trans (s4.trans mt));have Gd:∀s∈w,0 < s.length/\s.length<=1000/\∀c∈s,isSg c=true:=λs hs=>⟨length_pos_iff.mpr (f3 s hs).1,by have:=(f3 s hs).2.1;lia,(f3 s hs).2.2⟩;refine⟨_,_,.inr (.of (mt _ _ dl)),a7 (j:=3) rfl,pw,ps,true,t.2.2,w,rfl,mt _ _ Fr,mt _ _ Ga,`l,λs hs=>(f3 s hs).1,λH9 s9=>⟨true,rfl,ite2 `E (λ_=>?_)⟩⟩;have Fn:=mt.trans s9;have Cl:=Gv.trans s9;refine⟨_,_,.inr (.of (Cl _ _ Gc)),a7 (j:=1) rfl,_,_,.inr (.of (Fn _ _ dl)),a7 (j:=3) rfl,t.2.1,xs,pa,qa,pw,ps,t.2.2,true,t.2.2,w,rfl,.of (Cl _ _ Gn),Cl _ _ Gk,Gi.mono Cl.toT,gt.2.2.1,gt.2.2.2,.of (Fn _ _ Fr),Fn _ _ Ga,`l,Gd,λH10 Gf=>⟨_,rfl,?_⟩⟩;rw[f1];have BT:=Cl.trans Gf;have Ge:=Fn.trans Gf;refine ite2 (λ_=>⟨_,_,.inr (.of (BT _ _ Gb)),a7 (j:=1) rfl,_,_,.inr (.of (Ge _ _ dl)),a7 (j:=3) rfl,u.2.1,ys,pb,qb,pw,ps,u.2.2,true,t.2.2,w,rfl,.of (BT _ _ Gm),BT _ _ Gj,Gh.mono BT.toT,gu.2.2.1,gu.2.2.2,.of (Ge _ _ Fr),Ge _ _ Ga,`l,Gd,λH11 Gp=>?_⟩) `a;rw[f2];exact k H11 (BT.trans Gp)
theorem G1:g.Ez.Ok P w base 11 (sp__law_goes_on K g.aR):=by
 refine lnF gb ?_;rintro GV A Gj s H vs Q E hr ⟨p,l,r,t,a,lt,e,ss,T,ws,sg,is,rfl,hd,hw,hl,hT,hG,GU,Ge,Gd,Gp,BT,hS,G9,G8,G7,k⟩
 nomatch (a8 (sx 5 gb.nd (gs g.jY (uP g) (hr.mono `d) rfl g.jX g.jU .nil pass0 (a6 aJ aA)))
   (a8 (b8 PassesOwn.never rfl (bX rfl g.bU.1 (a6 aZ aA)) (pgn 6 gb.nd)
   (a8 `D
   (ac `D
   (a8 (bf (aT (pv 0) g.aS g.ay (bD g) (hr.mono `d) g.ax .nil pass0 (a6 `D aA)))
   (aC (aL (PW.pt (ao (ptm bM (aT (pv 0) g.aS g.ay (bD g) (hr.mono `d) g.ax .nil pass0 (a6 aJ aA)) `D) (bF (ptm bM (aT (pv 5) g.aS g.ay (bD g) (hr.mono `d) g.ax .nil pass0 (a6 aJ aA)) aJ))))
    `D aO))))))
   (a8 (bf (aT (pv 0) g.aS g.ay (bD g) (hr.mono `d) g.ax .nil pass0 (a6 `D aA)))
   (aC (aI (pcm cY (aT (pv 0) g.aS g.ay (bD g) (hr.mono `d) g.ax .nil pass0 (a6 aJ aA)) `D)))))),gb.nd,uO,k6,dh,uG,uK,hint 2 0,hint 7 0,hint 3 0,g.aK
 have e0:ofString "none"=mkS wNone:=by fail "k"
 have e1:ofString "go "=mkS (wGo++[32]):=by fail "k"
 have e2:ofString "lead"=mkS wLead:=by fail "k"
 have e3:ofString "web://a/b"=mkS (atW [[98]] false).shw:=by fail "k"
 rw[e0,e1,e2,e3];fail "r";have Cl:WyOk [[98]] false:=⟨`d,(λl hl=>by rw[mem_singleton.mp hl];exact⟨⟨`d,`d,`k⟩,`k⟩),λz=>by cases z⟩;have GD:=cL Cl;refine λpb dx np nd ne=>⟨pb,dx,[[98]],false,_,rfl,aB,(pE Cl).all,ib GD,Cl,(ic GD).two,λH2 lb nl sb db=>⟨rfl,`d,`d,?_⟩⟩;have s2:Same H H2:=((pB nd).trans sb).same np;have GG:pb≠p:=λz=>by obtain⟨_,_,_,hp,_⟩:=hd;rw[z,hp] at np;cases np
 have d2:=hd.same s2;have wy:∀{s:List Tq}{b:Bool},s.length<=6->(∀l∈s,StOk l)->(s=[]->b=true)->WyOk s b:=λh1 h2 h3=>⟨`l,λl hl=>⟨⟨(h2 l hl).1,by have:=(h2 l hl).2.1;lia,(h2 l hl).2.2.1⟩,(h2 l hl).2.2.2⟩,h3⟩;have ad:∀{a b:Tq}{H1:Hp}{Q1:VK},a.length+b.length<=100000->Q1 (tV (a++b)) H1->rAddS K (tV a) (tV b) H1 Q1:=λhl h=>bQ.mpr ⟨a9 (by rw[aE,aE];lia),by rw[ah];exact h⟩;have wl:(wGo++[32]).length=3:=rfl;refine br (λi Z H'=>SameBut p H2 H'/\Ex6 λ(s1:List Tq) (b1:Bool) (v6 v7 v8 v9:Option V)=>Z=[some (.ref p),some (.ref l),some (.ref r),some (.ref a),some (tV sg),some (.ref pb),v6,v7,v8,v9]/\DsT K H' g.aR p (atW s1 b1) T lt/\WyOk s1 b1) ⟨λ_ _ _ h=>h,ss,e,none,none,none,none,rfl,d2,hw⟩ ?_ ?_
 .rintro i Z H3 hi ⟨mt,s1,b1,v6,v7,v8,v9,rfl,d3,w1⟩;have GC:=d2.keepS mt (s2.seq hS);have Gg:=d2.keepT mt;have GJ:=Gg _ _ (s2 _ _ Ge);have GI:=Gg _ _ (s2 _ _ Gd);fail "r";refine⟨.inl ⟨`d,`d⟩,a,is,46+4 * i,sg,by rw[show (46:Int)+4 * (0+(i:Int))=((46+4 * i:Nat):Int) by lia],GC,G9,G8,G7,λrO tO bO sO H4 s4 Gz Gq GA Gv Go=>?_⟩;refine⟨λZ H5=>Same H3 H5/\Ex6 λ(rO tO:Addr) (bO:Bool) (sO:List Tq) (v8 v9:Option V)=>Z=[some (.ref p),some (.ref l),some (.ref r),some (.ref a),some (tV sg),some (.ref pb),some (.int (0+(i:Int))),some (.ref rO),v8,v9]/\H5 rO=some (.tup [.bl true,.ref tO,.bl bO])/\H5 tO=some (.tup (sO.map tV))/\sO.length<=6/\(∀s∈sO,StOk s)/\(sO=[]->bO=true),?_,?_⟩
  .have Gu:=s4 _ _ GJ;have Gn:=s4 _ _ GI;refine⟨_,_,.inr (.of Gu),a7 (j:=1) rfl,`d,λp5 H5 n5 s5 GO=>?_⟩;have Ga:=s4.trans s5;refine⟨.tuple (ss.map st),.tuple [],.tup (s5 _ _ Gn) (iu ss),.tup GO .nil,A2 λl hl=>(BT l hl).2.2.1,`k,_,rfl,ite2 (λGP=>⟨`d,ite2 (λ_=>?_) (λ_=>⟨Ga,rO,tO,bO,sO,_,_,rfl,s5 _ _ Gv,s5 _ _ Go,Gz,Gq,GA⟩)⟩) (λ_=>⟨Ga,rO,tO,bO,sO,_,_,rfl,s5 _ _ Gv,s5 _ _ Go,Gz,Gq,GA⟩)⟩;have GN:0 < ss.length:=by
    cases ss with
    |nil=>exact absurd GP `d
    |cons a b=>exact Nat.succ_pos _
   refine⟨a,is,47+i,by rw[show (47:Int)+(0+(i:Int))=((47+i:Nat):Int) by lia],Ga.seq GC,_,_,.inr (.of (s5 _ _ Gu)),a7 (j:=1) rfl,?_⟩;fail "r";refine⟨_,.inr (.of (s5 _ _ Gn)),?_⟩;rw[length_map];obtain⟨m,hm,em⟩:∃m:Nat,m < ss.length/\is.getD (47+i) 0 % (ss.length:Int)=(m:Int):=by have h1:=Int.emod_nonneg (is.getD (47+i) 0) (show (ss.length:Int)≠0 by lia);have h2:=Int.emod_lt_of_pos (is.getD (47+i) 0) (show (0:Int) < (ss.length:Int) by lia);exact⟨(is.getD (47+i) 0 % (ss.length:Int)).toNat,`l,`l⟩
   rw[em];refine⟨`l,a,is,50+i,by rw[show (50:Int)+(0+(i:Int))=((50+i:Nat):Int) by lia],Ga.seq GC,_,sg,rfl,G9,G8,G7,λl6 H6 s6 ol=>?_⟩;have Gs:=s6 _ _ (s5 _ _ Gu);have GH:=s6 _ _ (s5 _ _ Gn);refine⟨_,_,.inr (.of Gs),a7 (j:=1) rfl,?_⟩;fail "r";refine⟨_,GH,λq1 H7 s7 Gy=>⟨`d,λq2 H8 n8 s8 GM=>?_⟩⟩;rw[oC] at Gy;have GR:((ss.map tV).take m).length<=6:=by rw[length_take,length_map];lia
   refine .inr ⟨_,_,s8 _ _ Gy,GM,a9 (by simp only[length_cons,length_nil];lia),λq3 H9 s9 GL=>?_⟩;have Gi:=s7.trans (s8.trans s9);refine⟨_,_,.inr (.of (Gi _ _ Gs)),a7 (j:=1) rfl,?_⟩;fail "r";refine⟨_,Gi _ _ GH,λq4 Ha sa Gx=>?_⟩;rw[show ((m:Int)+1)=((m+1:Nat):Int) by lia,ip] at Gx;have GQ:((ss.map tV).drop (m+1)).length<=6:=by rw[length_drop,length_map];lia
   refine .inr ⟨_,_,sa _ _ GL,Gx,a9 (by rw[length_append];simp only[length_cons,length_nil];lia),λq5 Hb Fr Gw=>?_⟩;have GE:=Gi.trans (sa.trans Fr);have et:(ss.map tV).take m++[tV l6]++(ss.map tV).drop (m+1)=(ss.take m++[l6]++ss.drop (m+1)).map tV:=by rw[map_append,map_append,map_take,map_drop];rfl
   rw[et] at Gw;refine⟨_,_,.inr (.of (GE _ _ Gs)),a7 (j:=2) rfl,`d,λq6 Hc nc sc GK=>⟨Ga.trans (s6.trans (GE.trans sc)),q6,q5,e,ss.take m++[l6]++ss.drop (m+1),_,_,⟨rfl,rfl,rfl⟩,GK,sc _ _ Gw,?_,λz hz=>?_,λz=>by simp at z⟩⟩
   .rw[length_append,length_append,length_take,length_drop,length_singleton];lia
   .rcases mem_append.mp hz with y|y
    .rcases mem_append.mp y with y|y
     .exact BT z (mem_of_mem_take y)
     .rw[mem_singleton.mp y];exact ol
    .exact BT z (mem_of_mem_drop y)
  .rintro Z H5 ⟨s5,rO,tO,bO,sO,v8,v9,rfl,Gr,Gm,Gf,Gb,GS⟩;have wO:=wy Gf Gb GS;have wf:=d0 wO;have sz:=cM wO;have d5:=d3.same s5;fail "r";refine aj d5.dsk ⟨`d,λq H6 n6 s6 hq=>⟨wOnly sO bO,_,rfl,(jB hq (s6 _ _ Gr) (s6 _ _ Gm)).k,wf,sz,rfl,rfl,λH7 s7=>ad (by have:=sz.all;lia) ?_⟩⟩;have Gc:=s6.trans s7;refine⟨p,s1,b1,T,lt,_,rfl,d5.same Gc,w1,.inr (.inl ⟨sO,bO,by simp only[append_assoc];rfl,wO,λtx H8 s8 d8=>?_⟩)⟩;have Fn:SameBut p H2 H8:=mt.trans ((s5.trans Gc).but.trans s8);have hT8:=d2.keepT Fn;refine aj d8.dsk ⟨p,sO,bO,T,lt,_,rfl,d8,wO,.inl ⟨rfl,Gf,λs hs=>(Gb s hs).2.1,hG,`l,λH9 s9=>?_⟩⟩;have Gk:SameT H5 H8:=λb xs h=>(d5.same Gc).keepT s8 _ _ (Gc _ _ h);have dl:SameBut p H2 H9:=Fn.trans s9.but;refine⟨l,rO,tO,T,ws,bO,sO,rfl,d2.keepL dl (s2 _ _ hl),hT.mono λb xs h=>d2.keepT dl _ _ (s2 _ _ h),hG,`l,s9 _ _ (Gk _ _ Gr),s9 _ _ (Gk _ _ Gm),Gf,λs hs=>⟨(Gb s hs).2.2.1,(Gb s hs).2.1⟩,λHa sa=>?_⟩;refine bP.mpr ⟨false,by rw[decide_eq_true rfl];rfl,?_⟩;rw[if_neg `d];have Gh:SameBut p H2 Ha:=dl.trans sa.but;have GT:=db.but d2 GG Gh;refine aj GT.dsk ⟨pb,[[98]],false,[],lb,_,rfl,GT,Cl,.inl ⟨rfl,`d,(λs hs=>by rw[mem_singleton.mp hs];decide),(λr hr=>by cases hr),`d,λHb Fr=>?_⟩⟩;refine bP.mpr ⟨false,by rw[show ldT [] [[98]] false=wNone from rfl,decide_eq_true rfl];rfl,?_⟩;rw[if_neg `d];exact⟨Gh.trans Fr.but,sO,bO,_,_,_,_,⟨rfl,rfl,rfl,rfl⟩,(d8.same (s9.trans sa)).same Fr,wO⟩
 .rintro Z H3 ⟨mt,s1,b1,v6,v7,v8,v9,rfl,d3,w1⟩;have Gg:=d2.keepT mt;have GJ:=Gg _ _ (s2 _ _ Ge);have GI:=Gg _ _ (s2 _ _ Gd);have wf:=d0 hw;have sz:=cM hw;fail "r";refine aj d3.dsk ⟨`d,λq H6 n6 s6 hq=>⟨wOnly ss e,_,rfl,(jB hq (s6 _ _ GJ) (s6 _ _ GI)).k,wf,sz,rfl,rfl,λH7 s7=>ad (by have:=sz.all;lia) ?_⟩⟩;have GF:=s6.trans s7;refine⟨p,s1,b1,T,lt,_,rfl,d3.same GF,w1,.inr (.inl ⟨ss,e,by simp only[append_assoc];rfl,hw,λtx H8 s8 d8=>?_⟩)⟩;have Fn:SameBut p H2 H8:=mt.trans (GF.but.trans s8);refine aj d8.dsk ⟨p,ss,e,T,lt,_,rfl,d8,hw,.inl ⟨rfl,Gp,λs hs=>(BT s hs).2.1,hG,`l,λH9 s9=>?_⟩⟩;have dl:SameBut p H2 H9:=Fn.trans s9.but;have GB:=d2.keepT dl;refine⟨l,r,t,T,ws,e,ss,rfl,d2.keepL dl (s2 _ _ hl),hT.mono λb xs h=>GB _ _ (s2 _ _ h),hG,`l,GB _ _ (s2 _ _ Ge),GB _ _ (s2 _ _ Gd),Gp,λs hs=>⟨(BT s hs).2.2.1,(BT s hs).2.1⟩,λHa sa=>?_⟩;refine aF.mpr ?_;rw[decide_eq_true rfl];exact k Ha
theorem G2:g.EA.Ok P w base 12 (sp__law_two_more K g.aR):=by
 refine lnF gc ?_;rintro Ht A Gy s H vs Q E hr ⟨p,l,n,lt,e,Gb,s0,T,ws,ns,rfl,hd,GR,BT,hw,hl,hT,GS,hG,h0,h5,hn,Hm,GQ,G9,GV,k⟩
 nomatch (a8 (b8 PassesOwn.never rfl (bX rfl g.bU.1 (a6 aZ aA)) (pgn 4 gc.nd)
   (a8 `D
   (a8 `D
   (aC (aL (ptm bM (aT (pv 0) g.aS g.ay (bD g) (hr.mono `d) g.ax .nil pass0 (a6 `D aA)) aJ)
    `D aO)))))
   (a8 (b8 PassesOwn.never rfl (b9 (K:=K) rfl `D) (pgn 6 gc.nd)
   (aC (aL (ptm bM (aT (pv 0) g.aS g.ay (bD g) (hr.mono `d) g.ax .nil pass0 (a6 `D aA)) aJ)
    `D aO)))
   (a8 `D
   (aC `D)))),gc.nd,uQ,uI,hint 2 0
 have e1:ofString " "=mkS [32]:=by fail "k"
 have e2:ofString "both "=mkS (wBoth++[32]):=by fail "k"
 have e3:ofString "add "=mkS (wAdd++[32]):=by fail "k"
 have e4:ofString "ok"=mkS wOk:=by fail "k"
 have e5:ofString "none"=mkS wNone:=by fail "k"
 have e6:ofString "one"=mkS (w12 0):=by fail "k"
 have e7:ofString "two"=mkS (w12 1):=by fail "k"
 have e8:ofString "a"=mkS [97]:=by fail "k"
 rw[e1,e2,e3,e4,e5,e6,e7,e8];fail "r";obtain⟨m4,Gd⟩:∃z,ns[4]?=some z:=⟨_,List.getElem?_eq_getElem `l⟩;obtain⟨m5,Gc⟩:∃z,ns[5]?=some z:=⟨_,List.getElem?_eq_getElem `l⟩;have g4:=G9 m4 (mem_of_getElem? Gd);have g5:=G9 m5 (mem_of_getElem? Gc);obtain⟨R,hR⟩:∃R:List Rw,R=[moR m4 e 0,moR m5 e 1]:=`o;have Hq:R.length=2:=by rw[hR];rfl
 have dl:((T++R).map (·.1)).Nodup/\∀t∈T++R,RwG t:=by
  have nd:(ns.take 4++[m4,m5]).Nodup:=by
   refine List.Sublist.nodup ?_ GQ;have:[m4,m5]=(ns.drop 4).take 2:=by
    refine List.ext_getElem? λi=>?_;match i with
    |0=>rw[List.getElem?_take,if_pos `d,List.getElem?_drop,Gd];rfl
    |1=>rw[List.getElem?_take,if_pos `d,List.getElem?_drop,Gc];rfl
    |i+2=>rw[List.getElem?_take,if_neg `l];rfl
   rw[this];have s:=List.Sublist.append (List.Sublist.refl (ns.take 4)) (take_sublist 2 (ns.drop 4));rw[take_append_drop] at s;exact s
  rw[nodup_append] at nd;refine⟨?_,λt ht=>?_⟩
  .rw[map_append,nodup_append,hR];refine⟨GS,nd.2.1,λa ha b hb=>?_⟩;obtain⟨t,ht,rfl⟩:=mem_map.mp ha;exact nd.2.2 _ (GV t ht) b hb
  .rcases mem_append.mp ht with z|z
   .exact hG t z
   .rw[hR] at z;simp only[mem_cons,not_mem_nil,or_false] at z;rcases z with rfl|rfl
    .exact pK 0 g4
    .exact pK 1 g5
 have GD:∀i,((T++R.take i).map (·.1)).Nodup:=λi=>List.Sublist.nodup (List.Sublist.map _ (List.Sublist.append (List.Sublist.refl T) (take_sublist i R))) dl.1;refine⟨`d,`d,?_⟩;refine br (λi Z H'=>Ot p l H H'/\Ex4 λ(Gv:`V) (lt':Addr) (v4 v5:Option V)=>lt'≠l/\Z=[some (.ref p),some (.ref l),some (.ref n),some (.bl e),v4,v5,none,none]/\DsT K H' g.aR p (atW s0 Gb) (T++R.take i) lt'/\H' l=some (.lst Gv)/\TbV H' (T++R.take i) Gv) ⟨λ_ _ _ _ h=>h,ws,lt,none,none,GR,rfl,by rw[take_zero,append_nil];exact hd,hl,by rw[take_zero,append_nil];exact hT⟩ ?_ ?_
 .rintro i Z H1 hi ⟨Fn,Cl,Fr,v4,v5,Gp,rfl,d1,Ge,Ga⟩;have GC:i < 2:=hi;have GG:=Ga.length;rw[length_append,length_take] at GG;have GX:(T++R.take i).length<=15:=by rw[length_append,length_take];lia
  obtain⟨r,mt⟩:∃r,R[i]?=some r:=⟨_,List.getElem?_eq_getElem `l⟩;have et:R.take (i+1)=R.take i++[r]:=by rw[take_add_one,mt];rfl
  have gr:RwG r:=dl.2 r (mem_append_right _ (mem_of_getElem? mt));have nr:r.1∉(T++R.take i).map (·.1):=λz=>by have:=GD (i+1);rw[et,<- append_assoc,map_append,nodup_append] at this;exact this.2.2 _ z _ (mem_singleton.mpr rfl) rfl
  have er:∃m,ns[4+i]?=some m/\r=moR m e i:=by
   rw[hR] at mt;match i,GC,mt with
   |0,_,mt=>exact⟨m4,Gd,(Option.some.inj mt).symm⟩
   |1,_,mt=>exact⟨m5,Gc,(Option.some.inj mt).symm⟩
  obtain⟨m,hm,rfl⟩:=er;have ew:[V.str (mkS (w12 0)),V.str (mkS (w12 1))][i]?=some (tV (w12 i)):=by
   match i,GC with
   |0,_=>rfl
   |1,_=>rfl
  fail "r";refine⟨`d,λq1 H2 n2 s2 GO=>⟨_,_,.inl (.of GO),by rw[Int.zero_add];exact a7 ew,`d,λq2 H3 n3 s3 GN=>⟨`d,λq3 H4 n4 s4 GM=>⟨`d,λq4 H5 n5 s5 GL=>?_⟩⟩⟩⟩;have Gx:=s2.trans (s3.trans (s4.trans s5));refine⟨⟨_,.of (Gx _ _ Ge)⟩,_,_,.inl (.of (Gx _ _ (hd.otL Fn BT hn))),by rw[show (4:Int)+(0+(i:Int))=((4+i:Nat):Int) by lia];exact a7 (by rw[List.getElem?_map,hm];rfl),`d,λq5 H6 n6 s6 GK=>⟨`d,λq6 H7 n7 s7 G8=>?_⟩⟩;have Gg:=Gx.trans (s6.trans s7);have GB:=Gg _ _ Ge;refine⟨_,GB,Nat.lt_of_le_of_lt (show Cl.length<=100 by lia) `d,?_⟩;generalize hH:upd H7 l (.lst (Cl++[.ref q6]))=H8;have sb:SameBut l H7 H8:=hH▸ag;have GA:H8 l=some (.lst (Cl++[.ref q6])):=hH▸aB;have sT:=fI sb GB;have d8:=(d1.same Gg).butL GB Gp sb;have GT:H8 n=some (.lst (ns.map tV)):=sb _ _ BT (Gg _ _ (hd.otL Fn BT hn));have GP:PtAt H8 [.step (w12 i),.gap [97]] e q5:=⟨q4,[.ref q2,.ref q3],sT _ _ (s7 _ _ GK),sT _ _ ((s6.trans s7) _ _ GL),.cons (sT _ _ ((s4.trans (s5.trans (s6.trans s7))) _ _ GN)) (.cons (sT _ _ ((s5.trans (s6.trans s7)) _ _ GM)) .nil)⟩;have ad:∀{a b:Tq}{H1:Hp}{Q1:VK},a.length+b.length<=20000->Q1 (tV (a++b)) H1->rAddS K (tV a) (tV b) H1 Q1:=λhl h=>bQ.mpr ⟨a9 (by rw[aE,aE];lia),by rw[ah];exact h⟩;have m8:m.length<=8:=gr.1.1.2;have wl:(wAdd++[32]).length=4:=rfl;refine aj d8.dsk ⟨_,_,.inl (.of GT),by rw[show (4:Int)+(0+(i:Int))=((4+i:Nat):Int) by lia];exact a7 (by rw[List.getElem?_map,hm];rfl),ad `l (ad (by simp only[length_append,length_singleton,wl];lia) ⟨_,.ref q6,.inl (.of GA),jD,i8.mpr ⟨_,_,.inr (.of (sT _ _ G8)),a7 (j:=1) rfl,?_⟩⟩)⟩
  .obtain⟨qa,xa,a1,a2,a3⟩:=GP;refine⟨_,e,q5,qa,xa,rfl,.of a1,.of a2,a3.all,by show 2<=12;decide,λc hc=>⟨(gr.2.2.2 c hc).1,gr.2.1.2.1 c hc⟩,λH9 s9=>?_⟩;have sl:(slT true ((moR m e i).2.1.map pcT) e).length<=10000:=by
    have:=(bB 47 700 (ws:=(moR m e i).2.1.map pcT) λw hw=>by obtain⟨c,hc,rfl⟩:=mem_map.mp hw;exact cy (gr.2.2.2 c hc).1 (gr.2.1.2.1 c hc)).1
    rw[length_map,show (moR m e i).2.1.length=2 from rfl] at this;unfold slT;simp only[length_append];split <;> split <;> simp only[length_cons,length_nil] <;> lia
   refine ad (by simp only[length_append,length_singleton,wl];have:(slT true ([Pc.step (w12 i),.gap [97]].map pcT) e).length<=10000:=sl;lia) ?_;refine⟨p,s0,Gb,_,Fr,_,rfl,d8.same s9,hw,.inr (.inr (.inl ⟨moR m e i,by simp only[append_assoc];rfl,gr,GX,λHa l' nl sa da=>?_⟩))⟩;refine bP.mpr ⟨false,by rw[decide_eq_true rfl];rfl,?_⟩;rw[if_neg `d];have GU:=s9 _ _ GA;have GF:=d8.same s9;have Ho:=GF.keepL sa GU;have GW:=GF.keepT sa;have GE:∀{b xs},H1 b=some (.tup xs)->Ha b=some (.tup xs):=λh=>GW _ _ (s9 _ _ (sT _ _ (Gg _ _ h)));have ep:putR (T++R.take i) (moR m e i)=T++R.take (i+1):=by rw[pM nr,et,append_assoc]
   rw[ep] at da;refine⟨λb o Gh Gi h=>sa _ _ Gh (s9 _ _ (sb _ _ Gi (Gg _ _ (Fn b o Gh Gi h)))),Cl++[.ref q6],l',_,_,(λz=>by rw[z,GU] at nl;cases nl),`R,da,Ho,?_⟩;rw[et,<- append_assoc];have Gw:SameT H8 Ha:=λb xs h=>GW _ _ (s9 _ _ h);exact TbV.append (.cons ⟨q6,q5,rfl,Gw _ _ (sT _ _ G8),PtAt.mono Gw ⟨qa,xa,a1,a2,a3⟩⟩ .nil) (Ga.mono λb xs h=>GE h)
 rintro Z H1 ⟨Fn,Cl,Fr,v4,v5,Gp,rfl,d1,Ge,Ga⟩;rw[show R.take (Int.toNat 2)=R by rw[hR];rfl] at d1 Ga;have Go:=hd.otL Fn BT hn;have ad:∀{a b:Tq}{H1:Hp}{Q1:VK},a.length+b.length<=20000->Q1 (tV (a++b)) H1->rAddS K (tV a) (tV b) H1 Q1:=λhl h=>bQ.mpr ⟨a9 (by rw[aE,aE];lia),by rw[ah];exact h⟩;have l4:=g4.1.2;have l5:=g5.1.2;fail "r";refine⟨_,_,.inl (.of Go),a7 (j:=4) (by rw[List.getElem?_map,Gd];rfl),ad (by simp only[length_singleton];lia) ⟨_,_,.inl (.of Go),a7 (j:=5) (by rw[List.getElem?_map,Gc];rfl),ad (by simp only[length_append,length_singleton];lia) ⟨_,_,.inl (.of Go),a7 (j:=5) (by rw[List.getElem?_map,Gc];rfl),ad (by simp only[length_singleton];lia) ⟨_,_,.inl (.of Go),a7 (j:=4) (by rw[List.getElem?_map,Gd];rfl),ad (by simp only[length_append,length_singleton];lia) ⟨`d,λq H2 n2 s2 hq=>⟨⟨_,.of hq⟩,?_⟩⟩⟩⟩⟩⟩;have G7:moR m4 e 0∈T++R:=mem_append_right _ (by rw[hR];simp);have Gz:moR m5 e 1∈T++R:=mem_append_right _ (by rw[hR];simp);have Gs:∀x∈[tV (m4++[32]++m5),tV (m5++[32]++m4)],∃t u:Rw,t∈T++R/\u∈T++R/\x=tV (t.1++[32]++u.1)/\bthT t u=wNone:=λx hx=>by
  simp only[mem_cons,not_mem_nil,or_false] at hx;rcases hx with rfl|rfl
  .exact⟨_,_,G7,Gz,rfl,pL.1⟩
  .exact⟨_,_,Gz,G7,rfl,pL.2⟩
 have d2:=d1.same s2;refine cG (xs:=[tV (m4++[32]++m5),tV (m5++[32]++m4)]) (λi Z H'=>Same H2 H'/\∃v6:Option V,Z=[some (.ref p),some (.ref l),some (.ref n),some (.bl e),v4,v5,v6,none]) ⟨Same.refl _,none,rfl⟩ (λi Z H' _ h=>.of (h.1 _ _ hq)) ?_ ?_
 .rintro i x Z H3 Gn ⟨s3,v6,rfl⟩;obtain⟨t,u,ht,hu,rfl,hb⟩:=Gs x (mem_of_getElem? Gn);have gt:=dl.2 t ht;have gu:=dl.2 u hu;have lt8:=gt.1.1.2;have lu8:=gu.1.1.2;have wl:(wBoth++[32]).length=5:=rfl;fail "r";refine aj (d2.same s3).dsk ⟨a9 (by simp only[length_append,length_singleton] at wl ⊢;lia),?_⟩;refine⟨p,s0,Gb,T++R,Fr,_,rfl,d2.same s3,hw,.inr (.inr (.inr ⟨t,u,by simp only[append_assoc];rfl,dl.1,ht,hu,gt,gu,λH4 s4=>?_⟩))⟩;rw[hb];refine bP.mpr ⟨false,by rw[decide_eq_true rfl];rfl,?_⟩;rw[if_neg `d];exact⟨s3.trans s4,_,rfl⟩
 rintro Z H3 ⟨s3,v6,rfl⟩;have Gm:=s2.trans s3;have d3:=d1.same Gm;have Gq:=Gm _ _ Ge;have Gr:=Ga.mono Gm.toT;have GG:=Gr.length;fail "r";refine⟨⟨_,.of Gq⟩,?_⟩;obtain⟨r0,mt⟩:∃r,(T++R)[0]?=some r:=⟨_,List.getElem?_eq_getElem (by rw[length_append];lia)⟩;obtain⟨v0,GH,w0⟩:=Gr.row mt;have i0:=mem_of_getElem? mt;obtain⟨wz,vz,rfl⟩:∃wz vz,Cl=wz++[vz]:=⟨Cl.dropLast,Cl.getLast (λz=>by rw[z,length_nil,length_append] at GG;lia),(dropLast_concat_getLast _).symm⟩;obtain⟨rz,GI,Gu⟩:=Gr.get (i:=wz.length) (v:=vz) `s;have iz:=mem_of_getElem? GI;obtain⟨a0,p0,rfl,Hs,Hr⟩:=id w0;obtain⟨az,pz,rfl,GZ,GY⟩:=id Gu;refine cG (xs:=wz++[.ref az]) (λi Z H'=>Same H3 H'/\∃v7:Option V,Z=[some (.ref p),some (.ref l),some (.ref n),some (.bl e),v4,v5,v6,v7]) ⟨Same.refl _,none,rfl⟩ (λi Z H' _ h=>.of (h.1 _ _ Gq)) ?_ ?_
 .rintro i x Z H4 Gn ⟨s4,v7,rfl⟩;obtain⟨r,GJ,Gj⟩:=Gr.get Gn;obtain⟨ar,pr,rfl,Hl,Hk⟩:=id Gj;have ir:=mem_of_getElem? GJ;fail "r";refine⟨_,.ref az,.inl (.of (s4 _ _ Gq)),jD,p,ar,az,s0,Gb,T++R,Fr,r,rz,rfl,d3.same s4,hw,dl.1,ir,iz,dl.2 r ir,dl.2 rz iz,Gj.mono s4.toT,Gu.mono s4.toT,λH5 s5=>⟨true,rfl,ite2 `E (λ_=>?_)⟩⟩;have Gf:=s4.trans s5;refine⟨_,.ref a0,.inl (.of (Gf _ _ Gq)),a7 (j:=0) GH,p,a0,ar,s0,Gb,T++R,Fr,r0,r,rfl,d3.same Gf,hw,dl.1,i0,ir,dl.2 r0 i0,dl.2 r ir,w0.mono Gf.toT,Gj.mono Gf.toT,λH6 s6=>⟨true,rfl,ite2 `E (λ_=>⟨Gf.trans s6,_,rfl⟩)⟩⟩
 rintro Z H4 ⟨s4,v7,rfl⟩;have Gk:=Gm.trans s4;fail "r";exact k H4 (T++R) _ Fr (λb o Gh Gi h=>Gk _ _ (Fn b o Gh Gi h)) (d1.same Gk) Gp (Gk _ _ Ge) (Ga.mono Gk.toT) dl.2 (by rw[length_append];lia)
theorem G3:g.f_law.Ok P w base 13 (sp_law K):=by
 refine lnF dS ?_;rintro Ii A GS s H vs Q E hr ⟨a,ns,rfl,hS,hn,k⟩
 nomatch (a8 `D
   (a8 `D
   (a8 `D
   (a8 (sx 4 dS.nd (gs g.jY (uP g) (hr.mono `d) rfl g.jX g.jU .nil pass0 (a6 aJ aA)))
   (a8 (bf (aT (pv 4) g.aS g.ay (bD g) (hr.mono `d) g.ax .nil pass0 (a6 `D aA)))
   (ac (aL (ptm bM (aT (pv 4) g.aS g.ay (bD g) (hr.mono `d) g.ax .nil pass0 (a6 aJ aA)) aJ)
    `D aO)
   (a8 `D
   (a8 (b8 PassesOwn.never rfl (bX rfl g.bU.1 (a6 aZ aA)) (pgn 6 dS.nd)
   (a8 `D
   (a8 `D
   (a8 (cmpS [] [] 9 dS.nd (b9 (K:=K) rfl (pv 5)) ae (px K (pv 0) aZ))
   (ac (aL (ptm bM (aT (pv 4) g.aS g.ay (bD g) (hr.mono `d) g.ax .nil pass0 (a6 `D aA)) aJ)
    `D aO)
   (ac (aL `D
    (aC (gh `D (ud (pv 5) (aW (K:=K) rfl PySem.F.plainAttrs_list PySem.F.slot_list_index PySem.F.type_list_index CC (pv 9) (a6 (pv 8) aA)) wA))) `D)
   (aC (aL (PW.pt (ao (ptm bM (aT (pv 4) g.aS g.ay (bD g) (hr.mono `d) g.ax .nil pass0 (a6 aJ aA)) `D) (bF `D)))
    `D aO))))))))
   (a8 `D
   (aC `D)))))))))),dS.nd,G1,dh,G2,uQ,uO,uI,Fk,FB,k6,uK,F5,F4,hint 10 0,hint 2 0
 have e0:ofString "none"=mkS wNone:=by fail "k"
 have e1:ofString "go "=mkS (wGo++[32]):=by fail "k"
 have e2:ofString "lead"=mkS wLead:=by fail "k"
 have e3:ofString "web://a"=mkS [119,101,98,58,47,47,97]:=by fail "k"
 have e4:ofString "add "=mkS (wAdd++[32]):=by fail "k"
 have e5:ofString "ok"=mkS wOk:=by fail "k"
 have e6:ofString " "=mkS [32]:=by fail "k"
 rw[e0,e1,e2,e3,e4,e5,e6];have ad:∀{a b:Tq}{H1:Hp}{Q1:VK},a.length+b.length<=100000->Q1 (tV (a++b)) H1->rAddS K (tV a) (tV b) H1 Q1:=λhl h=>bQ.mpr ⟨a9 (by rw[aE,aE];lia),by rw[ah];exact h⟩;have wl:(wGo++[32]).length=3:=rfl;fail "r";have GM:∀{ss:List Tq}{e:Bool},ss.length<=6->(∀l∈ss,StOk l)->(ss=[]->e=true)->WyOk ss e:=λh1 h2 h3=>⟨`l,λl hl=>⟨⟨(h2 l hl).1,by have:=(h2 l hl).2.1;lia,(h2 l hl).2.2.1⟩,(h2 l hl).2.2.2⟩,h3⟩;refine⟨a,ns,0,rfl,hS,_,7,rfl,`d,λnm pn H1 h1 h2 Ge s1 h4=>?_⟩;have Go:∀n∈nm,NmOk n:=λn GF=>⟨⟨(h2 n GF).1,(h2 n GF).2.1⟩,(h2 n GF).2.2⟩;refine⟨a,ns,1,rfl,s1.seq hS,_,rfl,λsg H2 Gv Ho Gu s2=>?_⟩;have Hv:=s1.trans s2;refine⟨a,ns,2,sg,rfl,Hv.seq hS,Gv,`l,Gu,λr t e ss H3 s3 Ga BT Gm GY GW=>?_⟩;have HY:=Hv.trans s3;have wy:=GM Ga BT Gm;have wf:=d0 wy;have sz:=cM wy;have GN:WyOk [] true:=⟨Nat.zero_le _,(λ_ h=>nomatch h),λ_=>rfl⟩;refine λp dx np nd ne=>⟨p,dx,[],true,_,rfl,aB,`d,`d,GN,Dc,λH4 lt nl sb d4=>⟨rfl,?_⟩⟩;have Gz:Same H3 H4:=((pB nd).trans sb).same np;refine aj d4.dsk ⟨`d,λq H5 n5 s5 hq=>⟨wOnly ss e,_,rfl,(jB hq ((Gz.trans s5) _ _ GY) ((Gz.trans s5) _ _ GW)).k,wf,sz,rfl,rfl,λH6 s6=>ad (by have:=sz.all;lia) ?_⟩⟩;refine⟨p,[],true,[],lt,_,rfl,d4.same (s5.trans s6),GN,.inr (.inl ⟨ss,e,by simp only[append_assoc];rfl,wy,λtx H7 s7 d7=>?_⟩)⟩;have d6:=d4.same (s5.trans s6);have GP:=Gz.trans (s5.trans s6);have Ie:=d6.keepT s7;refine⟨LwC K g.aR a ns,?_,?_⟩;rotate_left
 .rintro Z H8 ⟨nm,pn,sg,r,t,p,lt,e,ss,rfl,h1,Go,Ge,Gv,Ho,Gu,Ga,BT,Gm,GE,HE,HA,d8,HU⟩;have wy:=GM Ga BT Gm;fail "r";refine⟨`d,λl H9 n9 s9 Gs=>⟨`d,`d,?_⟩⟩;have d9:=d8.same s9;have HI:lt≠l:=λz=>by obtain⟨_,_,_,_,_,Hm,_⟩:=d8;rw[z,n9] at Hm;cases Hm
  have GJ:∀{H':Hp},Ot p l H9 H'->SqL K H' a (ns.map V.int):=λ{H'} o=>by
   obtain⟨_,_,_,ep,_⟩:=id d9;have GU:∀{u:HO},H8 a=some u->a≠l:=λh z=>by rw[z,n9] at h;cases h
   rcases HU with (h|⟨q,h⟩)|h
   .exact .inl (.inl (o _ _ (aY (s9 _ _ h) ep (by intro z;cases z)) (GU h) (s9 _ _ h)))
   .exact .inl (.inr ⟨q,o _ _ (aY (s9 _ _ h) ep (by intro z;cases z)) (GU h) (s9 _ _ h)⟩)
   .exact .inr h
  have HJ:=s9 _ _ GE;have GC:pn≠l:=λz=>by rw[z,n9] at GE;cases GE
  have GX:=s9 _ _ HE;have GV:=s9 _ _ HA;refine br (LwJ K g.aR a pn r p l sg ss nm e H9) ⟨λ_ _ _ _ h=>h,[],[],lt,none,none,none,none,rfl,d9,HI,Gs,.nil,nodup_nil,(λu hu=>by cases hu),Nat.le_refl _,`E,λu hu=>by cases hu⟩ ?_ ?_
  .rintro i Z Ha hi ⟨Fr,T,ws,G7,v6,v7,v8,v9,rfl,da,Gp,Gf,Gi,Gd,GK,Hq,Gn,GG⟩;have Id:i < 5:=hi;have Hs:=GJ Fr;have GI:=d9.otT Fr Gs;have HD:=GI _ _ GX;have H0:=GI _ _ GV;have Hl:=d9.otL Fr GC HJ;have Ic:=Gi.length;fail "r";refine⟨.inl ⟨`d,`d⟩,a,ns,9+7 * i,7,by rw[show (9:Int)+7 * (0+(i:Int))=((9+7 * i:Nat):Int) by lia];rfl,Hs,`d,λHx p4 Hb HN s4 HG=>?_⟩;refine⟨r,t,p4,pn,e,ss,nm,Hx,rfl,s4 _ _ HD,s4 _ _ H0,Ga,BT,HG,HN,s4 _ _ Hl,h1,Go,Ge,Gm,λcs pa Hc oc gp fc s5 Hk=>?_⟩;have Gk:=s4.trans s5;refine⟨a,ns,44+i,by rw[show (44:Int)+(0+(i:Int))=((44+i:Nat):Int) by lia],Gk.seq Hs,rd_I.mpr ⟨`d,?_⟩⟩;obtain⟨j,hj,ej⟩:∃j:Nat,j < 4/\ns.getD (44+i) 0 % 4=(j:Int):=⟨(ns.getD (44+i) 0 % 4).toNat,`l,`l⟩;obtain⟨nj,GD⟩:∃z,nm[j]?=some z:=⟨_,List.getElem?_eq_getElem `l⟩;have HW:=Go nj (mem_of_getElem? GD);have G8:nj∈nm.take 4:=mem_of_getElem? (i:=j) (by rw[List.getElem?_take,if_pos hj];exact GD);rw[ej];refine i8.mpr ⟨_,_,.inl (.of (Gk _ _ Hl)),a7 (by rw[List.getElem?_map,GD];rfl),⟨_,.of (Gk _ _ Gf)⟩,λpk nk=>?_⟩;have gR:RwG (nj,cs,e):=⟨HW,gp,oc⟩;refine e9 (zs:=(T.map λt=>mkS t.1).map V.str) (.of (Gk _ _ Gf)) (a9 `l) nk (by rw[length_map,length_map,Ic]) (λi x z hx hz H1 U s1 hU=>?_) (λHd s6 HF=>?_)
   .obtain⟨t,ht,a',q,rfl,HP,hq⟩:=Gi.get hx;rw[List.getElem?_map,List.getElem?_map,ht] at hz;cases hz;fail "r";exact⟨_,_,.inr (.of ((Gk.trans s1) _ _ HP)),a7 (j:=0) rfl,hU H1 `r⟩
   refine⟨LwD K g.aR p l [some (.ref a),some (.ref pn),some (tV sg),some (.ref r),some (.ref p),some (.ref l),some (.int (0+(i:Int))),some (.ref pa),some (tV nj),some (.ref pk)] ss e T ws pk pa cs nj H9 Ha,?_,?_⟩;rotate_left
   .rintro Z Hf ⟨l',rfl,Gq,Gw,df,mt,Gr,Gb,Gc⟩;fail "r";refine⟨λZ Hg=>Ot p l H9 Hg/\∃Fn:`V,Z=[some (.ref a),some (.ref pn),some (tV sg),some (.ref r),some (.ref p),some (.ref l),some (.int (0+(i:Int))),some (.ref pa),some (tV nj),some (.ref pk)]/\DsT K Hg g.aR p (atW ss e) (putR T (nj,cs,e)) l'/\Hg l=some (.lst Fn)/\TbV Hg (putR T (nj,cs,e)) Fn,?_,?_⟩
    .have HX:inV (tV nj) ((T.map λt=>mkS t.1).map V.str)=T.any λt=>decide (t.1=nj):=by
      rw[ai,Bool.eq_iff_iff,decide_eq_true_eq,any_eq_true,mem_map];exact⟨λ⟨t,h1,h2⟩=>⟨t,h1,decide_eq_true (aH.mp h2)⟩,λ⟨t,h1,h2⟩=>⟨t,h1,by rw[of_decide_eq_true h2]⟩⟩
     have HB:∀v∈(T.map λt=>mkS t.1).map V.str,∃z,v=V.str z:=λv hv=>let ⟨z,_,h⟩:=mem_map.mp hv;⟨z,h.symm⟩
     refine⟨_,_,rfl,.inl (.of Gb),rfl,all_eq_true.mpr λv hv=>?_,?_⟩
     .obtain⟨z,_,rfl⟩:=mem_map.mp hv;rfl
     rw[if_neg `d,HX];refine⟨_,rfl,ite2 (λGg=>⟨`d,λq1 Hg ng dl GB=>?_⟩) (λGg=>?_)⟩
     .obtain⟨y,G9,Hy⟩:=Dn Gg;have ez:∀i:Nat,((T.map λt=>mkS t.1).map V.str)[i]?=((T.map (·.1))[i]?).map tV:=λi=>by rw[List.getElem?_map,List.getElem?_map,List.getElem?_map];cases T[i]? <;> rfl
      have Ib:y < T.length:=by have:=(List.getElem?_eq_some_iff.mp G9).1;rwa [length_map] at this
      refine⟨⟨_,.of (dl _ _ Gb)⟩,_,y,dl _ _ Gb,HB,by rw[ez,G9];rfl,λi hi z=>Hy i hi ?_,?_⟩
      .rw[ez] at z;obtain⟨m,HL,HK⟩:=Option.map_eq_some_iff.mp z;rw[HL,aH.mp (V.str.inj HK)]
      have Cl:=dl _ _ Gr;refine⟨ws,y,Cl,?_,?_⟩
      .unfold ixN;rw[if_pos `l,if_pos `l];rfl
      have sb:SameBut l Hg (upd Hg l (.lst (ws.set y (.ref q1)))):=ag;have sT:=fI sb Cl;refine⟨λb o hp hl h=>sb _ _ hl (dl _ _ (Gq b o hp hl h)),_,rfl,(df.same dl).butL Cl mt sb,aB,?_⟩;rw[Dj Gd G9];exact TbV.set ⟨q1,pa,rfl,sT _ _ GB,Gc.mono λb xs h=>sT _ _ (dl _ _ h)⟩ (Gi.mono λb xs h=>sT _ _ (dl _ _ (Gw _ _ h))) y
     .refine⟨⟨_,.of Gr⟩,`d,λq1 Hg ng dl GB=>?_⟩;have Cl:=dl _ _ Gr;refine⟨_,Cl,Nat.lt_of_le_of_lt (show ws.length<=100 by lia) `d,?_⟩;have sb:SameBut l Hg (upd Hg l (.lst (ws++[.ref q1]))):=ag;have sT:=fI sb Cl;refine⟨λb o hp hl h=>sb _ _ hl (dl _ _ (Gq b o hp hl h)),_,rfl,(df.same dl).butL Cl mt sb,aB,?_⟩;rw[pM λz=>Gg ?_]
      .exact TbV.append (.cons ⟨q1,pa,rfl,sT _ _ GB,Gc.mono λb xs h=>sT _ _ (dl _ _ h)⟩ .nil) (Gi.mono λb xs h=>sT _ _ (dl _ _ (Gw _ _ h)))
      .obtain⟨u,hu,eu⟩:=mem_map.mp z;exact any_eq_true.mpr ⟨u,hu,decide_eq_true eu⟩
    .rintro Z Hg ⟨GT,Fn,rfl,dg,Cl,Gh⟩;have pm:∀u∈putR T (nj,cs,e),RwG u:=λu hu=>(pI hu).elim (GK u) (λz=>by rw[z];exact gR);have pl:=Dh T (nj,cs,e);have GQ:=Di (t:=(nj,cs,e)) Gd;have HR:=d9.otT GT Gs;have GA:=Gh.length;have GR:∀u∈putR T (nj,cs,e),u.1∈nm.take 4:=λu hu=>(pI hu).elim (GG u) (λz=>by rw[z];exact G8);generalize putR T (nj,cs,e)=T' at dg Gh pm pl GQ GA GR;fail "r";refine aj dg.dsk ⟨p,ss,e,T',l',_,rfl,dg,wy,.inl ⟨rfl,Ga,λs hs=>(BT s hs).2.1,pm,`l,λHh s8=>?_⟩⟩;refine⟨l,r,t,T',Fn,e,ss,rfl,s8 _ _ Cl,Gh.mono s8.toT,pm,`l,s8 _ _ (HR _ _ GX),s8 _ _ (HR _ _ GV),Ga,λs hs=>⟨(BT s hs).2.2.1,(BT s hs).2.1⟩,λHi s9=>?_⟩;refine bP.mpr ⟨false,by rw[decide_eq_true rfl];rfl,?_⟩;rw[if_neg `d];have Gj:=s8.trans s9;obtain⟨r0,GZ⟩:∃r,T'[0]?=some r:=⟨_,List.getElem?_eq_getElem pl.2⟩;obtain⟨v0,Hz,w0⟩:=Gh.row GZ;have i0:=mem_of_getElem? GZ;obtain⟨wz,vz,rfl⟩:∃wz vz,Fn=wz++[vz]:=⟨Fn.dropLast,Fn.getLast (λz=>by rw[z,length_nil] at GA;lia),(dropLast_concat_getLast _).symm⟩;obtain⟨rz,HC,GL⟩:=Gh.get (i:=wz.length) (v:=vz) `s;have iz:=mem_of_getElem? HC;obtain⟨a0,p0,rfl,Ih,Ig⟩:=id w0;obtain⟨az,pz,rfl,Ia,HZ⟩:=id GL;refine⟨_,.ref a0,.inl (.of (Gj _ _ Cl)),a7 (j:=0) Hz,_,.ref az,.inl (.of (Gj _ _ Cl)),jD,p,a0,az,ss,e,T',l',r0,rz,rfl,dg.same Gj,wy,GQ,i0,iz,pm r0 i0,pm rz iz,w0.mono Gj.toT,GL.mono Gj.toT,λHj Hu=>⟨true,rfl,ite2 `E (λ_=>?_)⟩⟩;have Gx:=Gj.trans Hu;exact⟨λb o hp hl h=>Gx _ _ (GT b o hp hl h),T',_,l',_,_,_,_,rfl,dg.same Gx,mt,Gx _ _ Cl,Gh.mono Gx.toT,GQ,pm,`l,(λ_=>pl.2),GR⟩
   have Ht:=Gk.trans s6;have dd:=da.same Ht;have GO:(wAdd++[32]).length=4:=rfl;have n8:nj.length<=8:=HW.1.2;refine aj dd.dsk (ad `l (ad (by simp only[length_append,length_singleton,GO];lia) ?_));obtain⟨qa,xa,a1,a2,a3⟩:=id (Hk.mono s6.toT);refine⟨cs,e,pa,qa,xa,rfl,.of a1,.of a2,a3.all,gp.2.2.2.1,λc hc=>⟨(oc.2 c hc).1,gp.2.1 c hc⟩,λHe s7=>?_⟩;have sl:(slT true (cs.map pcT) e).length<=10000:=by
    have:=(bB 47 700 (ws:=cs.map pcT) λw hw=>by obtain⟨c,hc,rfl⟩:=mem_map.mp hw;exact cy (oc.2 c hc).1 (gp.2.1 c hc)).1
    rw[length_map] at this;have:=gp.2.2.2.1;unfold slT;simp only[length_append];split <;> split <;> simp only[length_cons,length_nil] <;> lia
   refine ad (by simp only[length_append,length_singleton,GO];lia) ?_;have de:=dd.same s7;have Gy:=Ht.trans s7;refine⟨p,ss,e,T,G7,_,rfl,de,wy,.inr (.inr (.inl ⟨(nj,cs,e),by simp only[append_assoc];rfl,gR,`l,λHf l' nl sf df=>?_⟩))⟩;refine bP.mpr ⟨false,by rw[decide_eq_true rfl];rfl,?_⟩;rw[if_neg `d];have Gw:SameT Ha Hf:=λb xs h=>de.keepT sf _ _ (Gy _ _ h);have Gr:=de.keepL sf (Gy _ _ Gf);have Gb:=de.keepL sf (s7 _ _ HF);have Gc:PtAt Hf cs e pa:=Hk.mono λb xs h=>de.keepT sf _ _ ((s6.trans s7) _ _ h);have mt:l'≠l:=λz=>by rw[z,Gy _ _ Gf] at nl;cases nl
   have Gq:Ot p l H9 Hf:=λb o hp hl h=>sf _ _ hp (Gy _ _ (Fr b o hp hl h));exact⟨l',rfl,Gq,Gw,df,mt,Gr,Gb,Gc⟩
  .rintro Z Ha ⟨Fr,T,ws,G7,v6,v7,v8,v9,rfl,da,Gp,Gf,Gi,Gd,GK,Hq,Gn,GG⟩;have Hs:=GJ Fr;have GI:=d9.otT Fr Gs;have HD:=GI _ _ GX;have H0:=GI _ _ GV;have Hl:=d9.otL Fr GC HJ;fail "r";refine⟨a,ns,2,rfl,Hs,rd_I.mpr ⟨`d,i6.mpr ?_⟩⟩;refine⟨p,l,pn,G7,_,e,ss,T,ws,nm,rfl,da,Gp,GC,wy,Gf,Gi,Gd,GK,Gn `d,Hq,Hl,h1,Ge,Go,GG,λHb T' Fn Hw ot db mt HM HQ HV GH=>⟨true,rfl,ite2 `E (λ_=>?_)⟩⟩;have HS:=da.otT ot Gf;exact⟨p,l,r,t,a,Hw,e,ss,T',Fn,sg,ns,rfl,db,wy,HM,HQ,HV,GH,HS _ _ HD,HS _ _ H0,Ga,BT,GJ λb o hp hl h=>ot b o hp hl (Fr b o hp hl h),Gv,`l,Gu,λH'=>k H'⟩
 refine aj d7.dsk ⟨p,ss,e,[],lt,_,rfl,d7,wy,.inl ⟨rfl,Ga,λs hs=>(BT s hs).2.1,(λr hr=>by cases hr),`d,λH8 s8=>?_⟩⟩;refine bP.mpr ⟨false,by rw[show ldT [] ss e=wNone from rfl,decide_eq_true rfl];rfl,?_⟩;rw[if_neg `d];have Hr:SameT H3 H8:=λb xs h=>s8.toT _ _ (Ie _ _ (GP _ _ h));exact⟨nm,pn,sg,r,t,p,lt,e,ss,rfl,h1,Go,Ge,Gv,Ho,Gu,Ga,BT,Gm,s8 _ _ (d6.keepL s7 (GP _ _ ((s2.trans s3) _ _ h4))),Hr _ _ GY,Hr _ _ GW,d7.same s8,s8.seq (d6.keepS s7 ((HY.trans GP).seq hS))⟩
end
theorem usl1 {us:List Value}(h:us.length=1):∃x0,us=[x0]:=List.length_eq_one_iff.mp h
local macro_rules|`(tactic| fail "b1")=>`(tactic| exact λ_ _ _ _ _ _ us hl=>by obtain⟨x0,e⟩:=usl1 hl;subst e;rfl)
theorem usl2 {us:List Value}(h:us.length=2):∃x0 x1,us=[x0,x1]:=by
 cases us with
 |nil=>cases h
 |cons x0 l=>obtain⟨x1,rfl⟩:=usl1 (Nat.succ.inj h);exact⟨_,_,rfl⟩
local macro_rules|`(tactic| fail "b2")=>`(tactic| exact λ_ _ _ _ _ _ us hl=>by obtain⟨x0,x1,e⟩:=usl2 hl;subst e;rfl)
theorem usl3 {us:List Value}(h:us.length=3):∃x0 x1 x2,us=[x0,x1,x2]:=by
 cases us with
 |nil=>cases h
 |cons x0 l=>obtain⟨x1,x2,rfl⟩:=usl2 (Nat.succ.inj h);exact⟨_,_,_,rfl⟩
local macro_rules|`(tactic| fail "b3")=>`(tactic| exact λ_ _ _ _ _ _ us hl=>by obtain⟨x0,x1,x2,e⟩:=usl3 hl;subst e;rfl)
theorem usl4 {us:List Value}(h:us.length=4):∃x0 x1 x2 x3,us=[x0,x1,x2,x3]:=by
 cases us with
 |nil=>cases h
 |cons x0 l=>obtain⟨x1,x2,x3,rfl⟩:=usl3 (Nat.succ.inj h);exact⟨_,_,_,_,rfl⟩
theorem usl5 {us:List Value}(h:us.length=5):∃x0 x1 x2 x3 x4,us=[x0,x1,x2,x3,x4]:=by
 cases us with
 |nil=>cases h
 |cons x0 l=>obtain⟨x1,x2,x3,x4,rfl⟩:=usl4 (Nat.succ.inj h);exact⟨_,_,_,_,_,rfl⟩
noncomputable abbrev fo (n:Str)(s:Stmt)(d k a b:Value)(e:Option Addr)(c t:Value):FuncData:=W.fnOf n n (defArgs s) (defBody s) (defScope s) d k a b e c t
theorem G4 {l:PySem.W.OpenLaw}{w:World}{K:`F}{h:Heap}{mg:Str->Option Value}{fa:Addr}(X:K.In h)(Gl:h.Ns mainGlobals mg)(hfa:mg "law"=some (.ref fa))(d:D K mg)
  {kC_Cursor:Addr} (aC_Cursor:W.nsIn K mainGlobals "Cursor"=some (some (.ref kC_Cursor)))
  {kC_Desk:Addr} (aC_Desk:W.nsIn K mainGlobals "Desk"=some (some (.ref kC_Desk)))
  (a19:W.findIn K (.ref kC_Cursor) "__init__"=some (some (.ref f19))) (i19:W.isFn K (.ref f19)=true) (l19:K.lookup f19=some ⟨oc19,od19,.func (W.fnOf "__init__" "Cursor.__init__" (defArgs (inClass (top 113) 0)) (defBody (inClass (top 113) 0)) (defScope (inClass (top 113) 0)) .none kV19 dc19 pm19 an19 cd19 ct19),sl19⟩)
  (a20:W.findIn K (.ref kC_Cursor) "at_end"=some (some (.ref f20))) (i20:W.isFn K (.ref f20)=true) (l20:K.lookup f20=some ⟨oc20,od20,.func (W.fnOf "at_end" "Cursor.at_end" (defArgs (inClass (top 113) 1)) (defBody (inClass (top 113) 1)) (defScope (inClass (top 113) 1)) .none kV20 dc20 pm20 an20 cd20 ct20),sl20⟩)
  (a21:W.findIn K (.ref kC_Cursor) "take"=some (some (.ref f21))) (i21:W.isFn K (.ref f21)=true) (l21:K.lookup f21=some ⟨oc21,od21,.func (W.fnOf "take" "Cursor.take" (defArgs (inClass (top 113) 3)) (defBody (inClass (top 113) 3)) (defScope (inClass (top 113) 3)) .none kV21 dc21 pm21 an21 cd21 ct21),sl21⟩)
  (a22:W.findIn K (.ref kC_Cursor) "passes"=some (some (.ref f22))) (i22:W.isFn K (.ref f22)=true) (l22:K.lookup f22=some ⟨oc22,od22,.func (W.fnOf "passes" "Cursor.passes" (defArgs (inClass (top 113) 4)) (defBody (inClass (top 113) 4)) (defScope (inClass (top 113) 4)) .none kV22 dc22 pm22 an22 cd22 ct22),sl22⟩)
  (a45:W.findIn K (.ref kC_Cursor) "sees"=some (some (.ref f45))) (i45:W.isFn K (.ref f45)=true) (l45:K.lookup f45=some ⟨oc45,od45,.func (W.fnOf "sees" "Cursor.sees" (defArgs (inClass (top 113) 2)) (defBody (inClass (top 113) 2)) (defScope (inClass (top 113) 2)) .none kV45 dc45 pm45 an45 cd45 ct45),sl45⟩)
  (a71:W.nsIn K mainGlobals "undone"=some (some (.ref f71))) (l71:K.lookup f71=some ⟨oc71,od71,.func (fo "undone" (top 22) (.ref T71) kV71 dc71 pm71 an71 cd71 ct71),sl71⟩)
  (d71:K.lookup T71=some ⟨ocT71,odT71,.seq #[.str (ofString "") dt71_0] nT71,slT71⟩)
  {dt80_0:Tok}
  (a80:W.nsIn K mainGlobals "taken_text"=some (some (.ref f80))) (l80:K.lookup f80=some ⟨oc80,od80,.func (fo "taken_text" (top 124) (.ref T80) kV80 dc80 pm80 an80 cd80 ct80),sl80⟩)
  (d80:K.lookup T80=some ⟨ocT80,odT80,.seq #[.none] nT80,slT80⟩)
  {dt90_0:Tok}
  (a90:W.nsIn K mainGlobals "taken_filled_text"=some (some (.ref f90))) (l90:K.lookup f90=some ⟨oc90,od90,.func (fo "taken_filled_text" (top 123) (.ref T90) kV90 dc90 pm90 an90 cd90 ct90),sl90⟩)
  (d90:K.lookup T90=some ⟨ocT90,odT90,.seq #[.none] nT90,slT90⟩)
  (a104:W.findIn K (.ref kC_Desk) "__init__"=some (some (.ref f104))) (i104:W.isFn K (.ref f104)=true) (l104:K.lookup f104=some ⟨oc104,od104,.func (W.fnOf "__init__" "Desk.__init__" (defArgs (inClass (top 151) 0)) (defBody (inClass (top 151) 0)) (defScope (inClass (top 151) 0)) .none kV104 dc104 pm104 an104 cd104 ct104),sl104⟩)
  (a105:W.findIn K (.ref kC_Desk) "goal_of"=some (some (.ref f105))) (i105:W.isFn K (.ref f105)=true) (l105:K.lookup f105=some ⟨oc105,od105,.func (W.fnOf "goal_of" "Desk.goal_of" (defArgs (inClass (top 151) 2)) (defBody (inClass (top 151) 2)) (defScope (inClass (top 151) 2)) .none kV105 dc105 pm105 an105 cd105 ct105),sl105⟩)
  (a106:W.findIn K (.ref kC_Desk) "put"=some (some (.ref f106))) (i106:W.isFn K (.ref f106)=true) (l106:K.lookup f106=some ⟨oc106,od106,.func (W.fnOf "put" "Desk.put" (defArgs (inClass (top 151) 4)) (defBody (inClass (top 151) 4)) (defScope (inClass (top 151) 4)) .none kV106 dc106 pm106 an106 cd106 ct106),sl106⟩)
  (a107:W.findIn K (.ref kC_Desk) "both"=some (some (.ref f107))) (i107:W.isFn K (.ref f107)=true) (l107:K.lookup f107=some ⟨oc107,od107,.func (W.fnOf "both" "Desk.both" (defArgs (inClass (top 151) 5)) (defBody (inClass (top 151) 5)) (defScope (inClass (top 151) 5)) .none kV107 dc107 pm107 an107 cd107 ct107),sl107⟩)
  (a108:W.findIn K (.ref kC_Desk) "go"=some (some (.ref f108))) (i108:W.isFn K (.ref f108)=true) (l108:K.lookup f108=some ⟨oc108,od108,.func (W.fnOf "go" "Desk.go" (defArgs (inClass (top 151) 3)) (defBody (inClass (top 151) 3)) (defScope (inClass (top 151) 3)) .none kV108 dc108 pm108 an108 cd108 ct108),sl108⟩)
  (a109:W.findIn K (.ref kC_Desk) "say"=some (some (.ref f109))) (i109:W.isFn K (.ref f109)=true) (l109:K.lookup f109=some ⟨oc109,od109,.func (W.fnOf "say" "Desk.say" (defArgs (inClass (top 151) 1)) (defBody (inClass (top 151) 1)) (defScope (inClass (top 151) 1)) .none kV109 dc109 pm109 an109 cd109 ct109),sl109⟩)
  {qa1_NO_WAY:Addr}{qd1_NO_WAY:Option Addr}{qn1_NO_WAY:Nat}{qs1_NO_WAY:Array (Option Value)}{qa0_NO_WAY:Addr}{qd0_NO_WAY:Option Addr}{qn0_NO_WAY:Nat}{qs0_NO_WAY:Array (Option Value)}
  (e_NO_WAY:W.nsIn K mainGlobals "NO_WAY"=some (some (.ref qa0_NO_WAY)))
  (y0_NO_WAY:K.lookup qa0_NO_WAY=some ⟨.type "tuple",qd0_NO_WAY,.seq #[.bool false,.ref qa1_NO_WAY,.bool false] qn0_NO_WAY,qs0_NO_WAY⟩)
  (y1_NO_WAY:K.lookup qa1_NO_WAY=some ⟨.type "tuple",qd1_NO_WAY,.seq #[] qn1_NO_WAY,qs1_NO_WAY⟩)
  {qa0_NAMED_WORDS:Addr}{qd0_NAMED_WORDS:Option Addr}{qn0_NAMED_WORDS:Nat}{qs0_NAMED_WORDS:Array (Option Value)}{qt0_0_NAMED_WORDS:Tok}{qt1_0_NAMED_WORDS:Tok}{qt2_0_NAMED_WORDS:Tok}{qt3_0_NAMED_WORDS:Tok}
  (e_NAMED_WORDS:W.nsIn K mainGlobals "NAMED_WORDS"=some (some (.ref qa0_NAMED_WORDS)))
  (y0_NAMED_WORDS:K.lookup qa0_NAMED_WORDS=some ⟨.type "tuple",qd0_NAMED_WORDS,.seq #[.str (ofString "number") qt0_0_NAMED_WORDS,.str (ofString "word") qt1_0_NAMED_WORDS,.str (ofString "gap") qt2_0_NAMED_WORDS,.str (ofString "rest") qt3_0_NAMED_WORDS] qn0_NAMED_WORDS,qs0_NAMED_WORDS⟩)
  {qa0_WRITTEN_WORDS:Addr}{qd0_WRITTEN_WORDS:Option Addr}{qn0_WRITTEN_WORDS:Nat}{qs0_WRITTEN_WORDS:Array (Option Value)}{qt0_0_WRITTEN_WORDS:Tok}{qt1_0_WRITTEN_WORDS:Tok}{qt2_0_WRITTEN_WORDS:Tok}
  (e_WRITTEN_WORDS:W.nsIn K mainGlobals "WRITTEN_WORDS"=some (some (.ref qa0_WRITTEN_WORDS)))
  (y0_WRITTEN_WORDS:K.lookup qa0_WRITTEN_WORDS=some ⟨.type "tuple",qd0_WRITTEN_WORDS,.seq #[.str (ofString "number") qt0_0_WRITTEN_WORDS,.str (ofString "word") qt1_0_WRITTEN_WORDS,.str (ofString "rest") qt2_0_WRITTEN_WORDS] qn0_WRITTEN_WORDS,qs0_WRITTEN_WORDS⟩)
  {qa0_WITH_TEXT:Addr}{qd0_WITH_TEXT:Option Addr}{qn0_WITH_TEXT:Nat}{qs0_WITH_TEXT:Array (Option Value)}{qt0_0_WITH_TEXT:Tok}{qt1_0_WITH_TEXT:Tok}{qt2_0_WITH_TEXT:Tok}
  (e_WITH_TEXT:W.nsIn K mainGlobals "WITH_TEXT"=some (some (.ref qa0_WITH_TEXT)))
  (y0_WITH_TEXT:K.lookup qa0_WITH_TEXT=some ⟨.type "tuple",qd0_WITH_TEXT,.seq #[.str (ofString "go") qt0_0_WITH_TEXT,.str (ofString "link") qt1_0_WITH_TEXT,.str (ofString "add") qt2_0_WITH_TEXT] qn0_WITH_TEXT,qs0_WITH_TEXT⟩)
  {qa_WORTH_OF_WORDS:Addr} (e_WORTH_OF_WORDS:W.nsIn K mainGlobals "WORTH_OF_WORDS"=some (some (.ref qa_WORTH_OF_WORDS)))
  (yl_WORTH_OF_WORDS:PyProof.Rows.KTD.tabLook PyProof.Rows.KTD.flatLooks (λa=>K.lookup a) qa_WORTH_OF_WORDS jE=true) (yh_WORTH_OF_WORDS:PyProof.Rows.KTD.hashesOf (λa=>K.lookup a) qa_WORTH_OF_WORDS=jE.map λp=>hashStr w p.1)
  {qa_NAMES_BEHIND:Addr} (e_NAMES_BEHIND:W.nsIn K mainGlobals "NAMES_BEHIND"=some (some (.ref qa_NAMES_BEHIND)))
  (yl_NAMES_BEHIND:PyProof.Rows.KTD.tabLook PyProof.Rows.KTD.flatLooks (λa=>K.lookup a) qa_NAMES_BEHIND jF=true) (yh_NAMES_BEHIND:PyProof.Rows.KTD.hashesOf (λa=>K.lookup a) qa_NAMES_BEHIND=jF.map λp=>hashStr w p.1)
  (pg_Cursor:W.plainGet K kC_Cursor Str.empty=true)
  (hd_Cursor:W.hasDictIn K kC_Cursor=true)
  (po_Cursor:W.plainOver K kC_Cursor=true)
  (sa_Cursor:W.findIn K (.ref kC_Cursor) "__setattr__"=some (some (.builtin "object.__setattr__")))
  (mk_Cursor:W.makesIn K kC_Cursor=true)
  (kc_Cursor:W.keepIn K (.ref kC_Cursor)=true)
  (nf_Cursor_text:W.findIn K (.ref kC_Cursor) "text"=some none)
  (nf_Cursor_place:W.findIn K (.ref kC_Cursor) "place"=some none)
  (pg_Desk:W.plainGet K kC_Desk Str.empty=true)
  (hd_Desk:W.hasDictIn K kC_Desk=true)
  (po_Desk:W.plainOver K kC_Desk=true)
  (sa_Desk:W.findIn K (.ref kC_Desk) "__setattr__"=some (some (.builtin "object.__setattr__")))
  (mk_Desk:W.makesIn K kC_Desk=true)
  (kc_Desk:W.keepIn K (.ref kC_Desk)=true)
  (nf_Desk_address:W.findIn K (.ref kC_Desk) "address"=some none)
  (nf_Desk_table:W.findIn K (.ref kC_Desk) "table"=some none)
  (kk:((((W.keepIn K (.ref f19) && W.keepIn K (.ref f20)) && (W.keepIn K (.ref f21) && W.keepIn K (.ref f22))) && ((W.keepIn K (.ref f45) && W.keepIn K (.ref f71)) && W.keepIn K (.ref f80))) && (((W.keepIn K (.ref f90) && W.keepIn K (.ref f104)) && (W.keepIn K (.ref f105) && W.keepIn K (.ref f106))) && ((W.keepIn K (.ref f107) && W.keepIn K (.ref f108)) && W.keepIn K (.ref f109))))=true)
  (cc:((((W.codeIn K cd19 "Cursor.__init__" && W.codeIn K cd20 "Cursor.at_end") && (W.codeIn K cd21 "Cursor.take" && W.codeIn K cd22 "Cursor.passes")) && ((W.codeIn K cd45 "Cursor.sees" && W.codeIn K cd71 "undone") && W.codeIn K cd80 "taken_text")) && (((W.codeIn K cd90 "taken_filled_text" && W.codeIn K cd104 "Desk.__init__") && (W.codeIn K cd105 "Desk.goal_of" && W.codeIn K cd106 "Desk.put")) && ((W.codeIn K cd107 "Desk.both" && W.codeIn K cd108 "Desk.go") && W.codeIn K cd109 "Desk.say")))=true) :
  ∃fd:FuncData,(∀(s:Shared) (v:Value),BindsTo s fd ⟨[v],[]⟩ [("_law_script",v)])/\∀base:Heap,K.In base->base.Ns mainGlobals mg->FnOk l.prog w K mg base CX0 13 fa fd ["_law_script"] (sp_law K):=by
 have e2:d.f_law.a=fa:=by have e:=hfa.symm.trans d.f_law.m;cases e;rfl
 subst e2;have M:∀{x:Str}{v:Value},W.nsIn K mainGlobals x=some (some v)->mg x=some v:=λa=>W.mg_of X Gl a;simp only[Bool.and_eq_true] at kk cc;obtain⟨⟨⟨⟨Go,Gn⟩,⟨Gm,Gk⟩⟩,⟨⟨Gj,Gi⟩,Gh⟩⟩,⟨⟨⟨Gg,Fr⟩,⟨Fn,Cl⟩⟩,⟨⟨BT,mt⟩,dl⟩⟩⟩:=kk;obtain⟨⟨⟨⟨Gx,Gw⟩,⟨Gv,Gu⟩⟩,⟨⟨Gs,Gr⟩,Gq⟩⟩,⟨⟨⟨Gp,Gf⟩,⟨Ge,Gd⟩⟩,⟨⟨Gc,Gb⟩,Ga⟩⟩⟩:=cc;have F19:=aq (st:=(inClass (top 113) 0)) l19 Gx Go;have F20:=aq (st:=(inClass (top 113) 1)) l20 Gw Gn;have F21:=aq (st:=(inClass (top 113) 3)) l21 Gv Gm;have F22:=aq (st:=(inClass (top 113) 4)) l22 Gu Gk;have F45:=aq (st:=(inClass (top 113) 2)) l45 Gs Gj;have F71:=iB (st:=(top 22)) l71 Gr Gi;have F80:=iB (st:=(top 124)) l80 Gq Gh;have F90:=iB (st:=(top 123)) l90 Gp Gg;have F104:=aq (st:=(inClass (top 151) 0)) l104 Gf Fr;have F105:=aq (st:=(inClass (top 151) 2)) l105 Ge Fn;have F106:=aq (st:=(inClass (top 151) 4)) l106 Gd Cl;have F107:=aq (st:=(inClass (top 151) 5)) l107 Gc BT;have F108:=aq (st:=(inClass (top 151) 3)) l108 Gb mt;have F109:=aq (st:=(inClass (top 151) 1)) l109 Ga dl
 let g:G w K mg:={
  toD:=d,
  fY:=f19,fZ:=_,qY:=F19,
  qZ:=F19.binds (by fail "b2"),
  fb:=f20,fe:=_,qc:=F20,jV:=⟨a20,i20,F20.kp⟩,
  jR:=F20.binds (by fail "b1"),
  ff:=f21,fh:=_,qd:=F21,gP:=⟨a21,i21,F21.kp⟩,
  fi:=F21.binds (by fail "b1"),
  fj:=f22,fk:=_,qe:=F22,bd:=⟨a22,i22,F22.kp⟩,
  bc:=F22.binds (by fail "b2"),
  ft:=f45,fu:=_,qf:=F45,jW:=⟨a45,i45,F45.kp⟩,
  jS:=F45.binds (by fail "b2"),
  fw:=f71,dG:=_,qg:=T71,qh:=dt71_0,dH:=F71,fz:=M a71,
  g9:=F71.binds (ps:=["text","free"]) (ds:=[]) d71 λ_ _ _ _ _ _ us hl=>by rw[append_nil] at hl;obtain⟨x0,x1,e⟩:=usl2 hl;subst e;exact⟨_,rfl,rfl⟩,
  EB:=F71.binds (ps:=["text","free"]) (ds:=[.str (ofString "") dt71_0]) d71 λ_ _ _ _ _ _ us hl=>by obtain⟨x,rfl⟩:=yG hl;exact⟨_,rfl,rfl⟩,
  gA:=f80,dI:=_,qi:=T80,EC:=dt80_0,cP:=F80,dJ:=M a80,
  qj:=F80.binds (ps:=["cursor","free","most"]) (ds:=[]) d80 λ_ _ _ _ _ _ us hl=>by rw[append_nil] at hl;obtain⟨x0,x1,x2,e⟩:=usl3 hl;subst e;exact⟨_,rfl,rfl⟩,
  gB:=F80.binds (ps:=["cursor","free","most"]) (ds:=[.none]) d80 λ_ _ _ _ _ _ us hl=>by obtain⟨x,y,rfl⟩:=mn hl;exact⟨_,rfl,rfl⟩,
  gC:=f90,dL:=_,qk:=T90,ED:=dt90_0,jT:=F90,ql:=M a90,
  qm:=F90.binds (ps:=["cursor","free","most"]) (ds:=[]) d90 λ_ _ _ _ _ _ us hl=>by rw[append_nil] at hl;obtain⟨x0,x1,x2,e⟩:=usl3 hl;subst e;exact⟨_,rfl,rfl⟩,
  EE:=F90.binds (ps:=["cursor","free","most"]) (ds:=[.none]) d90 λ_ _ _ _ _ _ us hl=>by obtain⟨x,y,rfl⟩:=mn hl;exact⟨_,rfl,rfl⟩,
  gD:=f104,gE:=_,qo:=F104,
  jU:=F104.binds (by fail "b2"),
  gF:=f105,gG:=_,qp:=F105,rB:=⟨a105,i105,F105.kp⟩,
  qq:=F105.binds (by fail "b2"),
  gH:=f106,gI:=_,qr:=F106,rC:=⟨a106,i106,F106.kp⟩,
  qt:=F106.binds (by fail "b3"),
  gJ:=f107,gK:=_,qu:=F107,rD:=⟨a107,i107,F107.kp⟩,
  qv:=F107.binds (by fail "b3"),
  gL:=f108,gM:=_,qw:=F108,rE:=⟨a108,i108,F108.kp⟩,
  qz:=F108.binds (by fail "b2"),
  gN:=f109,gO:=_,r8:=F109,ay:=⟨a109,i109,F109.kp⟩,
  ax:=F109.binds (by fail "b2"),
  dM:=qa0_NO_WAY,jZ:=W.mg_of X Gl e_NO_WAY,ja:=λH=>(.tup (xs:=[.bl false,.ref qa1_NO_WAY,.bl false]) (.inr ⟨_,_,_,y0_NO_WAY,rfl,rfl,(by show 3<=sizeLine;decide),(.cons rfl (.cons rfl (.cons rfl .nil)))⟩) (.cons (.bl _) (.cons (.tup (xs:=[]) (.inr ⟨_,_,_,y1_NO_WAY,rfl,rfl,(by show 0<=sizeLine;decide),.nil⟩) .nil) (.cons (.bl _) .nil)))),
  gQ:=qa0_NAMED_WORDS,rF:=W.mg_of X Gl e_NAMED_WORDS,rG:=λH=>(.tup (xs:=[.str (ofString "number"),.str (ofString "word"),.str (ofString "gap"),.str (ofString "rest")]) (.inr ⟨_,_,_,y0_NAMED_WORDS,rfl,rfl,(by show 4<=sizeLine;decide),(.cons `o (.cons `o (.cons `o (.cons `o .nil))))⟩) (.cons (.str _) (.cons (.str _) (.cons (.str _) (.cons (.str _) .nil))))),
  cR:=qa0_WRITTEN_WORDS,jb:=W.mg_of X Gl e_WRITTEN_WORDS,gS:=λH=>(.tup (xs:=[.str (ofString "number"),.str (ofString "word"),.str (ofString "rest")]) (.inr ⟨_,_,_,y0_WRITTEN_WORDS,rfl,rfl,(by show 3<=sizeLine;decide),(.cons `o (.cons `o (.cons `o .nil)))⟩) (.cons (.str _) (.cons (.str _) (.cons (.str _) .nil)))),
  dO:=qa0_WITH_TEXT,je:=W.mg_of X Gl e_WITH_TEXT,cS:=λH=>(.tup (xs:=[.str (ofString "go"),.str (ofString "link"),.str (ofString "add")]) (.inr ⟨_,_,_,y0_WITH_TEXT,rfl,rfl,(by show 3<=sizeLine;decide),(.cons `o (.cons `o (.cons `o .nil)))⟩) (.cons (.str _) (.cons (.str _) (.cons (.str _) .nil)))),
  gT:=qa_WORTH_OF_WORDS,rH:=W.mg_of X Gl e_WORTH_OF_WORDS,rJ:=λP h hI=>PyProof.Rows.KTD.strTab_of_look P w hI yl_WORTH_OF_WORDS `d yh_WORTH_OF_WORDS,
  dN:=qa_NAMES_BEHIND,jc:=W.mg_of X Gl e_NAMES_BEHIND,jd:=λP h hI=>PyProof.Rows.KTD.strTab_of_look P w hI yl_NAMES_BEHIND `d yh_NAMES_BEHIND,
  aN:=kC_Cursor,aQ:=⟨pg_Cursor,hd_Cursor,po_Cursor,sa_Cursor⟩,r9:=W.mg_of X Gl aC_Cursor,
  bj:=nf_Cursor_text,
  bC:=nf_Cursor_place,
  rA:=⟨mk_Cursor,a19,i19,kc_Cursor⟩,
  aR:=kC_Desk,aS:=⟨pg_Desk,hd_Desk,po_Desk,sa_Desk⟩,jX:=W.mg_of X Gl aC_Desk,
  cQ:=nf_Desk_address,
  bn:=nf_Desk_table,
  jY:=⟨mk_Desk,a104,i104,kc_Desk⟩}
 refine⟨d.f_law.fd,λs v=>?_,λbase _ _=>G3 g⟩;obtain⟨_,_,_,_,_,_,_,_,_,e,_⟩:=d.f_law.F.ex;rw[e];exact .of_eq rfl
theorem walk {l:PySem.W.OpenLaw}{q:Program}{loose:List Str}{XP:(Str->Option Value)->Heap->Prop}{YP:World->Heap->Prop}{d:DefRec}{K:Params->`F}(hn:l.most=some 63)(hdf:d.params.defaults=[])
  (hY:∀(w:World) (h:Heap),YP w h->(K w.params).In h)
  (F:∀(w:World) (mg:Str->Option Value) (fa:Addr) (h:Heap),(K w.params).In h->h.Ns mainGlobals mg->mg d.name=some (.ref fa) ->
   ∃fd:FuncData,(∀(s:Shared) (u:Value),BindsTo s fd ⟨[u],[]⟩ [("_law_script",u)])/\∀base:Heap,(K w.params).In base->base.Ns mainGlobals mg->FnOk l.prog w (K w.params) mg base CX0 13 fa fd ["_law_script"] (sp_law (K w.params))) :
  PySem.W.WalkO q loose XP YP l.row.toRowW d [] (λf vs=>PySem.call f vs):=
 L2.wS (n:=63) (k:=13) (x := "_law_script") (CX:=λ_=>CX0) (sp:=λw=>sp_law (K w.params)) hn `d hdf ⟨rfl,`d,`d⟩ hY F (λ_ _ a ns hl _ hS=>⟨a,ns,rfl,hS,hl,λ_=>rfl⟩) λ_ _ _ _ _ z=>z
end Wm
open PySem PySem.W PyProof.Rows
set_option maxRecDepth 100000 in
set_option maxHeartbeats 0 in
theorem PySem.Challenge.cw_waymark_k86_a_desk_leads_holds : PySem.Challenge.rw_waymark_k86_a_desk_leads.Holds := by
 w_on; refine hd ?_
 k_fill
 refine Wm.walk (l := PySem.Challenge.rw_waymark_k86_a_desk_leads) rfl rfl (fun w h Y => PySem.W.kIn_of Y) ?F
 case F =>
  intro w mg fa h KX G hmg
  refine' Wm.G4 (dt80_0 := 0) (dt90_0 := 0) KX G hmg ?d ?aC_Cursor ?aC_Desk ?a19 ?i19 ?l19 ?a20 ?i20 ?l20 ?a21 ?i21 ?l21 ?a22 ?i22 ?l22 ?a45 ?i45 ?l45 ?a71 ?l71 ?d71 ?a80 ?l80 ?d80 ?a90 ?l90 ?d90 ?a104 ?i104 ?l104 ?a105 ?i105 ?l105 ?a106 ?i106 ?l106 ?a107 ?i107 ?l107 ?a108 ?i108 ?l108 ?a109 ?i109 ?l109 ?e_NO_WAY ?y0_NO_WAY ?y1_NO_WAY ?e_NAMED_WORDS ?y0_NAMED_WORDS ?e_WRITTEN_WORDS ?y0_WRITTEN_WORDS ?e_WITH_TEXT ?y0_WITH_TEXT ?e_WORTH_OF_WORDS ?yl_WORTH_OF_WORDS ?yh_WORTH_OF_WORDS ?e_NAMES_BEHIND ?yl_NAMES_BEHIND ?yh_NAMES_BEHIND ?pg_Cursor ?hd_Cursor ?po_Cursor ?sa_Cursor ?mk_Cursor ?kc_Cursor ?nf_Cursor_text ?nf_Cursor_place ?pg_Desk ?hd_Desk ?po_Desk ?sa_Desk ?mk_Desk ?kc_Desk ?nf_Desk_address ?nf_Desk_table ?kk ?cc
  case d =>
   constructor
   (case jL | jM | qF | qG | qH | fO | fP | qI | qJ | qK | qL | jN | qM | dA | fQ | jO | cN | fR | jP | dB | cA | cO | qN | qO | fT | c_UP | bi | dC | qP | qQ | qR | qS | qU | qV | qW => first | (refine' L2.Dd (PySem.W.mg_of KX G ?a); case a => k_is) | (refine' L2.De (PySem.W.mg_of KX G ?a); case a => k_is))
   (case dD | jQ | aK | ak | bK | fU | fV | aw | bU | dE | qX | dF | fW | fX => refine' ⟨PySem.W.mg_none_of KX G ?a, ?b⟩; (case a => k_is); (case b => with_unfolding_all rfl))
   all_goals
    refine' L2.CV KX G ?a ?l ?c ?k ?b
    (case a | l => k_is)
    (case c | k => first | k_is | with_unfolding_all kernel_rfl | with_unfolding_all rfl)
    case b =>
     intro _ _ _ _ _ _ us hl
     first
     | (obtain ⟨_, e⟩ := Wm.usl1 hl; subst e; rfl)
     | (obtain ⟨_, _, e⟩ := Wm.usl2 hl; subst e; rfl)
     | (obtain ⟨_, _, _, e⟩ := Wm.usl3 hl; subst e; rfl)
     | (obtain ⟨_, _, _, _, e⟩ := Wm.usl4 hl; subst e; rfl)
     | (obtain ⟨_, _, _, _, _, e⟩ := Wm.usl5 hl; subst e; rfl)
  (case aC_Cursor | aC_Desk | a19 | i19 | l19 | a20 | i20 | l20 | a21 | i21 | l21 | a22 | i22 | l22 | a45 | i45 | l45 | a71 | l71 | d71 | a80 | l80 | d80 | a90 | l90 | d90 | a104 | i104 | l104 | a105 | i105 | l105 | a106 | i106 | l106 | a107 | i107 | l107 | a108 | i108 | l108 | a109 | i109 | l109 | e_NO_WAY | y0_NO_WAY | y1_NO_WAY | e_NAMED_WORDS | y0_NAMED_WORDS | e_WRITTEN_WORDS | y0_WRITTEN_WORDS | e_WITH_TEXT | y0_WITH_TEXT | e_WORTH_OF_WORDS => k_is)
  (case yl_WORTH_OF_WORDS | yh_WORTH_OF_WORDS => first | k_is | with_unfolding_all kernel_rfl | with_unfolding_all rfl)
  (case e_NAMES_BEHIND => k_is)
  (case yl_NAMES_BEHIND | yh_NAMES_BEHIND => first | k_is | with_unfolding_all kernel_rfl | with_unfolding_all rfl)
  (case pg_Cursor | hd_Cursor | po_Cursor | sa_Cursor | mk_Cursor | kc_Cursor | nf_Cursor_text | nf_Cursor_place | pg_Desk | hd_Desk | po_Desk | sa_Desk | mk_Desk | kc_Desk | nf_Desk_address | nf_Desk_table => k_is)
  (case kk | cc => first | k_is | with_unfolding_all kernel_rfl | with_unfolding_all rfl)
