package mvcc

import (
	"testing"
)

func TestPrewrite(t *testing.T) { // P11.4
	script(t, New(), `
		prewrite @5 by:b a=1 b~ c! -> ok at:6
		image -> 0/0 | a {put a=1 by:b @5 min:6} | b {delete b by:b @5 min:6} | c {lock c by:b @5 min:6}
		prewrite @5 by:z at:90 a~ b! d=2 -> ok at:90
		image -> 0/0 | a {put a=1 by:b @5 min:6} | b {delete b by:b @5 min:6} | c {lock c by:b @5 min:6} | d {put d=2 by:z @5 min:90}
		prewrite @5 a=7 -> ok at:6
		prewrite @5 c=7 d~ -> ok at:90
		prewrite @5 c=7^ -> ok at:6
		prewrite @6 a=1 -> locked a {put a=1 by:b @5 min:6}
		prewrite @4 c! -> locked c {lock c by:b @5 min:6}
		prewrite @6 +one b! -> locked b {delete b by:b @5 min:6}
		prewrite @6 by:q e=1 f=1 -> ok at:7
		prewrite @5 a~ e=1 -> locked e {put e=1 by:q @6 min:7}`)
}

func TestPrewriteErrors(t *testing.T) { // P11.4: in their order
	script(t, New(), `
		prewrite @5 a=1 b! c~ -> ok at:6
		commit @5 at:20 a b c -> ok
		prewrite @5 a=1 -> committed a at:20
		prewrite @5 b=1^ -> committed b at:20
		prewrite @6 a=1 -> conflict a at:20
		prewrite @6 b=1 -> conflict b at:20
		prewrite @6 c=1 -> conflict c at:20
		prewrite @19 a=1 -> conflict a at:20
		prewrite @20 a=1 -> ok at:21
		commit @20 at:30 a -> ok
		prewrite @15 a=1 -> conflict a at:30
		prewrite @25 a=1 -> conflict a at:30
		prewrite @25 a=1^ -> nolock a
		rollback @40 a d -> ok
		prewrite @39 a=1 -> ok at:40
		rollback @39 a -> ok
		prewrite @40 a=1 -> rolled a
		prewrite @40 a=1^ -> rolled a
		prewrite @40 d=1 -> rolled d
		prewrite @35 d=1^ -> nolock d
		floor at:50 -> ok
		prewrite @50 z=1 -> tooold z
		prewrite @1 z=1 -> tooold z
		prewrite @50 z=1^ -> tooold z
		prewrite @25 a=1 -> tooold a
		prewrite @40 a=1 -> rolled a
		prewrite @5 a=1 -> committed a at:20
		prewrite @51 z=1^ -> nolock z
		prewrite @51 z=1 -> ok at:52
		prewrite @50 z=1 -> locked z {put z=1 by:z @51 min:52}
		floor at:60 -> ok
		prewrite @51 z=1 -> ok at:52
		prewrite @51 y=1 z=1 -> tooold y
		prewrite @51 +one z=1 -> arg`)
}

// A conflict is the greatest commit, behind rollbacks or not; rollbacks alone are none.
func TestConflict(t *testing.T) { // P11.4, P11.7
	script(t, New(), `
		prewrite @5 a=1 -> ok at:6
		commit @5 at:10 a -> ok
		prewrite @11 a! -> ok at:12
		commit @11 at:15 a -> ok
		rollback @30 a -> ok
		rollback @12 a -> ok
		prewrite @3 a=1 -> conflict a at:15
		prewrite @14 a=1 -> conflict a at:15
		pess @3 for:9 a -> conflict a at:15
		pess @3 for:14 a -> conflict a at:15
		pess @3 for:15 a -> ok
		back @3 for:15 a -> ok
		prewrite @15 a=1 -> ok at:16`)
}

func TestLeastTime(t *testing.T) { // P11.4
	script(t, New(), `
		prewrite @10 a=1 -> ok at:11
		prewrite @10 b=1 for:9 at:11 -> ok at:11
		prewrite @10 c=1 for:20 at:20 -> ok at:21
		prewrite @10 d=1 for:20 at:22 -> ok at:22
		prewrite @10 e=1 max:99 -> ok at:11
		prewrite @10 f=1 max:99 +async -> ok at:100
		prewrite @10 g=1 max:99 at:101 +async -> ok at:101
		prewrite @10 h=1 max:3 +async -> ok at:11
		prewrite @10 by:a i=1 j=1 max:12 at:5 for:13 +async -> ok at:14
		prewrite @10 k=1 max:99 +one -> ok at:100
		prewrite @10 l=1 max:99 for:150 +one -> ok at:151
		prewrite @10 m=1 max:99 at:170 +one +async -> ok at:170
		prewrite @10 n=1 +one -> ok at:11
		prewrite @10 by:a c=1 d=1 o=1 -> ok at:22
		image -> 0/0 | a {put a=1 by:a @10 min:11} | b {put b=1 by:b @10 for:9 min:11} | c {put c=1 by:c @10 for:20 min:21} | d {put d=1 by:d @10 for:20 min:22} | e {put e=1 by:e @10 min:11} | f {put f=1 by:f @10 min:100 +async} | g {put g=1 by:g @10 min:101 +async} | h {put h=1 by:h @10 min:11 +async} | i {put i=1 by:a @10 for:13 min:14 +async} | j {put j=1 by:a @10 for:13 min:14 +async} | k put@10:100=1 | l put@10:151=1 | m put@10:170=1 | n put@10:11=1 | o {put o=1 by:a @10 min:11}`)
}

func TestSecondariesOfAPrewrite(t *testing.T) { // P11.4: at the key Primary alone
	script(t, New(), `
		prewrite @5 by:b +async with:a,c,a a=1 b=1 c=1 -> ok at:6
		prewrite @6 by:z +async with:y d=1 e=1 -> ok at:7
		prewrite @7 by:f +async f=1 -> ok at:8
		image -> 0/0 | a {put a=1 by:b @5 min:6 +async} | b {put b=1 by:b @5 min:6 +async with:a,c,a} | c {put c=1 by:b @5 min:6 +async} | d {put d=1 by:z @6 min:7 +async} | e {put e=1 by:z @6 min:7 +async} | f {put f=1 by:f @7 min:8 +async}`)
}

func TestOne(t *testing.T) { // P11.4
	script(t, New(), `
		pess @5 for:5 b d -> ok
		prewrite @5 +one max:8 a=1 b~^ c! d=2^ -> ok at:9
		image -> 0/0 | a put@5:9=1 | b delete@5:9 | c lock@5:9 | d put@5:9=2
		prewrite @5 +one max:20 a=1 b~ c! d=2 -> committed a at:9
		prewrite @5 +one c=3 -> committed c at:9
		prewrite @5 a=1 -> committed a at:9
		get a 8 -> none
		get a 9 -> =1
		rollback @5 c -> committed c at:9
		commit @5 at:12 a b c d -> ok
		prewrite @6 +one a=1 -> conflict a at:9
		prewrite @9 +one a=2 -> ok at:10
		get a 10 -> =2`)
	// Over a lock that is no pessimistic one: but what fails at a key comes first.
	script(t, New(), `
		prewrite @5 b=1 -> ok at:6
		pess @5 for:5 c -> ok
		prewrite @7 d=1 -> ok at:8
		prewrite @5 +one b=1 -> arg
		prewrite @5 +one a=1 b=1 c=1 -> arg
		prewrite @5 +one a=1 b=1 c=1 d=1 -> locked d {put d=1 by:d @7 min:8}
		prewrite @5 +one a=1^ b=1 -> nolock a
		prewrite @5 +one a=1 c=1^ -> ok at:6
		image -> 0/0 | a put@5:6=1 | b {put b=1 by:b @5 min:6} | c put@5:6=1 | d {put d=1 by:d @7 min:8}`)
}

func TestCommit(t *testing.T) { // P11.5
	script(t, New(), `
		prewrite @5 at:9 a=1 b~ c! -> ok at:9
		pess @5 for:5 d -> ok
		commit @5 at:8 a b -> early a at:9
		commit @5 at:6 c -> early c at:9
		commit @5 at:9 d -> nolock d
		commit @5 at:9 a d -> nolock d
		commit @5 at:9 a z -> nolock z
		commit @6 at:9 a -> nolock a
		commit @5 at:9 a b -> ok
		image -> 0/0 | a put@5:9=1 | b delete@5:9 | c {lock c by:a @5 min:9} | d {pess d by:d @5 for:5 min:6}
		commit @5 at:20 a b c -> ok
		image -> 0/0 | a put@5:9=1 | b delete@5:9 | c lock@5:20 | d {pess d by:d @5 for:5 min:6}
		commit @5 at:6 a c -> ok
		rollback @7 z -> ok
		commit @7 at:9 z -> rolled z
		prewrite @30 at:40 a=2 b=2 -> ok at:40
		commit @30 at:top a b -> ok
		get a 4611686018427387902 -> =1
		get a top -> =2`)
}

func TestRollback(t *testing.T) { // P11.6
	script(t, New(), `
		prewrite @5 a=1 b=1 -> ok at:6
		pess @5 for:9 c -> ok
		prewrite @7 d=1 -> ok at:8
		rollback @5 a c d e -> ok
		image -> 0/0 | a rolled@5 | b {put b=1 by:a @5 min:6} | c rolled@5 | d {put d=1 by:d @7 min:8} rolled@5 | e rolled@5
		rollback @5 a c d e -> ok
		commit @5 at:9 b -> ok
		rollback @5 a b -> committed b at:9
		rollback @5 b f -> committed b at:9
		rollback @9 b -> ok
		rollback @8 b -> ok
		image -> 0/0 | a rolled@5 | b put@5:9=1 rolled@9 rolled@8 | c rolled@5 | d {put d=1 by:d @7 min:8} rolled@5 | e rolled@5
		commit @7 at:8 d -> ok
		floor at:20 -> ok
		gc at:20 -> ok
		rollback @5 a -> ok
		image -> 20/20 | a rolled@5 | b put@5:9=1 | d put@7:8=1`)
}

func TestPess(t *testing.T) { // P11.7
	script(t, New(), `
		pess @5 for:7 by:q a b -> ok
		image -> 0/0 | a {pess a by:q @5 for:7 min:8} | b {pess b by:q @5 for:7 min:8}
		pess @5 for:9 by:r b c -> ok
		pess @5 for:6 by:s a b c -> ok
		image -> 0/0 | a {pess a by:q @5 for:7 min:8} | b {pess b by:q @5 for:9 min:8} | c {pess c by:r @5 for:9 min:10}
		pess @6 for:6 c -> locked c {pess c by:r @5 for:9 min:10}
		prewrite @6 c=1 -> locked c {pess c by:r @5 for:9 min:10}
		prewrite @5 for:9 by:b b=1^ c!^ d~ -> ok at:10
		image -> 0/0 | a {pess a by:q @5 for:7 min:8} | b {put b=1 by:b @5 for:9 min:10} | c {lock c by:b @5 for:9 min:10} | d {delete d by:b @5 for:9 min:10}
		pess @5 for:90 a b -> ok
		image -> 0/0 | a {pess a by:q @5 for:90 min:8} | b {put b=1 by:b @5 for:9 min:10} | c {lock c by:b @5 for:9 min:10} | d {delete d by:b @5 for:9 min:10}
		prewrite @5 by:b a= -> ok at:6
		commit @5 at:10 a b c d -> ok
		image -> 0/0 | a put@5:10= | b put@5:10=1 | c lock@5:10 | d delete@5:10`)
}

func TestPessErrors(t *testing.T) { // P11.7: in their order
	script(t, New(), `
		prewrite @5 a=1 b! -> ok at:6
		commit @5 at:20 a b -> ok
		rollback @8 a -> ok
		pess @5 for:30 a -> committed a at:20
		pess @5 for:5 b -> committed b at:20
		pess @8 for:30 a -> rolled a
		pess @8 for:8 a -> rolled a
		pess @9 for:9 a -> conflict a at:20
		pess @9 for:19 b -> conflict b at:20
		pess @9 for:20 a b -> ok
		floor at:10 -> ok
		pess @10 for:15 c -> tooold c
		pess @10 for:15 a -> locked a {pess a by:a @9 for:20 min:21}
		pess @9 for:30 a -> ok
		pess @9 for:30 a c -> tooold c
		pess @11 for:11 c -> ok
		back @9 for:99 a b -> ok
		pess @7 for:7 a -> tooold a
		pess @8 for:9 a -> rolled a
		pess @5 for:9 a -> committed a at:20
		prewrite @9 a=1^ -> tooold a
		prewrite @12 a=1^ -> nolock a`)
}

// A held key that is locked already is looked at no further: its commits were looked at when it was locked.
func TestHeldKeys(t *testing.T) { // P11.4
	script(t, New(), `
		prewrite @5 a=1 -> ok at:6
		commit @5 at:20 a -> ok
		pess @9 for:20 a -> ok
		floor at:15 -> ok
		prewrite @9 for:20 a=2^ -> ok at:21
		commit @9 at:21 a -> ok
		pess @16 for:22 a -> ok
		prewrite @16 for:22 a=3 -> ok at:23
		commit @16 at:23 a -> ok
		pess @17 for:23 a -> ok
		prewrite @17 for:23 +one a=4 -> ok at:24
		image -> 15/0 | a put@17:24=4 put@16:23=3 put@9:21=2 put@5:20=1`)
}

func TestPessRollback(t *testing.T) { // P11.7
	script(t, New(), `
		pess @5 for:7 a b -> ok
		prewrite @5 b=1^ c=1 -> ok at:6
		pess @6 for:6 d -> ok
		back @5 for:6 a b c d e -> ok
		image -> 0/0 | a {pess a by:a @5 for:7 min:8} | b {put b=1 by:b @5 min:6} | c {put c=1 by:b @5 min:6} | d {pess d by:d @6 for:6 min:7}
		back @5 for:7 a b c d e -> ok
		image -> 0/0 | b {put b=1 by:b @5 min:6} | c {put c=1 by:b @5 min:6} | d {pess d by:d @6 for:6 min:7}
		pess @5 for:7 a -> ok
		pess @5 for:9 a -> ok
		back @5 for:8 a -> ok
		back @5 for:1 a -> ok
		locks a b 9 9 -> {pess a by:a @5 for:9 min:8}
		back @5 for:top a -> ok
		locks a b 9 9 ->
		commit @5 at:6 b c -> ok
		back @5 for:top a b c -> ok
		rollback @5 a -> ok
		back @5 for:top a -> ok
		image -> 0/0 | a rolled@5 | b put@5:6=1 | c put@5:6=1 | d {pess d by:d @6 for:6 min:7}`)
}

func TestCheck(t *testing.T) { // P11.8
	script(t, New(), `
		check @5 by:a -> ok
		check @5 by:a b c -> ok
		image -> 0/0
		prewrite @5 a=1 -> ok at:6
		check @5 by:a -> ok LOCKED {put a=1 by:a @5 min:6}
		check @6 by:a -> ok
		check @6 by:a +force -> ok ROLLED
		check @6 by:a -> ok ROLLED
		image -> 0/0 | a {put a=1 by:a @5 min:6} rolled@6
		check @5 by:a +force -> ok ROLLED
		image -> 0/0 | a rolled@6 rolled@5
		prewrite @7 a=1 -> ok at:8
		commit @7 at:9 a -> ok
		check @7 by:a -> ok at:9 COMMITTED
		check @7 by:a +force -> ok at:9 COMMITTED
		prewrite @10 b! +async with:c -> ok at:11
		check @10 by:b +force -> ok LOCKED {lock b by:b @10 min:11 +async with:c}
		check @10 by:b -> ok LOCKED {lock b by:b @10 min:11 +async with:c}
		pess @11 for:12 c -> ok
		check @11 by:c -> ok LOCKED {pess c by:c @11 for:12 min:13}
		check @11 by:c +force -> ok ROLLED
		pess @11 for:12 c -> rolled c
		prewrite @12 c! -> ok at:13
		check @12 by:c +force -> ok ROLLED
		commit @10 at:11 b -> ok
		check @10 by:b +force -> ok at:11 COMMITTED
		floor at:30 -> ok
		check @13 by:c -> ok
		gc at:20 -> ok
		image -> 30/20 | a put@7:9=1
		check @7 by:a +force -> ok at:9 COMMITTED
		check @12 by:c -> tooold c
		check @12 by:c +force -> tooold c
		check @20 by:zz -> tooold zz
		check @20 by:zz +force -> tooold zz
		check @21 by:zz -> ok
		check @21 by:zz +force -> ok ROLLED
		image -> 30/20 | a put@7:9=1 | zz rolled@21`)
}

// A lock of KindPess that an image says is Async goes all the same.
func TestCheckOfAsyncPess(t *testing.T) { // P11.8
	s := New()
	script(t, s, "pess @5 for:5 a -> ok")
	x := s.Image()
	x.Cells[0].Lock.Async = true
	s, _ = Load(x)
	script(t, s, `
		check @5 by:a -> ok LOCKED {pess a by:a @5 for:5 min:6 +async}
		check @5 by:a +force -> ok ROLLED
		image -> 0/0 | a rolled@5`)
}

func TestSecondaries(t *testing.T) { // P11.9
	script(t, New(), `
		prewrite @5 by:p +async a=1 b=1 -> ok at:6
		prewrite @5 by:p +async max:19 c! d~ -> ok at:20
		secondaries @5 a b -> ok at:6 LOCKED
		secondaries @5 a b c d -> ok at:20 LOCKED
		secondaries @5 d -> ok at:20 LOCKED
		commit @5 at:20 c -> ok
		secondaries @5 a b c d -> ok at:20 COMMITTED
		secondaries @5 a c zz -> ok at:20 COMMITTED
		secondaries @5 a b d -> ok at:20 LOCKED
		image -> 0/0 | a {put a=1 by:p @5 min:6 +async} | b {put b=1 by:p @5 min:6 +async} | c lock@5:20 | d {delete d by:p @5 min:20 +async}`)
	script(t, New(), `
		prewrite @5 by:p a=1 d=1 -> ok at:6
		rollback @5 c -> ok
		secondaries @5 a c z -> ok ROLLED
		image -> 0/0 | a {put a=1 by:p @5 min:6} | c rolled@5 | d {put d=1 by:p @5 min:6}
		secondaries @5 a b d z -> ok ROLLED
		image -> 0/0 | a {put a=1 by:p @5 min:6} | b rolled@5 | c rolled@5 | d {put d=1 by:p @5 min:6}
		prewrite @5 b=1 -> rolled b
		pess @6 for:6 e f -> ok
		secondaries @6 e f -> ok ROLLED
		image -> 0/0 | a {put a=1 by:p @5 min:6} | b rolled@5 | c rolled@5 | d {put d=1 by:p @5 min:6} | e rolled@6 | f {pess f by:e @6 for:6 min:7}
		secondaries @7 a -> ok ROLLED
		image -> 0/0 | a {put a=1 by:p @5 min:6} rolled@7 | b rolled@5 | c rolled@5 | d {put d=1 by:p @5 min:6} | e rolled@6 | f {pess f by:e @6 for:6 min:7}`)
}

func TestSecondariesTooOld(t *testing.T) { // P11.9
	script(t, New(), `
		prewrite @5 a=1 b=1 -> ok at:6
		pess @7 for:7 e -> ok
		prewrite @8 +async f=1 -> ok at:9
		commit @5 at:6 a b -> ok
		floor at:20 -> ok
		rollback @7 e -> ok
		commit @8 at:9 f -> ok
		gc at:10 -> ok
		secondaries @5 a b -> ok at:6 COMMITTED
		secondaries @5 c -> tooold c
		secondaries @5 a c -> ok at:6 COMMITTED
		secondaries @7 e -> tooold e
		secondaries @10 a -> tooold a
		secondaries @11 g -> ok ROLLED
		image -> 20/10 | a put@5:6=1 | b put@5:6=1 | f put@8:9=1 | g rolled@11`)
	// A lock that is older than the GC can only come from an image: it is gone over, or rolled, all the same.
	s := New()
	script(t, s, `
		prewrite @5 a=1 -> ok at:6
		pess @5 for:5 b -> ok
		floor at:20 -> ok`)
	x := s.Image()
	x.GC = 20
	s, _ = Load(x)
	script(t, s, `
		secondaries @5 a c -> tooold c
		secondaries @5 a b c -> ok ROLLED
		secondaries @5 a -> ok at:6 LOCKED
		check @5 by:a -> ok LOCKED {put a=1 by:a @5 min:6}
		image -> 20/20 | a {put a=1 by:a @5 min:6} | b rolled@5`)
}

func TestResolve(t *testing.T) { // P11.10
	script(t, New(), `
		prewrite @5 at:9 a=1 b~ c! -> ok at:9
		pess @5 for:30 d -> ok
		prewrite @6 e=1 -> ok at:7
		rollback @5 f -> ok
		resolve @5 at:8 a -> early a at:9
		resolve @5 at:8 c d -> early c at:9
		resolve @5 at:8 d -> ok
		image -> 0/0 | a {put a=1 by:a @5 min:9} | b {delete b by:a @5 min:9} | c {lock c by:a @5 min:9} | e {put e=1 by:e @6 min:7} | f rolled@5
		resolve @5 at:9 a e f z -> ok
		resolve @5 at:8 a e f z -> ok
		resolve @5 b e z -> ok
		image -> 0/0 | a put@5:9=1 | b rolled@5 | c {lock c by:a @5 min:9} | e {put e=1 by:e @6 min:7} | f rolled@5
		resolve @5 at:15 -> ok
		resolve @5 -> ok
		resolve @6 -> ok
		image -> 0/0 | a put@5:9=1 | b rolled@5 | c lock@5:15 | e rolled@6 | f rolled@5`)
	script(t, New(), `
		prewrite @5 at:9 a=1 c=1 -> ok at:9
		prewrite @5 at:12 b=1 e=1 -> ok at:12
		pess @5 for:30 d -> ok
		prewrite @6 f=1 -> ok at:7
		resolve @5 at:10 -> early b at:12
		image -> 0/0 | a {put a=1 by:a @5 min:9} | b {put b=1 by:b @5 min:12} | c {put c=1 by:a @5 min:9} | d {pess d by:d @5 for:30 min:31} | e {put e=1 by:b @5 min:12} | f {put f=1 by:f @6 min:7}
		resolve @5 at:12 -> ok
		image -> 0/0 | a put@5:12=1 | b put@5:12=1 | c put@5:12=1 | e put@5:12=1 | f {put f=1 by:f @6 min:7}
		pess @13 for:13 d e -> ok
		resolve @13 -> ok
		image -> 0/0 | a put@5:12=1 | b put@5:12=1 | c put@5:12=1 | d rolled@13 | e rolled@13 put@5:12=1 | f {put f=1 by:f @6 min:7}`)
}

func TestFloor(t *testing.T) { // P11.11
	script(t, New(), `
		floor at:10 -> ok
		image -> 10/0
		floor at:9 -> ok
		floor at:0 -> ok
		image -> 10/0
		floor at:top -> ok
		image -> 4611686018427387903/0
		get a 0 -> none`)
}

func TestGC(t *testing.T) { // P11.11
	s := New()
	script(t, s, `
		prewrite @1 a=1 b=1 c=1 -> ok at:2
		commit @1 at:5 a b c -> ok
		prewrite @6 a=2 b~ c! d! -> ok at:7
		commit @6 at:10 a b c d -> ok
		rollback @11 a b c d e -> ok
		prewrite @12 a! b! c~ -> ok at:13
		commit @12 at:15 a b c -> ok
		rollback @16 a e -> ok
		prewrite @20 a=3 b=3 -> ok at:21
		commit @20 at:25 a b -> ok
		gc at:1 -> arg
		floor at:40 -> ok
		gc at:41 -> arg`)
	before := copyOf(t, s)
	script(t, s, `
		gc at:11 -> ok
		image -> 40/11 | a put@20:25=3 rolled@16 lock@12:15 put@6:10=2 | b put@20:25=3 lock@12:15 delete@6:10 | c delete@12:15 put@1:5=1 | e rolled@16
		gc at:4 -> ok
		image -> 40/11 | a put@20:25=3 rolled@16 lock@12:15 put@6:10=2 | b put@20:25=3 lock@12:15 delete@6:10 | c delete@12:15 put@1:5=1 | e rolled@16
		gc at:16 -> ok
		image -> 40/16 | a put@20:25=3 put@6:10=2 | b put@20:25=3 delete@6:10 | c delete@12:15
		gc at:40 -> ok
		image -> 40/40 | a put@20:25=3 | b put@20:25=3 | c delete@12:15
		get a 40 -> =3
		get a 39 -> tooold`)
	script(t, before, `
		gc at:4 -> ok
		image -> 40/4 | a put@20:25=3 rolled@16 lock@12:15 rolled@11 put@6:10=2 put@1:5=1 | b put@20:25=3 lock@12:15 rolled@11 delete@6:10 put@1:5=1 | c delete@12:15 rolled@11 lock@6:10 put@1:5=1 | d rolled@11 lock@6:10 | e rolled@16 rolled@11
		gc at:5 -> ok
		gc at:24 -> ok
		image -> 40/24 | a put@20:25=3 put@6:10=2 | b put@20:25=3 delete@6:10 | c delete@12:15
		gc at:25 -> ok
		image -> 40/25 | a put@20:25=3 | b put@20:25=3 | c delete@12:15`)
}

func TestGCMeetsLocks(t *testing.T) { // P11.11
	script(t, New(), `
		prewrite @30 a=1 -> ok at:31
		prewrite @20 b=1 -> ok at:21
		pess @10 for:50 c -> ok
		prewrite @25 d! at:60 -> ok at:60
		rollback @5 e -> ok
		floor at:40 -> ok
		gc at:9 -> ok
		image -> 40/9 | a {put a=1 by:a @30 min:31} | b {put b=1 by:b @20 min:21} | c {pess c by:c @10 for:50 min:51} | d {lock d by:d @25 min:60}
		gc at:41 -> arg
		gc at:10 -> locked c {pess c by:c @10 for:50 min:51}
		gc at:20 -> locked b {put b=1 by:b @20 min:21}
		gc at:40 -> locked a {put a=1 by:a @30 min:31}
		resolve @10 -> ok
		resolve @20 at:22 -> ok
		gc at:24 -> ok
		gc at:25 -> locked d {lock d by:d @25 min:60}
		image -> 40/24 | a {put a=1 by:a @30 min:31} | b put@20:22=1 | d {lock d by:d @25 min:60}`)
}

func TestCut(t *testing.T) { // P11.12
	build := `
		prewrite @5 a=1 b=1 m~ z! -> ok at:6
		commit @5 at:6 a m -> ok
		rollback @7 n -> ok
		floor at:4 -> ok
		gc at:3 -> ok`
	rows := [][3]string{
		{"b", "4/3 | a put@5:6=1", "4/3 | b {put b=1 by:a @5 min:6} | m delete@5:6 | n rolled@7 | z {lock z by:a @5 min:6}"},
		{"b0", "4/3 | a put@5:6=1 | b {put b=1 by:a @5 min:6}", "4/3 | m delete@5:6 | n rolled@7 | z {lock z by:a @5 min:6}"},
		{"m", "4/3 | a put@5:6=1 | b {put b=1 by:a @5 min:6}", "4/3 | m delete@5:6 | n rolled@7 | z {lock z by:a @5 min:6}"},
		{"z0", "4/3 | a put@5:6=1 | b {put b=1 by:a @5 min:6} | m delete@5:6 | n rolled@7 | z {lock z by:a @5 min:6}", "4/3"},
		{"a", "4/3", "4/3 | a put@5:6=1 | b {put b=1 by:a @5 min:6} | m delete@5:6 | n rolled@7 | z {lock z by:a @5 min:6}"},
		{"-", "4/3", "4/3 | a put@5:6=1 | b {put b=1 by:a @5 min:6} | m delete@5:6 | n rolled@7 | z {lock z by:a @5 min:6}"},
	}
	for _, r := range rows {
		s := New()
		script(t, s, build)
		was := image(s)
		right := s.Cut(key(r[0]))
		wantText(t, "what stays at Cut("+r[0]+")", image(s), r[1])
		wantText(t, "what Cut("+r[0]+") answers", image(right), r[2])
		s.Join(right)
		wantText(t, "Cut and Join", image(s), was)
		wantText(t, "what was joined stays", image(right), r[2])
	}
	wantText(t, "Cut of nothing", image(New().Cut(key("m"))), "0/0")
}

func TestJoin(t *testing.T) { // P11.12
	s, o := New(), New()
	script(t, s, `
		prewrite @5 b=1 -> ok at:6
		rollback @6 d -> ok
		floor at:9 -> ok
		gc at:2 -> ok`)
	script(t, o, `
		prewrite @5 a=2 b=2 c=2 e=2 -> ok at:6
		commit @5 at:8 a b -> ok
		floor at:7 -> ok
		gc at:4 -> ok`)
	other := image(o)
	s.Join(nil)
	script(t, s, "image -> 9/2 | b {put b=1 by:b @5 min:6} | d rolled@6")
	s.Join(o)
	joined := "9/4 | a put@5:8=2 | b {put b=1 by:b @5 min:6} | c {put c=2 by:a @5 min:6} | d rolled@6 | e {put e=2 by:a @5 min:6}"
	script(t, s, "image -> "+joined)
	wantText(t, "what was joined stays", image(o), other)
	s.Join(o)
	s.Join(s)
	s.Join(New())
	script(t, s, "image -> "+joined)
	n := New()
	n.Join(s)
	script(t, n, "image -> "+joined)

	// Each goes its own way from then on.
	script(t, s, `
		resolve @5 at:10 -> ok
		rollback @11 a c f -> ok`)
	script(t, n, "image -> "+joined)
	wantText(t, "what was joined stays", image(o), other)
	script(t, o, `
		rollback @5 c e -> ok
		rollback @9 a aa -> ok`)
	script(t, s, "image -> 9/4 | a rolled@11 put@5:8=2 | b put@5:10=1 | c rolled@11 put@5:10=2 | d rolled@6 | e put@5:10=2 | f rolled@11")
	script(t, o, "image -> 7/4 | a rolled@9 put@5:8=2 | aa rolled@9 | b put@5:8=2 | c rolled@5 | e rolled@5")
}

func TestSidesGoTheirOwnWay(t *testing.T) { // P11.12, P11.16: what is done to one side is not done to the other
	s := New()
	script(t, s, `
		prewrite @5 b=1 d=1 f=1 h=1 -> ok at:6
		commit @5 at:6 d f -> ok`)
	right := s.Cut(key("e"))
	script(t, s, `
		rollback @7 a c d dd -> ok
		floor at:3 -> ok`)
	script(t, right, "image -> 0/0 | f put@5:6=1 | h {put h=1 by:b @5 min:6}")
	script(t, right, `
		rollback @8 e f g -> ok
		resolve @5 -> ok
		floor at:4 -> ok
		gc at:4 -> ok`)
	script(t, s, "image -> 3/0 | a rolled@7 | b {put b=1 by:b @5 min:6} | c rolled@7 | d rolled@7 put@5:6=1 | dd rolled@7")
	script(t, right, "image -> 4/4 | e rolled@8 | f rolled@8 put@5:6=1 | g rolled@8 | h rolled@5")
	s.Join(right)
	script(t, s, "image -> 4/4 | a rolled@7 | b {put b=1 by:b @5 min:6} | c rolled@7 | d rolled@7 put@5:6=1 | dd rolled@7 | e rolled@8 | f rolled@8 put@5:6=1 | g rolled@8 | h rolled@5")
}
