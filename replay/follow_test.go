package replay_test

import (
	"fmt"
	"slices"
	"testing"

	"lockgate/api"
	"lockgate/disk"
	"lockgate/journal"
	"lockgate/replay"
)

// The keys of a play: whose journal it is, and who replay it.
const (
	owner   = 1
	another = 2
	third   = 3
)

// play is a record that comes into a journal, on a disk on which things go wrong.
type play struct {
	base, size, seq int
	l               []api.Change
	d               *disk.Disk
	was             []string // what lay on the disk ahead of the record
	kept            bool     // was Log done?
	told            string   // what was done so far, for messages
}

// begin is a play on a disk of so many sectors; in its journal lies an elder record, that is done, if that has changes.
func begin(t *testing.T, sectors, base, size, seq int, elder, l []api.Change) *play {
	t.Helper()
	p := &play{base: base, size: size, seq: seq, l: l, d: diskOf(sectors, owner, another, third)}
	if len(elder) > 0 {
		steps := append(logOf(t, base, size, seq-1, elder), homeOf(base, seq-1, elder)...)
		if n, e := replay.Do(p.d, owner, steps); n != len(steps) || e != api.OK {
			t.Fatalf("the elder record: %d of %d steps, %d", n, len(steps), e)
		}
	} else {
		p.d.Write(owner, base, journal.Head(seq-1))
		p.d.Flush(owner)
	}
	p.was = lying(p.d)
	return p
}

// say keeps what was done.
func (p *play) say(format string, words ...any) {
	p.told += fmt.Sprintf(format, words...) + "; "
}

// do does the first so many of some steps.
func (p *play) do(t *testing.T, key int, l []api.Step, upTo int) {
	t.Helper()
	p.say("key %d does %d of %d steps", key, upTo, len(l))
	if n, e := replay.Do(p.d, key, l[:upTo]); n != upTo || e != api.OK {
		t.Fatalf("%sand tells %d, %d", p.told, n, e)
	}
}

// log has the record come into its journal, up to a step, and its changes home behind that, if there are steps left.
func (p *play) log(t *testing.T, upTo int) {
	t.Helper()
	steps, e := replay.Log(p.base, p.size, p.seq, p.l)
	if e != api.OK {
		t.Fatalf("Log: %d", e)
	}
	p.kept = upTo >= len(steps)
	steps = append(steps, replay.Home(p.base, p.seq, p.l)...)
	p.do(t, owner, steps, min(upTo, len(steps)))
}

// steps is how many Log and Home have.
func (p *play) steps() (int, int) { return len(p.l) + 4, len(p.l) + 3 }

// lose has a key's cache be lost but for what is picked, in one of the ways that disks have; is the key fenced now?
func (p *play) lose(key, how int, picks []int) bool {
	p.say("way %d to lose %v of key %d", how, picks, key)
	switch how {
	case 0:
		p.d.Power(picks...)
	case 1:
		p.d.Drop(key, picks...)
	default:
		p.d.Fence(third, key)
		p.d.Takes(picks...)
		return true
	}
	return false
}

// redo is how a key finds the record in its journal.
func (p *play) redo(t *testing.T, key int) ([]api.Step, int) {
	t.Helper()
	region, e := replay.Look(p.d, key, p.base, p.size)
	if e != api.OK || len(region) != p.size {
		t.Fatalf("%sLook tells %d sectors, %d", p.told, len(region), e)
	}
	steps, seq := replay.Redo(p.base, region)
	if len(steps) == 0 && seq != 0 || len(steps) > 0 && seq != p.seq {
		t.Fatalf("%sRedo tells %d steps, seq %d", p.told, len(steps), seq)
	}
	return steps, seq
}

// there tells whether this lies on the disk, beside the journal.
func (p *play) there(want []string) bool {
	for i, s := range want {
		if (i < p.base || i >= p.base+p.size) && p.d.Peek(i) != s {
			return false
		}
	}
	return true
}

// home is what is to lie on the disk with all changes home.
func (p *play) home() []string {
	l := slices.Clone(p.was)
	for _, c := range p.l {
		l[c.Sector] = c.S
	}
	return l
}

// ends has a key redo all, and fails the test, if not all changes are home, or none, as said, or if there is anything left to redo.
func (p *play) ends(t *testing.T, key int, all bool) {
	t.Helper()
	steps, _ := p.redo(t, key)
	p.do(t, key, steps, len(steps))
	want := p.was
	if all {
		want = p.home()
	}
	if !p.there(want) {
		t.Fatalf("%sin the end there lie not all of the changes (if %t), or not none", p.told, all)
	}
	for _, key := range []int{key, third} {
		if steps, seq := p.redo(t, key); len(steps) > 0 || seq != 0 {
			t.Fatalf("%sin the end there is left to redo, for key %d: %s, %d", p.told, key, short(steps), seq)
		}
	}
}

// combinations are all picks of n writes.
func combinations(n int) [][]int {
	l := [][]int{nil}
	for range n {
		var more [][]int
		for _, picks := range l {
			more = append(more, append(slices.Clone(picks), 0), append(slices.Clone(picks), 1))
		}
		l = more
	}
	return l
}

// P12.3: a record of one change or two, over an elder one or none, cut off behind each step, with all that may be left of the cache; then all of it is home in the end, or none, as its mark lies there or not.
func TestLogCutOff(t *testing.T) {
	for n := 1; n <= 2; n++ {
		for _, elder := range [][]api.Change{nil, rowOf(3), rowOf(1, 3)} {
			for upTo := range 2*n + 8 {
				for _, picks := range combinations(n + 1) {
					for how := range 3 {
						p := begin(t, 14, 5, 6, 2, elder, rowOf(1, 12)[:n])
						p.log(t, upTo)
						key := another
						if !p.lose(owner, how, picks) && upTo%2 == 0 {
							key = owner
						}
						mark := upTo == n+3 && picks[0] == 1 // written, not flushed, and there
						p.ends(t, key, p.kept || mark)
					}
				}
			}
		}
	}
}

// redoKeys are who redo a record, one behind the other: by the owner's key, as it isn't fenced, and by others.
var redoKeys = [][]int{{another, another, another}, {another, third, another}, {owner, owner, owner}, {owner, another, owner}, {another, owner, third}}

// P12.3: the same for a record that lies there whole: whoever redoes it is cut off behind each step, twice, with all that may be left of his cache, and the next one redoes it.
func TestRedoCutOff(t *testing.T) {
	l := rowOf(1, 12)
	home := len(l) + 3
	for _, keys := range redoKeys {
		for first := range home + 1 {
			for _, picks := range combinations(2) {
				for second := range home + 1 {
					for _, others := range combinations(2) {
						p := begin(t, 14, 5, 6, 2, rowOf(1, 3), l)
						p.log(t, len(l)+4)
						p.lose(owner, 0, nil)
						for i, cut := range []struct {
							upTo  int
							picks []int
						}{{first, picks}, {second, others}} {
							steps, _ := p.redo(t, keys[i])
							p.do(t, keys[i], steps, min(cut.upTo, len(steps)))
							p.lose(keys[i], i, cut.picks)
						}
						p.ends(t, keys[2], true)
					}
				}
			}
		}
	}
}

// drawn is a play of a drawn record, over a drawn elder one or none.
func drawn(t *testing.T, d *draws) *play {
	t.Helper()
	size := 4 + d.below([]int{3, 62}[d.below(2)])
	base := d.below(20)
	sectors := base + size + 70
	n := 1 + d.below(min(journal.Room(size), []int{3, 60}[d.below(2)]))
	elder := d.row(d.below(min(journal.Room(size), n+3)+1), sectors, base, size)
	return begin(t, sectors, base, size, 2+d.below(9), elder, d.row(n, sectors, base, size))
}

// round has a key redo what it finds, up to a drawn step, and what it had be lost but for drawn picks; it tells whether there was something to redo, and whether the key is fenced now.
func (p *play) round(t *testing.T, d *draws, key, hows int) (bool, bool) {
	t.Helper()
	steps, _ := p.redo(t, key)
	p.do(t, key, steps, d.below(len(steps)+1))
	fenced := p.lose(key, d.below(hows), d.picks(p.d.Cached(key)))
	return len(steps) > 0, fenced
}

// P12.3: drawn records, cut off anywhere in Log, or on their way home, and redone by any key, cut off anywhere, up to four times: all changes are home in the end, or none, all if Log was done, and nothing is left to redo.
func TestDrawnPlays(t *testing.T) {
	d, ends := draws(2), [2]int{}
	for range 3000 {
		p := drawn(t, &d)
		log, home := p.steps()
		p.log(t, d.below(log+1)+d.below(2)*d.below(home+1))
		fenced := p.lose(owner, d.below(3), d.picks(p.d.Cached(owner)))
		_, found, _ := journal.Scan(lying(p.d)[p.base : p.base+p.size])
		all := len(found) > 0 || p.there(p.home()) && !p.there(p.was)
		if p.kept && !all {
			t.Fatalf("%swhat was kept is not there", p.told)
		}
		keys := []int{another, third}
		if !fenced {
			keys = append(keys, owner)
		}
		for range d.below(4) {
			there, _ := p.round(t, &d, keys[d.below(len(keys))], 2)
			if there && !all {
				t.Fatalf("%swhat was lost is there again", p.told)
			}
		}
		if d.below(3) == 0 {
			p.round(t, &d, another, 3)
			p.ends(t, third, all)
		} else {
			p.ends(t, keys[d.below(len(keys))], all)
		}
		if all {
			ends[1]++
		} else {
			ends[0]++
		}
	}
	if ends[0] < 300 || ends[1] < 300 {
		t.Errorf("of the plays %d ended with none, and %d with all", ends[0], ends[1])
	}
}

// P12.3: one record behind the other, each of them kept, cut off on its way home and redone: what was kept last lies there.
func TestPlaysOneBehindTheOther(t *testing.T) {
	d := draws(3)
	for range 60 {
		p := begin(t, 90, 4, 20, 2, nil, d.row(3, 90, 4, 20))
		for range 12 {
			log, home := p.steps()
			p.log(t, log+d.below(home+1))
			p.lose(owner, d.below(2), d.picks(p.d.Cached(owner)))
			p.ends(t, []int{owner, another, third}[d.below(3)], true)
			p.was, p.seq, p.l = lying(p.d), p.seq+1+d.below(3), d.row(1+d.below(17), 90, 4, 20)
		}
	}
}
