package journal_test

import (
	"fmt"
	"math/rand"
	"slices"
	"testing"

	"pasodoble/api"
	"pasodoble/journal"
)

// line is a mark or an entry.
type line struct {
	marks bool
	frame int
	u     api.Undo
}

// scroll is the chapter's words told another way: marks and entries below each other, as they came.
type scroll struct {
	most  int
	lines []line
}

func (s *scroll) marks() []int {
	var frames []int
	for _, l := range s.lines {
		if l.marks {
			frames = append(frames, l.frame)
		}
	}
	return frames
}

// entries are those of lines, the last one first.
func entries(lines []line) []api.Undo {
	var list []api.Undo
	for _, l := range lines {
		if !l.marks {
			list = append([]api.Undo{l.u}, list...)
		}
	}
	return list
}

func (s *scroll) many() int { return len(entries(s.lines)) }

// at answers the line of a frame's mark, or -1.
func (s *scroll) at(frame int) int {
	return slices.IndexFunc(s.lines, func(l line) bool { return l.marks && l.frame == frame })
}

func (s *scroll) mark(frame int) error {
	if frame < 0 || frame > last {
		return api.ErrArg
	}
	for _, other := range s.marks() {
		if other >= frame {
			return api.ErrArg
		}
	}
	s.lines = append(s.lines, line{marks: true, frame: frame})
	return nil
}

// hides answers whether an entry that is there makes another one say nothing new.
func hides(there, u api.Undo) bool {
	switch u.Kind {
	case api.UndoCells:
		one := there.ID == u.ID && there.Part.Comp == u.Part.Comp
		return there.Kind == api.UndoCells && one || there.Kind == api.UndoInsert && one ||
			there.Kind == api.UndoSpawn && there.ID == u.ID
	case api.UndoResource:
		return there.Kind == u.Kind && there.N == u.N
	case api.UndoNext, api.UndoSeed, api.UndoFrame:
		return there.Kind == u.Kind
	}
	return false
}

func (s *scroll) note(u api.Undo) error {
	frames := s.marks()
	switch {
	case !slices.Contains(kinds, u.Kind):
		return api.ErrArg
	case len(frames) == 0:
		return api.ErrState
	}
	for _, there := range entries(s.lines[s.at(slices.Max(frames)):]) {
		if hides(there, u) {
			return nil
		}
	}
	if s.many() >= s.most {
		return api.ErrFull
	}
	s.lines = append(s.lines, line{u: u})
	return nil
}

func (s *scroll) since(frame int) ([]api.Undo, error) {
	if s.at(frame) < 0 {
		return nil, api.ErrRange
	}
	return entries(s.lines[s.at(frame):]), nil
}

func (s *scroll) back(frame int) ([]api.Undo, error) {
	list, err := s.since(frame)
	if err == nil {
		s.lines = slices.Clone(s.lines[:s.at(frame)+1])
	}
	return list, err
}

// forget takes the first mark away, with what is behind it, as long as it is below frame and not the last one.
func (s *scroll) forget(frame int) int {
	many := s.many()
	for {
		frames := s.marks()
		if len(frames) < 2 || frames[0] >= frame {
			return many - s.many()
		}
		s.lines = slices.Clone(s.lines[s.at(frames[1]):])
	}
}

// drawnFrame is mostly near the marks that there are.
func drawnFrame(r *rand.Rand, s *scroll) int {
	frames := s.marks()
	switch {
	case r.Intn(15) == 0:
		return ends[r.Intn(len(ends))]
	case r.Intn(40) == 0:
		return last - r.Intn(2)
	case len(frames) == 0:
		return r.Intn(4)
	case r.Intn(2) == 0:
		return frames[r.Intn(len(frames))] + r.Intn(3) - 1
	}
	return frames[len(frames)-1-r.Intn(min(2, len(frames)))] + r.Intn(4) - 1
}

// drawnEntry is of few numbers, so that many say nothing new.
func drawnEntry(r *rand.Rand) api.Undo {
	u := api.Undo{
		Kind: kinds[r.Intn(len(kinds))], ID: r.Intn(3), N: r.Intn(3), Old: r.Intn(100),
		Part: api.Part{Comp: r.Intn(2), Values: [api.MaxWidth]int{r.Intn(9), 1, r.Intn(9)}, Tick: r.Intn(9)},
	}
	for range r.Intn(3) {
		u.Parts = append(u.Parts, api.Part{Comp: r.Intn(3), Tick: r.Intn(9)})
	}
	if r.Intn(20) == 0 {
		u.Kind = []int{0, -1, 10, 11, 1<<32 + 1}[r.Intn(5)]
	}
	return u
}

func wantSame(t *testing.T, name string, err, want error) {
	t.Helper()
	if want != nil {
		wants(t, name, err, want)
	} else if err != nil {
		t.Errorf("%s: %v", name, err)
	}
}

// oneCall makes a drawn call on both, and asks that both answer the same.
func oneCall(t *testing.T, r *rand.Rand, j *journal.Journal, s *scroll) {
	t.Helper()
	frame := drawnFrame(r, s)
	switch r.Intn(14) {
	case 0, 1:
		wantSame(t, fmt.Sprint("Mark ", frame), j.Mark(frame), s.mark(frame))
	case 2:
		name := fmt.Sprint("Forget ", frame)
		if got, want := j.Forget(frame), s.forget(frame); got != want {
			t.Errorf("%s: %d, want %d", name, got, want)
		}
	case 3:
		got, err := j.Back(frame)
		want, wantErr := s.back(frame)
		wantSame(t, fmt.Sprint("Back ", frame), err, wantErr)
		wantList(t, fmt.Sprint("Back ", frame), got, nil, want)
	case 4:
		got, err := j.Since(frame)
		want, wantErr := s.since(frame)
		wantSame(t, fmt.Sprint("Since ", frame), err, wantErr)
		wantList(t, fmt.Sprint("Since ", frame), got, nil, want)
	default:
		u := drawnEntry(r)
		handed := u
		handed.Parts = slices.Clone(u.Parts)
		wantSame(t, fmt.Sprintf("Note %+v", u), j.Note(handed), s.note(u))
		clear(handed.Parts)
	}
}

// wantAll asks for all that a journal tells.
func wantAll(t *testing.T, name string, j *journal.Journal, s *scroll) {
	t.Helper()
	wantMarks(t, name, j, s.many(), s.marks()...)
	for _, frame := range s.marks() {
		want, _ := s.since(frame)
		wantSince(t, j, frame, want...)
	}
}

func TestP13_4_DrawnRowsOfCalls(t *testing.T) {
	for seed := range 250 {
		r := rand.New(rand.NewSource(int64(seed)))
		most := 1 + seed%40
		j, s := made(t, most), &scroll{most: most}
		for call := range 150 {
			name := fmt.Sprint("row ", seed, " call ", call)
			oneCall(t, r, j, s)
			wantAll(t, name, j, s)
			if t.Failed() {
				t.Fatal(name)
			}
		}
	}
}

// TestP13_4_ARowOfFrames: frames as a game saves them, each forgotten behind a window, some gone back to.
func TestP13_4_ARowOfFrames(t *testing.T) {
	const window = 5
	j, s := made(t, 60), &scroll{most: 60}
	r := rand.New(rand.NewSource(13))
	for frame, played := 0, 0; played < 500; frame, played = frame+1, played+1 {
		wantSame(t, fmt.Sprint("Mark ", frame), j.Mark(frame), s.mark(frame))
		for range r.Intn(8) {
			u := drawnEntry(r)
			wantSame(t, fmt.Sprintf("Note %+v", u), j.Note(u), s.note(u))
		}
		if got, want := j.Forget(frame-window), s.forget(frame-window); got != want {
			t.Fatalf("Forget %d: %d, want %d", frame-window, got, want)
		}
		if r.Intn(4) == 0 {
			to := max(s.marks()[0], frame-r.Intn(window))
			want, _ := s.back(to)
			wantBack(t, j, to, want...)
			frame = to
		}
		wantAll(t, fmt.Sprint("frame ", frame), j, s)
		if t.Failed() {
			t.Fatal("frame ", frame)
		}
	}
}

// TestP13_4_NotedIsTold: each entry is told once, by Since, till Back or Forget takes it, which tell it once.
func TestP13_4_NotedIsTold(t *testing.T) {
	j := made(t, roomy)
	next := 0
	var gone []int
	for frame := range 40 {
		mark(t, j, frame)
		for range 3 {
			note(t, j, spawn(next))
			next++
		}
		if frame%10 == 9 {
			list, err := j.Back(frame - 2)
			if err != nil || len(list) != 9 {
				t.Fatalf("Back %d: %d of them, %v", frame-2, len(list), err)
			}
			for _, u := range list {
				gone = append(gone, u.ID)
			}
			mark(t, j, frame)
		}
	}
	list, err := j.Since(0)
	kept := len(list)
	if err != nil || kept != j.Len() || kept+len(gone) != next {
		t.Fatalf("%d kept (Len %d), %d gone, %d noted, %v", kept, j.Len(), len(gone), next, err)
	}
	seen := slices.Clone(gone)
	for _, u := range list {
		seen = append(seen, u.ID)
	}
	slices.Sort(seen)
	for id := range next {
		if seen[id] != id {
			t.Fatalf("the entry %d is told twice or never", id)
		}
	}
	wantForget(t, j, last, kept)
	wantMarks(t, "all forgotten", j, 0, 39)
}

// TestP13_4_TheSameCallsTellTheSame: two journals that are called alike are alike, whatever else is made beside them.
func TestP13_4_TheSameCallsTellTheSame(t *testing.T) {
	play := func() string {
		r := rand.New(rand.NewSource(31))
		j, s := made(t, 25), &scroll{most: 25}
		var all string
		for range 150 {
			oneCall(t, r, j, s)
			all += told(t, j)
			note(t, made(t, 1, 0), spawn(1))
		}
		return all
	}
	first := play()
	for range 3 {
		if play() != first {
			t.Fatal("the same calls tell another thing")
		}
	}
}
