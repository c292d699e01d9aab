package sortkit

import (
	"iter"
	"slices"

	"toolchest/api"
	"toolchest/opt"
	"toolchest/task"
)

// sorting is what becomes of the inputs' lines.
type sorting struct {
	task   *task.Task
	by     ordering
	buf    int // bytes that are read at once
	most   int // bytes of the hoard behind which a whole line fits in yet
	hoard  hoard
	spills spills
	runs   []run // in the order of the inputs
}

// run is sorted lines in a spill file.
type run struct {
	name string
	size int // bytes
	rank int // how many times they were merged
}

func sortInputs(t *task.Task, by ordering) {
	lim := t.Proc.Lim()
	held := max(lim.Run, 2*(lim.Line+lim.Buf))
	s := &sorting{
		task:   t,
		by:     by,
		buf:    lim.Buf,
		most:   max(0, held-(lim.Line+1)),
		hoard:  hoard{proc: t.Proc, line: lim.Line},
		spills: spills{task: t},
	}
	defer s.spills.removeAll()
	if !s.readInputs() {
		return
	}
	if lines, ok := s.sorted(); ok {
		s.tell(lines)
	}
}

// readInputs reads all of them; false: a spill file has failed.
func (s *sorting) readInputs() bool {
	for in := range s.task.Read(s.task.Operands) {
		if !s.read(in) {
			return false
		}
	}
	return true
}

// read takes the lines of one input; false: a spill file has failed.
func (s *sorting) read(in *task.Input) bool {
	for {
		if s.isFull() && !s.spill() {
			return false
		}
		b := in.Bytes(s.room())
		if len(b) == 0 {
			break
		}
		if !s.hoard.add(b) {
			in.Fail(api.ErrLine)
		}
	}
	if in.Failed() {
		s.hoard.dropLine()
	}
	s.hoard.endLine()
	return true
}

// isFull tells whether another line might be too much.
func (s *sorting) isFull() bool { return s.hoard.isWhole() && len(s.hoard.data) > s.most }

// room is how many bytes are to be read next: a buffer, as long as a line that ends behind it fits in yet; else one byte, so that nothing is read behind the line's end. So all that is held can be spilt there, and leaves its room to what is merged.
func (s *sorting) room() int { return min(s.buf, max(1, s.most-len(s.hoard.data))) }

// spill lets the hoard be a run, and merges runs, so that few stand there; false: a spill file has failed.
func (s *sorting) spill() bool {
	r, ok := s.writeRun(0, s.hoard.sorted(s.by))
	if !ok {
		return false
	}
	s.runs = append(s.runs, r)
	s.hoard.empty()
	return s.mergeAlike()
}

// mergeAlike merges runs that were merged as often as their neighbours, so that no line is merged more often than it takes. It leaves the last one: if nothing comes behind it, the others need not be merged.
func (s *sorting) mergeAlike() bool {
	for i := len(s.runs) - 3; i >= 0 && areAlike(s.runs[i], s.runs[i+1]); i-- {
		if !s.merge(i) {
			return false
		}
	}
	return true
}

// areAlike tells whether two runs were merged as often as each other, and are not too much for one file.
func areAlike(a, b run) bool { return a.rank == b.rank && a.size+b.size <= api.MaxData }

// merge makes one run of the one at a place and the next one; false: a spill file has failed.
func (s *sorting) merge(i int) bool {
	two := s.runs[i : i+2]
	p, ok := s.spills.open(two)
	if !ok {
		return false
	}
	r, ok := s.writeRun(1+max(two[0].rank, two[1].rank), p.merged(s.by))
	if !ok {
		return false
	}
	p.close()
	s.runs = slices.Replace(s.runs, i, i+2, r)
	return true
}

// writeRun lets lines be a run; false: a spill file has failed.
func (s *sorting) writeRun(rank int, lines iter.Seq[[]byte]) (run, bool) {
	fd, name, ok := s.spills.create()
	if !ok {
		return run{}, false
	}
	size, ok := s.write(fd, name, lines)
	if !ok {
		return run{}, false
	}
	s.task.Proc.Close(fd)
	return run{name, size, rank}, true
}

// sorted are the lines of all inputs, when these have been read; false: a spill file has failed.
func (s *sorting) sorted() (iter.Seq[[]byte], bool) {
	if len(s.runs) == 0 {
		return s.hoard.sorted(s.by), true
	}
	if len(s.hoard.data) > 0 && !s.spill() {
		return nil, false
	}
	for len(s.runs) > 2 { // the last ones are the least
		if !s.merge(len(s.runs) - 2) {
			return nil, false
		}
	}
	p, ok := s.spills.open(s.runs)
	if !ok {
		return nil, false
	}
	return p.merged(s.by), true
}

// tell tells lines, to the file that is asked for, or else to the descriptor 1.
func (s *sorting) tell(lines iter.Seq[[]byte]) {
	file, ok := opt.Last(s.task.Opts, 'o')
	if !ok {
		s.write(task.FdOut, task.StandardOut, lines)
		return
	}
	fd, e := s.task.Proc.Open(file, api.OpenWrite)
	if e != api.OK {
		s.task.Fail(file, e)
		return
	}
	s.write(fd, file, lines)
}

// write writes lines to a descriptor, of which is spoken by a name: how many bytes; false: not all of them, and why was said.
func (s *sorting) write(fd int, name string, lines iter.Seq[[]byte]) (int, bool) {
	size := 0
	for line := range lines {
		whole := append(slices.Clip(line), feed) // what stands behind it is not its own
		if !s.task.Write(fd, name, whole) {
			return 0, false
		}
		size += len(whole)
	}
	return size, !s.spills.failed
}
