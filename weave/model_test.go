package weave_test

import (
	"cmp"
	"math"
	"math/rand"
	"slices"

	"weave/api"
)

// model is a replica as the document's words have it: all effects are kept, and all is found out anew each time.
type model struct {
	number    int
	replicas  int
	delivered []api.Batch
	held      []api.Batch
	open      bool
	effects   []api.Effect
	synced    int // bytes of the log
	down      bool
	written   []api.Batch // of one that is down: what stood in its log
	left      string      // and what is left of that
}

// event is an effect with its dot and its batch's Time.
type event struct {
	api.Effect
	dot  api.Dot
	time int
}

func (m *model) clock() []int {
	clock := make([]int, m.replicas)
	for _, b := range m.delivered {
		clock[b.Origin]++
	}
	return clock
}

func (m *model) batch() api.Batch {
	b := api.Batch{Origin: m.number, Seq: m.clock()[m.number] + 1, Time: 1, Clock: m.clock(), Effects: slices.Clone(m.effects)}
	for _, x := range m.delivered {
		b.Time = max(b.Time, x.Time+1)
	}
	return b
}

// events are the effects of one operation on an object.
func (m *model) events(op, object int) []event {
	var list []event
	for _, b := range append(slices.Clone(m.delivered), m.batch()) {
		for i, e := range b.Effects {
			if e.Op == op && e.Object == object {
				list = append(list, event{e, dot(b.Origin, b.Seq, i), b.Time})
			}
		}
	}
	return list
}

// without are those events whose dot none of the others names.
func without(list, others []event) []event {
	return slices.DeleteFunc(list, func(x event) bool {
		return slices.ContainsFunc(others, func(y event) bool { return y.Ref == x.dot || slices.Contains(y.Dots, x.dot) })
	})
}

func byDot(a, b event) int {
	return cmp.Or(cmp.Compare(a.dot.Origin, b.dot.Origin), cmp.Compare(a.dot.Seq, b.dot.Seq), cmp.Compare(a.dot.Index, b.dot.Index))
}

func laterFirst(a, b event) int {
	return cmp.Or(cmp.Compare(b.time, a.time), cmp.Compare(b.dot.Origin, a.dot.Origin), cmp.Compare(b.dot.Index, a.dot.Index))
}

// tree is what stands below a parent, in order.
func tree(puts []event, parent api.Dot) []event {
	var children, list []event
	for _, x := range puts {
		if x.Ref == parent {
			children = append(children, x)
		}
	}
	slices.SortFunc(children, laterFirst)
	for _, x := range children {
		list = append(append(list, x), tree(puts, x.dot)...)
	}
	return list
}

// standing are the events that an object of any kind comes to.
func (m *model) standing(object int) []event {
	switch object % 4 {
	case api.Counter:
		return m.events(api.Add, object)
	case api.Set:
		list := without(m.events(api.Insert, object), m.events(api.Remove, object))
		slices.SortFunc(list, byDot)
		return list
	case api.Register:
		list := without(m.events(api.Write, object), m.events(api.Write, object))
		slices.SortFunc(list, byDot)
		return list
	}
	return without(tree(m.events(api.Put, object), api.Dot{}), m.events(api.Erase, object))
}

func (m *model) values(object int) []int {
	var list []int
	sum := 0
	for _, x := range m.standing(object) {
		sum += x.Value
		list = append(list, x.Value)
	}
	switch object % 4 {
	case api.Counter:
		return []int{sum}
	case api.Set:
		slices.Sort(list)
		return slices.Compact(list)
	}
	return list
}

func (m *model) begin() api.Errno {
	switch {
	case m.down:
		return api.ErrDown
	case m.open:
		return api.ErrBusy
	case m.clock()[m.number] == 30:
		return api.ErrQuota
	}
	m.open = true
	return api.OK
}

// idle is the answer to what needs a transaction, if there is none.
func (m *model) idle() api.Errno {
	return cmp.Or(when(m.down, api.ErrDown), when(!m.open, api.ErrIdle))
}

func (m *model) abort() api.Errno {
	if errno := m.idle(); errno != api.OK {
		return errno
	}
	m.open, m.effects = false, nil
	return api.OK
}

// commit answers the batch; if there is none, it is empty.
func (m *model) commit() (api.Batch, api.Errno) {
	if errno := m.idle(); errno != api.OK {
		return api.Batch{}, errno
	}
	b := m.batch()
	m.open, m.effects = false, nil
	if len(b.Effects) == 0 {
		return api.Batch{}, api.OK
	}
	m.deliver(b)
	m.sync()
	return b, api.OK
}

func (m *model) deliver(b api.Batch) {
	m.delivered = append(m.delivered, b)
	m.held = slices.DeleteFunc(m.held, func(x api.Batch) bool { return x.Origin == b.Origin && x.Seq == b.Seq })
}

func (m *model) due(b api.Batch) bool {
	clock := m.clock()
	for i, n := range b.Clock {
		if n > clock[i] {
			return false
		}
	}
	return b.Seq == clock[b.Origin]+1
}

func byTime(a, b api.Batch) int {
	return cmp.Or(cmp.Compare(a.Time, b.Time), cmp.Compare(a.Origin, b.Origin), cmp.Compare(a.Seq, b.Seq))
}

func (m *model) takeFrame(b api.Batch) {
	switch {
	case m.clock()[b.Origin] >= b.Seq:
		return
	case m.due(b):
		m.deliver(b)
		m.deliverDue()
	case len(m.held) < 6 && !slices.ContainsFunc(m.held, func(x api.Batch) bool { return x.Origin == b.Origin && x.Seq == b.Seq }):
		m.held = append(m.held, b)
	}
}

func (m *model) deliverDue() {
	for slices.ContainsFunc(m.held, m.due) {
		due := slices.DeleteFunc(slices.Clone(m.held), func(x api.Batch) bool { return !m.due(x) })
		m.deliver(slices.MinFunc(due, byTime))
	}
}

// answer is what a digest is answered with.
func (m *model) answer(clock []int) []api.Batch {
	lacking := slices.DeleteFunc(slices.Clone(m.delivered), func(b api.Batch) bool { return b.Seq <= clock[b.Origin] })
	return lacking[:min(3, len(lacking))]
}

func (m *model) sync() api.Errno {
	if m.down {
		return api.ErrDown
	}
	m.synced = len(bytesOf(m.delivered))
	return api.OK
}

func (m *model) crash(keep int) api.Errno {
	if m.down {
		return api.ErrDown
	}
	m.goDown(m.delivered, keep)
	return api.OK
}

func (m *model) fail(keep int) api.Errno {
	if errno := m.idle(); errno != api.OK {
		return errno
	}
	written := slices.Clone(m.delivered)
	if len(m.effects) > 0 {
		written = append(written, m.batch())
	}
	m.goDown(written, keep)
	return api.OK
}

// goDown counts byte by byte what is left of the log, so that no keep can be too far off.
func (m *model) goDown(written []api.Batch, keep int) {
	bytes := bytesOf(written)
	n := m.synced
	for n < len(bytes) && n-m.synced < keep {
		n++
	}
	m.written, m.left = written, bytes[:n]
	m.down, m.open, m.effects, m.held = true, false, nil, nil
}

// restart does not read the bytes that are left: it is known what was written.
func (m *model) restart() api.Errno {
	if !m.down {
		return api.ErrUp
	}
	for len(bytesOf(m.written)) > len(m.left) {
		m.written = m.written[:len(m.written)-1]
	}
	m.delivered, m.down = slices.Clone(m.written), false
	return m.sync()
}

// fits: which operations are for which kind.
func fits(op, object int) bool {
	return slices.Contains([][]int{{api.Add}, {api.Insert, api.Remove}, {api.Write}, {api.Put, api.Erase}}[object%4], op)
}

func (m *model) do(op, object, a, b int) api.Errno {
	switch {
	case m.idle() != api.OK:
		return m.idle()
	case object < 0 || object > 7:
		return api.ErrObject
	case !fits(op, object):
		return api.ErrKind
	}
	e, errno := m.effect(op, object, a, b)
	switch {
	case errno != api.OK || op == api.Remove && len(e.Dots) == 0:
		return errno
	case len(m.effects) == 5 || len(e.Dots) > 150:
		return api.ErrBig
	}
	m.effects = append(m.effects, e)
	return api.OK
}

func (m *model) effect(op, object, a, b int) (api.Effect, api.Errno) {
	e := api.Effect{Op: op, Object: object}
	standing := m.standing(object)
	switch op {
	case api.Add:
		e.Value = a
		return e, when(a < -1000 || a > 1000, api.ErrValue)
	case api.Insert:
		e.Value = a
		return e, when(a < 0 || a > 255, api.ErrValue)
	case api.Write, api.Remove:
		for _, x := range standing {
			if op == api.Write || x.Value == a {
				e.Dots = append(e.Dots, x.dot)
			}
		}
		if op == api.Write {
			e.Value = a
		}
		return e, when(a < 0 || a > 255, api.ErrValue)
	case api.Put:
		e.Value = b
		if a > 0 && a <= len(standing) {
			e.Ref = standing[a-1].dot
		}
		return e, cmp.Or(when(b < 0 || b > 255, api.ErrValue), when(a < 0 || a > len(standing), api.ErrPlace))
	}
	if a < 0 || a >= len(standing) {
		return e, api.ErrPlace
	}
	e.Ref = standing[a].dot
	return e, api.OK
}

func when(wrong bool, errno api.Errno) api.Errno {
	if wrong {
		return errno
	}
	return api.OK
}

// agree: all that can be seen of a replica is as the model has it.
func (p play) agree(m *model) {
	p.Helper()
	p.clock(m.number, m.clock()...)
	p.held(m.number, len(m.held))
	if m.down {
		p.logBytes(m.number, m.left)
		return
	}
	p.log(m.number, m.delivered...)
	for object := range api.Objects {
		p.read(m.number, object, m.values(object)...)
	}
}

// number is one that is mostly between 0 and most, now and then at an edge or far off.
func number(dice *rand.Rand, most int) int {
	if dice.Intn(12) > 0 {
		return dice.Intn(most + 1)
	}
	edges := []int{math.MinInt, -1001, -1000, -1, 0, most + 1, 254, 255, 256, 1000, 1001, math.MaxInt}
	return edges[dice.Intn(len(edges))]
}

// operation is mostly one that is for the object.
func operation(dice *rand.Rand, object int) int {
	if object < 0 || object > 7 || dice.Intn(12) == 0 {
		return number(dice, 7)
	}
	return [][]int{{api.Add}, {api.Insert, api.Insert, api.Remove}, {api.Write}, {api.Put, api.Put, api.Erase}}[object%4][dice.Intn(1+object%4%2*2)]
}
