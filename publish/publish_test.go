package publish

import (
	"math/rand"
	"slices"
	"strings"
	"testing"

	"betatron/api"
)

func subscription(bound, policy, every int, changes bool) api.Subscription {
	return api.Subscription{Topic: "a/x", Bound: bound, Policy: policy, Every: every, Changes: changes}
}

func put(value string, stamp int) api.BrokerStep {
	return api.BrokerStep{Kind: 3, Topic: "a/x", Stamp: stamp, Value: value}
}

func values(l []api.Reading) string {
	var words []string
	for _, r := range l {
		words = append(words, r.Value)
	}
	return strings.Join(words, " ")
}

func TestExamples(t *testing.T) {
	for policy, want := range map[int]string{api.DropOldest: "3 4", api.DropNewest: "2 3"} {
		b, _, e := Run([]api.BrokerStep{put("1", 0), put("2", 1), {Kind: 1, Subscription: subscription(2, policy, 1, false)}, put("3", 2), put("4", 2)})
		if e != api.OK || values(b.Queues[0].Waiting) != want || b.Queues[0].Lost != 1 || b.Queues[0].Seen != 2 || Valid(b) != api.OK {
			t.Errorf("P39.1: policy %d: %v %d", policy, b, e)
		}
		if n, e := Lost(b, 1); n != 1 || e != api.OK {
			t.Errorf("P39.1: Lost: %d %d", n, e)
		}
	}
	b, _, _ := Run([]api.BrokerStep{{Kind: 1, Subscription: subscription(9, 1, 2, true)}, put("", 0), put("1", 0), put("1", 1), put("2", 2), put("1", 3), put("1", 3), put("3", 3)})
	if q := b.Queues[0]; values(q.Waiting) != "2 3" || q.Seen != 4 || q.Last != "3" {
		t.Errorf("P39.1: changes: %v", b.Queues[0])
	}
	b, taken, e := Run([]api.BrokerStep{put("1", 0), {Kind: 1, Subscription: subscription(3, 1, 1, false)}, put("2", 1), {Kind: 4, Number: 1}, {Kind: 4, Number: 1}, {Kind: 2, Number: 1}})
	if values(taken) != "1 2" || taken[1] != (api.Reading{Topic: "a/x", Stamp: 1, Sequence: 2, Value: "2"}) || len(b.Queues) != 0 || b.Next != 2 || e != api.OK {
		t.Errorf("P39.1: Run: %v %v %d", b, taken, e)
	}
	if l, e := Gaps([]api.Reading{{Sequence: 1}, {Sequence: 2}, {Sequence: 5}, {Sequence: 7}}); !slices.Equal(l, []api.Span{{Low: 3, High: 4}, {Low: 6, High: 6}}) || e != api.OK {
		t.Errorf("P39.1: Gaps: %v %d", l, e)
	}
}

func TestConsequences(t *testing.T) {
	r := rand.New(rand.NewSource(25))
	for range 100 {
		b := New()
		b, _ = Publish(b, "a/x", 0, "first")
		b, number, _ := Subscribe(b, subscription(r.Intn(4)+1, r.Intn(2)+1, 1, false))
		b, _, _ = Subscribe(b, api.Subscription{Topic: "b", Bound: 3, Policy: 1, Every: 1})
		published, taken := 1, []api.Reading{}
		for range r.Intn(20) {
			if r.Intn(3) > 0 {
				b, _ = Publish(b, "a/x", published, "v")
				published++
				continue
			}
			if next, reading, e := Take(b, number); e == api.OK {
				b, taken = next, append(taken, reading)
			}
		}
		q := b.Queues[0]
		lost, _ := Lost(b, number)
		if len(taken)+len(q.Waiting)+lost != published || Valid(b) != api.OK || len(b.Queues[1].Waiting) != 0 || b.Queues[1].Seen != 0 {
			t.Fatalf("P39.2: %v", b)
		}
		if _, e := Gaps(append(taken, q.Waiting...)); e != api.OK {
			t.Fatalf("P39.2: sequences: %d", e)
		}
		if n := len(q.Waiting); q.Subscription.Policy == api.DropOldest && n > 0 && q.Waiting[n-1].Sequence != published {
			t.Fatal("P39.2: the newest readings")
		}
	}
}

func TestErrors(t *testing.T) {
	reading := api.Reading{Topic: "a", Stamp: 5, Sequence: 3, Value: "v"}
	queue := api.Queue{Number: 1, Subscription: api.Subscription{Topic: "a", Bound: 2, Policy: 1, Every: 1}, Waiting: []api.Reading{{Topic: "a", Stamp: 4, Sequence: 2}, reading}}
	for i, c := range []struct {
		change func(b *api.Broker)
		want   api.Errno
	}{
		{func(b *api.Broker) {}, 0}, {func(b *api.Broker) { b.Next = 0 }, api.ErrRange}, {func(b *api.Broker) { b.Topics = make([]api.Reading, 51) }, api.ErrTooLarge}, {func(b *api.Broker) { b.Topics[0].Topic = "" }, api.ErrEmpty},
		{func(b *api.Broker) { b.Topics[0].Topic = "a b" }, api.ErrSyntax}, {func(b *api.Broker) { b.Topics[0].Topic = strings.Repeat("a", 41) }, api.ErrTooLarge}, {func(b *api.Broker) { b.Topics[0].Sequence = 0 }, api.ErrRange},
		{func(b *api.Broker) { b.Topics[0].Value = strings.Repeat("a", 81) }, api.ErrTooLarge}, {func(b *api.Broker) { b.Topics[0].Value = "\n" }, api.ErrSyntax}, {func(b *api.Broker) { b.Topics = append(b.Topics, b.Topics[0]) }, api.ErrOrder},
		{func(b *api.Broker) { b.Queues = make([]api.Queue, 51) }, api.ErrTooLarge}, {func(b *api.Broker) { b.Queues[0].Number = 0 }, api.ErrOrder}, {func(b *api.Broker) { b.Queues = append(b.Queues, b.Queues[0]) }, api.ErrOrder}, {func(b *api.Broker) { b.Next = 1 }, api.ErrRange},
		{func(b *api.Broker) { b.Queues[0].Subscription.Bound = 21 }, api.ErrRange}, {func(b *api.Broker) { b.Queues[0].Subscription.Policy = 3 }, api.ErrRange}, {func(b *api.Broker) { b.Queues[0].Subscription.Every = 0 }, api.ErrRange}, {func(b *api.Broker) { b.Queues[0].Subscription.Topic = "" }, api.ErrEmpty},
		{func(b *api.Broker) { b.Queues[0].Subscription.Bound = 1 }, api.ErrTooLarge}, {func(b *api.Broker) { b.Queues[0].Waiting[0].Sequence = 0 }, api.ErrRange}, {func(b *api.Broker) { b.Queues[0].Waiting[0].Topic = "b" }, api.ErrInvalid},
		{func(b *api.Broker) { b.Queues[0].Waiting[1].Sequence = 4 }, api.ErrInvalid}, {func(b *api.Broker) { b.Queues[0].Waiting[1].Stamp = 6 }, api.ErrInvalid}, {func(b *api.Broker) { b.Topics = nil }, api.ErrInvalid}, {func(b *api.Broker) { b.Queues[0].Waiting[0].Sequence = 3 }, api.ErrOrder},
		{func(b *api.Broker) { b.Queues[0].Waiting[0].Stamp = 5; b.Queues[0].Waiting[1].Stamp = 4 }, api.ErrOrder}, {func(b *api.Broker) { b.Queues[0].Seen = -1 }, api.ErrRange}, {func(b *api.Broker) { b.Queues[0].Last = "\n" }, api.ErrSyntax},
	} {
		b := copied(api.Broker{Topics: []api.Reading{reading}, Queues: []api.Queue{queue}, Next: 2})
		c.change(&b)
		if e := Valid(b); e != c.want {
			t.Errorf("P39.1: Valid, row %d: %d", i, e)
		}
		if c.want == api.OK {
			continue
		}
		if _, e := Publish(b, "", 0, ""); e != c.want {
			t.Errorf("P39.1: Publish, row %d: %d", i, e)
		}
	}
	b := api.Broker{Topics: []api.Reading{reading}, Queues: []api.Queue{queue}, Next: 2}
	for i, c := range []struct {
		topic string
		stamp int
		value string
		want  api.Errno
	}{{"", -1, "", api.ErrEmpty}, {"a", -1, "\n", api.ErrRange}, {"a", 1, "\n", api.ErrSyntax}, {"a", 4, "", api.ErrOrder}, {"a", 5, "", 0}, {"c", 0, "", 0}} {
		if _, e := Publish(b, c.topic, c.stamp, c.value); e != c.want {
			t.Errorf("P39.1: Publish, row %d: %d", i, e)
		}
	}
	full := copied(b)
	full.Topics[0].Sequence = 1 << 40
	if _, e := Publish(full, "a", 5, ""); e != api.ErrFull {
		t.Errorf("P39.1: Publish: %d", e)
	}
	seen := copied(b)
	seen.Queues[0].Seen = 1 << 40
	if _, e := Publish(seen, "a", 5, ""); e != api.ErrFull {
		t.Errorf("P39.1: Publish: %d", e)
	}
	if _, e := Publish(seen, "b", 5, ""); e != api.OK {
		t.Errorf("P39.1: Publish: %d", e)
	}
	last := copied(b)
	last.Next = 1 << 40
	if _, _, e := Subscribe(last, queue.Subscription); e != api.ErrFull {
		t.Errorf("P39.1: Subscribe: %d", e)
	}
	if _, _, e := Take(b, 2); e != api.ErrNotFound {
		t.Errorf("P39.1: Take: %d", e)
	}
	if _, e := Unsubscribe(b, 2); e != api.ErrNotFound {
		t.Errorf("P39.1: Unsubscribe: %d", e)
	}
	if _, e := Lost(b, 0); e != api.ErrNotFound {
		t.Errorf("P39.1: Lost: %d", e)
	}
	empty, _, _ := Subscribe(New(), queue.Subscription)
	if _, _, e := Take(empty, 1); e != api.ErrEmpty {
		t.Errorf("P39.1: Take: %d", e)
	}
	if _, _, e := Run(make([]api.BrokerStep, 201)); e != api.ErrTooLarge {
		t.Errorf("P39.1: Run: %d", e)
	}
	if b, _, e := Run([]api.BrokerStep{put("1", 0), {Kind: 5}, {Kind: 4}}); e != api.ErrInvalid || b.Next != 0 {
		t.Errorf("P39.1: Run: %d", e)
	}
	for i, c := range []struct {
		l    []api.Reading
		want api.Errno
	}{{make([]api.Reading, 1001), api.ErrTooLarge}, {make([]api.Reading, 1), api.ErrRange}, {[]api.Reading{{Sequence: 1}, {Topic: "x", Sequence: 1}}, api.ErrInvalid}, {[]api.Reading{{Sequence: 1}, {Sequence: 1}}, api.ErrOrder}} {
		if _, e := Gaps(c.l); e != c.want {
			t.Errorf("P39.1: Gaps, row %d: %d", i, e)
		}
	}
}
