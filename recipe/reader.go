package recipe

import (
	"slices"
	"strconv"

	"datum/api"
)

// wrong is that a token, or the text's end, may not stand where it does: its place, and what is wrong with it.
type wrong struct {
	place int
	why   api.Errno
}

func (w wrong) Error() string {
	return "recipe: error " + strconv.Itoa(int(w.why)) + " at " + strconv.Itoa(w.place)
}

// wrongAt is what is wrong with the token. No other kind of error comes from a reader.
func wrongAt(t api.Token, why api.Errno) error { return wrong{t.At, why} }

// reader goes through a text's tokens: those that are not read yet, and where the text ends.
type reader struct {
	rest []api.Token
	end  int
}

// next is the next token; behind the last one, one of no kind at the text's end.
func (r *reader) next() api.Token {
	if len(r.rest) == 0 {
		return api.Token{At: r.end}
	}
	t := r.rest[0]
	r.rest = r.rest[1:]
	return t
}

// take is the next token, if it is of the kind.
func (r *reader) take(kind int) (api.Token, error) {
	t := r.next()
	if t.Kind != kind {
		return api.Token{}, wrongAt(t, api.ErrWord)
	}
	return t, nil
}

// channels are all channels up to the text's end: one is read even if there is nothing, as that is wrong then.
func (r *reader) channels() ([]api.Channel, error) {
	var l []api.Channel
	for len(l) == 0 || len(r.rest) > 0 {
		c, err := r.channel(l)
		if err != nil {
			return nil, err
		}
		l = append(l, c)
	}
	return l, nil
}

// channel is the next channel, behind those ahead.
func (r *reader) channel(ahead []api.Channel) (api.Channel, error) {
	if err := r.begin(len(ahead)); err != nil {
		return api.Channel{}, err
	}
	name, err := r.name(ahead)
	if err != nil {
		return api.Channel{}, err
	}
	chart, err := r.chart()
	if err != nil {
		return api.Channel{}, err
	}
	if _, err := r.take(api.TOpen); err != nil {
		return api.Channel{}, err
	}
	return r.filled(api.Channel{Name: name, Chart: chart})
}

// begin reads the word that a channel begins with, behind so many channels.
func (r *reader) begin(ahead int) error {
	// Only words have a text, so no kind need be asked for here, nor of charts and fields.
	t := r.next()
	if t.Text != "channel" {
		return wrongAt(t, api.ErrWord)
	}
	if ahead == api.MaxChannels {
		return wrongAt(t, api.ErrSize)
	}
	return nil
}

// name is the next token as a name that no channel ahead has.
func (r *reader) name(ahead []api.Channel) (string, error) {
	t, err := r.take(api.TWord)
	if err != nil {
		return "", err
	}
	if named(ahead, t.Text) {
		return "", wrongAt(t, api.ErrTwice)
	}
	return t.Text, nil
}

// chart is the chart whose word is the next token.
func (r *reader) chart() (int, error) {
	t := r.next()
	words := chartWords()
	chart := slices.Index(words[:], t.Text)
	if chart < 0 {
		return 0, wrongAt(t, api.ErrWord)
	}
	return chart, nil
}

// filled is the channel, which has a name and a chart, with its fields, which are read up to the `}` behind them.
func (r *reader) filled(c api.Channel) (api.Channel, error) {
	may := fieldsOf(c.Chart)
	kept := places(&c)
	var came []field
	for t := r.next(); ; t = r.next() {
		if t.Kind == api.TClose {
			return closed(c, came, t)
		}
		f, err := fresh(may, came, t)
		if err != nil {
			return api.Channel{}, err
		}
		num, err := r.number(f)
		if err != nil {
			return api.Channel{}, err
		}
		*kept[f.word] = num
		came = append(came, f)
	}
}

// fresh is the one of the fields whose word the token is, if that did not come yet.
func fresh(may, came []field, t api.Token) (field, error) {
	i := find(may, t.Text)
	if i < 0 {
		return field{}, wrongAt(t, api.ErrWord)
	}
	if have(came, t.Text) {
		return field{}, wrongAt(t, api.ErrTwice)
	}
	return may[i], nil
}

// number is the next token as the field's number, with the `;` behind it.
func (r *reader) number(f field) (int, error) {
	t, err := r.take(api.TNumber)
	if err != nil {
		return 0, err
	}
	if !f.fits(t.Num) {
		return 0, wrongAt(t, api.ErrRange)
	}
	if _, err := r.take(api.TEnd); err != nil {
		return 0, err
	}
	return t.Num, nil
}

// closed is the channel of the fields that came ahead of its `}`, if it may end there.
func closed(c api.Channel, came []field, t api.Token) (api.Channel, error) {
	if lacks(c.Chart, came) {
		return api.Channel{}, wrongAt(t, api.ErrLack)
	}
	if !inOrder(c, came) {
		return api.Channel{}, wrongAt(t, api.ErrRange)
	}
	return c, nil
}
