package caps

import (
	"bytes"
	"encoding/binary"
	"math"
	"math/rand"
	"strconv"
	"strings"
	"testing"

	"interregnum/api"
)

// Bytes of right capabilities.
const (
	four  = "\x41\x04\x00\x01\x11\x70"
	bare  = "\x40\x02\x00\x78"
	grace = "\x40\x06\x80\x78\x00\x01\x01\x80"
	long  = "\x47\x07\x00\x01\x01\x00\x00\x01\x02"
	route = "\x02\x00" // a code that is not known here
)

// full answers the good capabilities whose bytes are param(four + grace + long).
func full() api.Caps {
	return api.Caps{Four: true, AS4: 70000, GR: true, Restarting: true, Time: 120, Family: true, Forward: true, LL: true, LLTime: 258}
}

// value answers a type, or a code, how many bytes data has, and these.
func value(kind int, data string) string {
	return string([]byte{byte(kind), byte(len(data))}) + data
}

// param answers the optional parameter that these capabilities stand in.
func param(all string) string { return value(2, all) }

// goodByWord tells the chapter's word of good capabilities, not by the package's own means.
func goodByWord(c api.Caps) bool {
	if c.Four && (int(uint32(c.AS4)) != c.AS4 || c.AS4 == 0) || !c.Four && c.AS4 != 0 {
		return false
	}
	if c.Time&0xfff != c.Time || c.LLTime&0xffffff != c.LLTime {
		return false
	}
	if !c.GR && c.Restarting || !c.GR && c.Time != 0 || !c.GR && c.Family {
		return false
	}
	return !(c.Forward && !c.Family) && !(c.LLTime != 0 && !c.LL)
}

// encodeByWord tells the chapter's sentence on Encode.
func encodeByWord(c api.Caps) string {
	if !goodByWord(c) {
		return ""
	}
	all := ""
	if c.Four {
		all += value(65, string(binary.BigEndian.AppendUint32(nil, uint32(c.AS4))))
	}
	if c.GR {
		data := []byte{byte(c.Time / 256), byte(c.Time % 256)}
		if c.Restarting {
			data[0] += 128
		}
		if c.Family && c.Forward {
			data = append(data, 0, 1, 1, 128)
		} else if c.Family {
			data = append(data, 0, 1, 1, 0)
		}
		all += value(64, string(data))
	}
	if c.LL {
		data := binary.BigEndian.AppendUint32([]byte{0, 1, 1}, uint32(c.LLTime))
		all += value(71, string(data))
	}
	if all == "" {
		return ""
	}
	return param(all)
}

// split answers the types, or codes, and the values of b; false, if it is none.
func split(b string) (kinds []int, values []string, ok bool) {
	for at := 0; at != len(b); {
		if at+2 > len(b) || at+2+int(b[at+1]) > len(b) {
			return nil, nil, false
		}
		kinds, values = append(kinds, int(b[at])), append(values, b[at+2:at+2+int(b[at+1])])
		at += 2 + int(b[at+1])
	}
	return kinds, values, true
}

// family answers which place of size bytes in b is the first that begins with 0001, 01; below 0 without one.
func family(b string, size int) int {
	for at := 0; at < len(b); at += size {
		if strings.HasPrefix(b[at:], "\x00\x01\x01") {
			return at
		}
	}
	return -1
}

// decodeByWord tells the chapter's sentences on Decode: first what is false, then what the last one of each code says.
func decodeByWord(b string) (c api.Caps, ok bool) {
	types, params, ok := split(b)
	last := map[int]string{}
	for i := range types {
		codes, values, capsOK := split(params[i])
		ok = ok && types[i] == 2 && capsOK
		for j, code := range codes {
			v := values[j]
			ok = ok && !(code == 65 && (len(v) != 4 || v == "\x00\x00\x00\x00"))
			ok = ok && !(code == 64 && len(v)%4 != 2)
			ok = ok && !(code == 71 && len(v)%7 != 0)
			last[code] = v
		}
	}
	if !ok {
		return api.Caps{}, false
	}
	if v, stood := last[65]; stood {
		c.Four, c.AS4 = true, int(binary.BigEndian.Uint32([]byte(v)))
	}
	if v, stood := last[64]; stood {
		c.GR, c.Restarting, c.Time = true, v[0] >= 128, int(v[0]%16)*256+int(v[1])
		if at := family(v[2:], 4); at >= 0 {
			c.Family, c.Forward = true, v[2+at+3] >= 128
		}
	}
	if v, stood := last[71]; stood {
		if at := family(v, 7); at >= 0 {
			c.LL, c.LLTime = true, int(v[at+4])*65536+int(v[at+5])*256+int(v[at+6])
		}
	}
	return c, true
}

// someCaps answers capabilities of all bools, with numbers at the edges of the word good.
func someCaps() []api.Caps {
	ases := []int{0, 1, 65536, 1<<31 - 1, 1 << 31, 1<<32 - 1, 1 << 32, 1<<32 + 1, -1, math.MinInt, math.MaxInt}
	times := []int{0, 1, 255, 256, 2048, 4095, 4096, 4097, 0x8000, 1 << 16, 1 << 32, -1, math.MinInt, math.MaxInt}
	longs := []int{0, 1, 255, 258, 65536, 1<<23 - 1, 1 << 23, 1<<24 - 1, 1 << 24, 1<<24 + 1, 1 << 32, -1, math.MinInt, math.MaxInt}
	var list []api.Caps
	for bits := range 64 {
		c := api.Caps{Four: bits&1 != 0, GR: bits&2 != 0, Restarting: bits&4 != 0, Family: bits&8 != 0, Forward: bits&16 != 0, LL: bits&32 != 0}
		for _, c.AS4 = range ases {
			for _, c.Time = range times {
				for _, c.LLTime = range longs {
					list = append(list, c)
				}
			}
		}
	}
	return list
}

func TestGood(t *testing.T) {
	for name, c := range map[string]struct {
		c    api.Caps
		good bool
	}{
		"nothing":                          {api.Caps{}, true},
		"all":                              {full(), true},
		"AS4 1":                            {api.Caps{Four: true, AS4: 1}, true},
		"AS4 2^32 - 1":                     {api.Caps{Four: true, AS4: 1<<32 - 1}, true},
		"AS4 0 with Four":                  {api.Caps{Four: true}, false},
		"AS4 2^32":                         {api.Caps{Four: true, AS4: 1 << 32}, false},
		"AS4 below 0":                      {api.Caps{Four: true, AS4: -1}, false},
		"AS4 without Four":                 {api.Caps{AS4: 1}, false},
		"AS4 below 0 without Four":         {api.Caps{AS4: -1}, false},
		"GR alone":                         {api.Caps{GR: true}, true},
		"Time 4095":                        {api.Caps{GR: true, Time: 4095}, true},
		"Time 4096":                        {api.Caps{GR: true, Time: 4096}, false},
		"Time below 0":                     {api.Caps{GR: true, Time: -1}, false},
		"Time without GR":                  {api.Caps{Time: 1}, false},
		"Restarting":                       {api.Caps{GR: true, Restarting: true}, true},
		"Restarting without GR":            {api.Caps{Restarting: true}, false},
		"Family":                           {api.Caps{GR: true, Family: true}, true},
		"Family without GR":                {api.Caps{Family: true}, false},
		"Forward":                          {api.Caps{GR: true, Family: true, Forward: true}, true},
		"Forward without Family":           {api.Caps{GR: true, Forward: true}, false},
		"Forward without GR":               {api.Caps{Forward: true}, false},
		"Family and Forward without GR":    {api.Caps{Family: true, Forward: true}, false},
		"LL alone":                         {api.Caps{LL: true}, true},
		"LLTime 2^24 - 1":                  {api.Caps{LL: true, LLTime: 1<<24 - 1}, true},
		"LLTime 2^24":                      {api.Caps{LL: true, LLTime: 1 << 24}, false},
		"LLTime below 0":                   {api.Caps{LL: true, LLTime: -1}, false},
		"LLTime without LL":                {api.Caps{LLTime: 1}, false},
		"LLTime without LL, beside GR":     {api.Caps{GR: true, Time: 5, LLTime: 1}, false},
		"Four is good, Time is not":        {api.Caps{Four: true, AS4: 1, GR: true, Time: 4096}, false},
		"all but LLTime, which is too big": {api.Caps{Four: true, AS4: 1, GR: true, Family: true, LL: true, LLTime: 1 << 24}, false},
	} {
		if got := Good(c.c); got != c.good {
			t.Errorf("%s: %v", name, got)
		}
	}
}

func TestEncode(t *testing.T) {
	for name, c := range map[string]struct {
		c    api.Caps
		want string
	}{
		"the chapter's example":   {api.Caps{}, ""},
		"all, in their order":     {full(), "\x02\x17" + four + grace + long},
		"Four":                    {api.Caps{Four: true, AS4: 0x01020304}, "\x02\x06\x41\x04\x01\x02\x03\x04"},
		"GR":                      {api.Caps{GR: true}, "\x02\x04\x40\x02\x00\x00"},
		"Time":                    {api.Caps{GR: true, Time: 4095}, "\x02\x04\x40\x02\x0f\xff"},
		"Restarting":              {api.Caps{GR: true, Restarting: true}, "\x02\x04\x40\x02\x80\x00"},
		"Restarting, Time":        {api.Caps{GR: true, Restarting: true, Time: 4095}, "\x02\x04\x40\x02\x8f\xff"},
		"Family":                  {api.Caps{GR: true, Time: 1, Family: true}, "\x02\x08\x40\x06\x00\x01\x00\x01\x01\x00"},
		"Forward":                 {api.Caps{GR: true, Time: 1, Family: true, Forward: true}, "\x02\x08\x40\x06\x00\x01\x00\x01\x01\x80"},
		"LL":                      {api.Caps{LL: true}, "\x02\x09\x47\x07\x00\x01\x01\x00\x00\x00\x00"},
		"LLTime":                  {api.Caps{LL: true, LLTime: 0x010203}, "\x02\x09\x47\x07\x00\x01\x01\x00\x01\x02\x03"},
		"Four, LL":                {api.Caps{Four: true, AS4: 70000, LL: true, LLTime: 258}, "\x02\x0f" + four + long},
		"GR, LL":                  {api.Caps{GR: true, Time: 120, LL: true, LLTime: 258}, "\x02\x0d" + bare + long},
		"Four, GR":                {api.Caps{Four: true, AS4: 70000, GR: true, Time: 120}, "\x02\x0a" + four + bare},
		"a part is not good":      {api.Caps{Four: true, AS4: 70000, GR: true, Time: 4096}, ""},
		"another part is not":     {api.Caps{Four: true, AS4: 70000, LLTime: 1}, ""},
		"the first part is not":   {api.Caps{Four: true, GR: true}, ""},
		"a number goes round":     {api.Caps{Four: true, AS4: 1<<32 + 1}, ""},
		"a time goes round":       {api.Caps{LL: true, LLTime: 1<<24 + 1}, ""},
		"a time with Restarting":  {api.Caps{GR: true, Time: 0x8001}, ""},
		"Forward alone is no GR":  {api.Caps{Forward: true}, ""},
		"what is there is not GR": {api.Caps{Four: true, AS4: 70000, Family: true}, ""},
	} {
		if got := Encode(c.c); string(got) != c.want {
			t.Errorf("%s: %x, want %x", name, got, c.want)
		}
	}
}

func TestAllAsTheWordsSay(t *testing.T) {
	good := 0
	for _, c := range someCaps() {
		want := encodeByWord(c)
		b := Encode(c)
		if Good(c) != goodByWord(c) || string(b) != want {
			t.Fatalf("%+v: %v, %x, want %x", c, Good(c), b, want)
		}
		if !goodByWord(c) {
			continue
		}
		good++
		if got, ok := Decode(b); !ok || got != c {
			t.Fatalf("%x: %+v, %v, want %+v", b, got, ok, c)
		}
	}
	if good < 500 {
		t.Errorf("%d were good", good)
	}
}

func TestDecode(t *testing.T) {
	for name, c := range map[string]struct {
		b    string
		want api.Caps
	}{
		"no bytes":                          {"", api.Caps{}},
		"a parameter of none":               {param(""), api.Caps{}},
		"parameters of none":                {param("") + param(""), api.Caps{}},
		"all":                               {param(four + grace + long), full()},
		"all, another order":                {param(long + grace + four), full()},
		"a parameter each":                  {param(grace) + param(long) + param(four), full()},
		"one of none between":               {param(grace+long) + param("") + param(four), full()},
		"others between":                    {param(route+four+value(1, "\x00\x01\x00\x01")+grace) + param(value(255, strings.Repeat("x", 250))) + param(long+route), full()},
		"others alone":                      {param(route + value(0, "") + value(63, "x") + value(66, "") + value(70, "xy") + value(72, "z")), api.Caps{}},
		"AS4 1":                             {param(value(65, "\x00\x00\x00\x01")), api.Caps{Four: true, AS4: 1}},
		"AS4 2^32 - 1":                      {param(value(65, "\xff\xff\xff\xff")), api.Caps{Four: true, AS4: 1<<32 - 1}},
		"GR":                                {param(value(64, "\x00\x00")), api.Caps{GR: true}},
		"Restarting, Time":                  {param(value(64, "\x8f\xff")), api.Caps{GR: true, Restarting: true, Time: 4095}},
		"bits between do not count":         {param(value(64, "\x70\x05")), api.Caps{GR: true, Time: 5}},
		"all bits":                          {param(value(64, "\xff\xff\x00\x01\x01\xff")), api.Caps{GR: true, Restarting: true, Time: 4095, Family: true, Forward: true}},
		"bits beside Forward do not count":  {param(value(64, "\x00\x05\x00\x01\x01\x7f")), api.Caps{GR: true, Time: 5, Family: true}},
		"another family":                    {param(value(64, "\x80\x05\x00\x02\x01\x80")), api.Caps{GR: true, Restarting: true, Time: 5}},
		"IPv4, but not unicast":             {param(value(64, "\x00\x05\x00\x01\x02\x80")), api.Caps{GR: true, Time: 5}},
		"unicast, but far from IPv4":        {param(value(64, "\x00\x05\x01\x01\x01\x80")), api.Caps{GR: true, Time: 5}},
		"IPv4 behind others":                {param(value(64, "\x00\x05\x00\x02\x01\x80\x00\x01\x80\x80\x00\x01\x01\x00")), api.Caps{GR: true, Time: 5, Family: true}},
		"IPv4 ahead of others":              {param(value(64, "\x00\x05\x00\x01\x01\x00\x00\x02\x01\x80")), api.Caps{GR: true, Time: 5, Family: true}},
		"the first IPv4, without Forward":   {param(value(64, "\x00\x05\x00\x01\x01\x00\x00\x01\x01\x80")), api.Caps{GR: true, Time: 5, Family: true}},
		"the first IPv4, with Forward":      {param(value(64, "\x00\x05\x00\x01\x01\x80\x00\x01\x01\x00")), api.Caps{GR: true, Time: 5, Family: true, Forward: true}},
		"IPv4 across families":              {param(value(64, "\x00\x05\x00\x00\x01\x01\x80\x80\x80\x80")), api.Caps{GR: true, Time: 5}},
		"IPv4 across Time":                  {param(value(64, "\x00\x00\x01\x01\x80\x00")), api.Caps{GR: true}},
		"62 families":                       {param(value(64, "\x00\x05"+strings.Repeat("\x00\x02\x01\x80", 61)+"\x00\x01\x01\x80")), api.Caps{GR: true, Time: 5, Family: true, Forward: true}},
		"LL":                                {param(value(71, "\x00\x01\x01\x00\x00\x00\x00")), api.Caps{LL: true}},
		"LLTime":                            {param(value(71, "\x00\x01\x01\x00\x01\x02\x03")), api.Caps{LL: true, LLTime: 0x010203}},
		"LLTime 2^24 - 1, flags":            {param(value(71, "\x00\x01\x01\xff\xff\xff\xff")), api.Caps{LL: true, LLTime: 1<<24 - 1}},
		"LL of no family":                   {param(value(71, "")), api.Caps{}},
		"LL of another family":              {param(value(71, "\x00\x02\x01\x80\x00\x00\x05")), api.Caps{}},
		"LL of IPv4, but not unicast":       {param(value(71, "\x00\x01\x02\x80\x00\x00\x05")), api.Caps{}},
		"LL of IPv4 behind another":         {param(value(71, "\x00\x02\x01\x80\x00\x00\x05\x00\x01\x01\x80\x00\x00\x06")), api.Caps{LL: true, LLTime: 6}},
		"LL of the first IPv4":              {param(value(71, "\x00\x01\x01\x00\x00\x00\x05\x00\x01\x01\x80\x00\x00\x06")), api.Caps{LL: true, LLTime: 5}},
		"LL across families":                {param(value(71, "\x00\x02\x01\x00\x00\x01\x01\x01\x02\x03\x04\x05\x06\x07")), api.Caps{}},
		"36 families of LL":                 {param(value(71, strings.Repeat("\x00\x02\x01\x80\x00\x00\x07", 35)+"\x00\x01\x01\x00\x00\x00\x08")), api.Caps{LL: true, LLTime: 8}},
		"65 twice":                          {param(four + value(65, "\x00\x00\x00\x09")), api.Caps{Four: true, AS4: 9}},
		"64 twice, the last without Family": {param(grace + value(64, "\x00\x07")), api.Caps{GR: true, Time: 7}},
		"64 twice, the last of another":     {param(grace + value(64, "\x00\x07\x00\x02\x01\x80")), api.Caps{GR: true, Time: 7}},
		"64 twice, the last with all":       {param(bare + grace), api.Caps{GR: true, Restarting: true, Time: 120, Family: true, Forward: true}},
		"64 twice, the last not Forward":    {param(grace + value(64, "\x80\x78\x00\x01\x01\x00")), api.Caps{GR: true, Restarting: true, Time: 120, Family: true}},
		"71 twice":                          {param(long + value(71, "\x00\x01\x01\x00\x00\x00\x09")), api.Caps{LL: true, LLTime: 9}},
		"71 twice, the last of another":     {param(long + value(71, "\x00\x02\x01\x00\x00\x00\x09")), api.Caps{}},
		"71 twice, the last of none":        {param(long) + param(value(71, "")), api.Caps{}},
		"71 twice, the first of none":       {param(value(71, "") + long), api.Caps{LL: true, LLTime: 258}},
		"twice, in two parameters":          {param(four+grace+long) + param(value(65, "\x00\x00\x00\x09")+value(64, "\x00\x07")), api.Caps{Four: true, AS4: 9, GR: true, Time: 7, LL: true, LLTime: 258}},
		"three times":                       {param(four+value(65, "\x00\x00\x00\x09")) + param(route+four), api.Caps{Four: true, AS4: 70000}},
	} {
		got, ok := Decode([]byte(c.b))
		if !ok || got != c.want {
			t.Errorf("%s: %+v, %v, want %+v", name, got, ok, c.want)
		}
		if !Good(got) {
			t.Errorf("%s: %+v is not good", name, got)
		}
		if word, wordOK := decodeByWord(c.b); !wordOK || word != c.want {
			t.Errorf("%s: the words say %+v, %v", name, word, wordOK)
		}
	}
}

// refused tells of it, if b are parameters to Decode.
func refused(t *testing.T, name, b string) {
	t.Helper()
	if got, ok := Decode([]byte(b)); ok || got != (api.Caps{}) {
		t.Errorf("%s: %x: %+v, %v", name, b, got, ok)
	}
}

func TestDecodeRefusesWhatLacks(t *testing.T) {
	for name, b := range map[string]string{
		"a type alone":            "\x02",
		"no bytes where one is":   "\x02\x01",
		"a byte lacks":            "\x02\x06\x41\x04\x00\x00\x00",
		"a byte lacks to a right": "\x02\x07" + four,
		"255 that lack":           "\x02\xff" + four,
	} {
		for _, ahead := range []string{"", param(""), param(four + grace + long)} {
			refused(t, name, ahead+b)
		}
	}
}

func TestDecodeRefuses(t *testing.T) {
	wrong := map[string]string{
		"a code alone":             param("\x41"),
		"a byte more":              param(four + "\x41"),
		"a byte lacks":             param("\x41\x04\x00\x00\x00"),
		"255 that lack":            param("\x01\xff\x00"),
		"it ends in the next one":  param("\x41\x04\x00\x01") + param("\x11\x70"),
		"AS4 0":                    param(value(65, "\x00\x00\x00\x00")),
		"type 1":                   value(1, ""),
		"type 1 with capabilities": value(1, four),
		"type 255":                 value(255, four),
	}
	for size := range 20 {
		data, n := strings.Repeat("\x01", size), strconv.Itoa(size)
		if size != 4 {
			wrong["65 of "+n] = param(value(65, data))
			// More bytes that tell no greater number than four may are wrong, too.
			wrong["65 of "+n+" and of 0 ahead"] = param(value(65, strings.Repeat("\x00", max(size-1, 0))+data[:min(size, 1)]))
		}
		if size%4 != 2 {
			wrong["64 of "+n] = param(value(64, data))
		}
		if size%7 != 0 {
			wrong["71 of "+n] = param(value(71, data))
		}
	}
	right := param(four + grace + long)
	for name, b := range wrong {
		refused(t, name, b)
		refused(t, name+", last", right+b)
		refused(t, name+", first", b+right)
		refused(t, name+", between", param("")+b+right)
	}
}

// One of a code that is wrong is wrong, too, where a right one of that code stands behind it.
func TestDecodeRefusesThoughARightOneIsLast(t *testing.T) {
	for _, b := range []string{
		param(value(65, "\x00\x00\x00\x00") + four),
		param(value(65, "\x00\x01") + four),
		param(value(64, "\x00") + grace),
		param(value(64, "")) + param(grace),
		param(value(71, "\x00\x01\x01") + long),
	} {
		refused(t, "a right one is last", b)
	}
}

func TestDecodeOfEveryType(t *testing.T) {
	for kind := range 256 {
		for _, data := range []string{"", four, grace + long} {
			got, ok := Decode([]byte(value(kind, data)))
			if ok != (kind == 2) || !ok && got != (api.Caps{}) {
				t.Errorf("type %d: %+v, %v", kind, got, ok)
			}
		}
	}
}

func TestDecodeOfEveryCode(t *testing.T) {
	for code := range 256 {
		for size := range 254 {
			b := param(value(code, strings.Repeat("\x01", size)))
			want, wantOK := decodeByWord(b)
			if got, ok := Decode([]byte(b)); ok != wantOK || got != want {
				t.Fatalf("code %d, %d bytes: %+v, %v, want %+v, %v", code, size, got, ok, want, wantOK)
			}
		}
	}
}

// No beginning of parameters is some, but where one ends.
func TestDecodeOfBeginnings(t *testing.T) {
	whole := param(four) + param(grace+long) + param("") + param(route)
	ends := map[int]bool{0: true, 8: true, 27: true, 29: true, 33: true}
	for n := range len(whole) + 1 {
		got, ok := Decode([]byte(whole[:n]))
		if ok != ends[n] || !ok && got != (api.Caps{}) {
			t.Errorf("%d bytes: %+v, %v", n, got, ok)
		}
	}
}

// More bytes than an OPEN has room for are parameters, too.
func TestDecodeOfMany(t *testing.T) {
	b := strings.Repeat(param(four+grace+long), 10000)
	if got, ok := Decode([]byte(b)); !ok || got != full() {
		t.Errorf("%+v, %v", got, ok)
	}
	if got, ok := Decode([]byte(b + "\x03\x00")); ok || got != (api.Caps{}) {
		t.Errorf("of type 3 last: %+v, %v", got, ok)
	}
}

// someValue answers a capability that is often right.
func someValue(source *rand.Rand) string {
	data := make([]byte, source.Intn(9))
	code := source.Intn(256)
	switch source.Intn(4) {
	case 0:
		code, data = 65, make([]byte, 4)
	case 1:
		code, data = 64, make([]byte, 2+4*source.Intn(4))
	case 2:
		code, data = 71, make([]byte, 7*source.Intn(4))
	}
	source.Read(data)
	size, from := 7, 0
	if code == 64 {
		size, from = 4, 2
	}
	for at := from; at+size <= len(data) && code != 65; at += size {
		copy(data[at:], []byte{0, byte(1 + source.Intn(2)), byte(1 + source.Intn(2))})
	}
	return value(code, string(data))
}

func TestDecodeAsTheWordsSay(t *testing.T) {
	source := rand.New(rand.NewSource(8))
	good := 0
	for range 50000 {
		text := ""
		for range source.Intn(4) {
			all := ""
			for range source.Intn(4) {
				all += someValue(source)
			}
			text += param(all)
		}
		b := []byte(text)
		if len(b) > 0 && source.Intn(3) == 0 {
			b[source.Intn(len(b))] = byte(source.Intn(256))
		}
		if len(b) > 0 && source.Intn(8) == 0 {
			b = b[:source.Intn(len(b))]
		}
		want, wantOK := decodeByWord(string(b))
		got, ok := Decode(b)
		if ok != wantOK || got != want {
			t.Fatalf("%x: %+v, %v, want %+v, %v", b, got, ok, want, wantOK)
		}
		if ok {
			good++
			if again, ok := Decode(Encode(got)); !Good(got) || !ok || again != got {
				t.Fatalf("%x: %+v, then %+v", b, got, again)
			}
		}
	}
	if good < 5000 || good > 45000 {
		t.Errorf("%d were good", good)
	}
}

// Rule R4: what is handed in stays, spare room included, and each answer is new memory.
func TestBytesShareNothing(t *testing.T) {
	b, again := Encode(full()), Encode(full())
	for i := range b[:cap(b)] {
		b[:cap(b)][i] = 0xff
	}
	if third := Encode(full()); string(again) != param(four+grace+long) || !bytes.Equal(again, third) {
		t.Errorf("Encode: %x, %x", again, third)
	}
	room := append(bytes.Clone(again), param(value(65, "\x00\x00\x00\x09"))...)
	before := bytes.Clone(room)
	if got, ok := Decode(room[:len(again)]); !ok || got != full() || !bytes.Equal(room, before) {
		t.Errorf("Decode: %+v, %v, %x", got, ok, room)
	}
}

// Rule R5: what one call read does not count in the next.
func TestNothingIsKept(t *testing.T) {
	for range 3 {
		if got, ok := Decode([]byte(param(four + grace + long))); !ok || got != full() {
			t.Errorf("all: %+v, %v", got, ok)
		}
		if got, ok := Decode([]byte(param(four) + "\x02")); ok || got != (api.Caps{}) {
			t.Errorf("a byte more: %+v, %v", got, ok)
		}
		if got, ok := Decode(nil); !ok || got != (api.Caps{}) {
			t.Errorf("nil: %+v, %v", got, ok)
		}
	}
}
