package rules

import (
	"testing"

	"sideband/api"
	"sideband/arith"
	"sideband/bands"
	"sideband/check"
	"sideband/coder"
	"sideband/conceal"
	"sideband/energy"
	"sideband/lapped"
	"sideband/logs"
	"sideband/mask"
	"sideband/model"
	"sideband/mount"
	"sideband/overlap"
	"sideband/packet"
	"sideband/player"
	"sideband/quant"
	"sideband/queue"
	"sideband/radio"
	"sideband/rangedec"
	"sideband/rangeenc"
	"sideband/reply"
	"sideband/request"
	"sideband/ring"
	"sideband/weave"
	"sideband/word"
)

// The calls, as the chapters list them: what has another signature doesn't build.
var (
	_ func(int64, int) int64        = arith.Sat
	_ func(...int64) int64          = arith.Add
	_ func(int16) int64             = arith.Wide[int16]
	_ func(int32) int64             = arith.Wide[int32]
	_ func(int64) int64             = arith.Wide[int64]
	_ func(int64, int) int64        = arith.Round
	_ func(int32, int32, int) int32 = arith.Mul
	_ func(uint64) uint32           = arith.Root

	_ func(int) uint32 = logs.Exp
	_ func(uint32) int = logs.Log
	_ func(...int) int = logs.Sum

	_ func(*check.Sum, ...byte) = (*check.Sum).Write
	_ func(*check.Sum) uint32   = (*check.Sum).Value
	_ func(*check.Sum) int      = (*check.Sum).Len
	_ func(...byte) uint32      = check.Of

	_ func() *bands.Circle           = bands.New
	_ func(*bands.Circle, int) int32 = (*bands.Circle).Cos
	_ func(*bands.Circle, int) int32 = (*bands.Circle).Rise
	_ func() []int                   = bands.Edges
	_ func(int) int                  = bands.Of

	_ func(int) (*model.Model, api.Errno)             = model.New
	_ func(...uint32) (*model.Model, api.Errno)       = model.Fixed
	_ func(*model.Model) int                          = (*model.Model).Len
	_ func(*model.Model, int) (model.Part, api.Errno) = (*model.Model).Part
	_ func(*model.Model, uint32) int                  = (*model.Model).Find
	_ func(*model.Model, int) api.Errno               = (*model.Model).Learn

	_ func() *rangeenc.Encoder                             = rangeenc.New
	_ func(*rangeenc.Encoder, model.Part) api.Errno        = (*rangeenc.Encoder).Put
	_ func(*rangeenc.Encoder, *model.Model, int) api.Errno = (*rangeenc.Encoder).Symbol
	_ func(*rangeenc.Encoder, uint32, int) api.Errno       = (*rangeenc.Encoder).Bits
	_ func(*rangeenc.Encoder) int                          = (*rangeenc.Encoder).Len
	_ func(*rangeenc.Encoder) []byte                       = (*rangeenc.Encoder).Bytes

	_ func([]byte) *rangedec.Decoder                         = rangedec.New
	_ func(*rangedec.Decoder, *model.Model) (int, api.Errno) = (*rangedec.Decoder).Symbol
	_ func(*rangedec.Decoder, int) (uint32, api.Errno)       = (*rangedec.Decoder).Bits
	_ func(*rangedec.Decoder) int                            = (*rangedec.Decoder).Over

	_ func(int, *bands.Circle) (*lapped.Transform, api.Errno) = lapped.New
	_ func(*lapped.Transform, []int32) ([]int32, api.Errno)   = (*lapped.Transform).Forward
	_ func(*lapped.Transform, []int32) ([]int32, api.Errno)   = (*lapped.Transform).Back

	_ func() *overlap.Analyser                                    = overlap.NewAnalyser
	_ func(*overlap.Analyser, []int16, bool) ([]int32, api.Errno) = (*overlap.Analyser).Lines
	_ func() *overlap.Synth                                       = overlap.NewSynth
	_ func(*overlap.Synth, []int32, bool) ([]int16, api.Errno)    = (*overlap.Synth).Samples
	_ func(*overlap.Synth) *overlap.Synth                         = (*overlap.Synth).Clone

	_ func([]int32) ([]int, api.Errno)                   = energy.Ceilings
	_ func([]int) bool                                   = energy.Right
	_ func(*rangeenc.Encoder, []int, ...int) api.Errno   = energy.Put
	_ func(*rangedec.Decoder, ...int) ([]int, api.Errno) = energy.Get

	_ func([]int, int, int) ([]int, api.Errno) = mask.Steps
	_ func(int, int) bool                      = mask.Told
	_ func([]int, []int) (int64, api.Errno)    = mask.Reach

	_ func(*rangeenc.Encoder, []int32, []int, []int) api.Errno           = quant.Put
	_ func(uint32, int, int) int32                                       = quant.Noise
	_ func([]int32, []int, []int, uint32) ([]int32, api.Errno)           = quant.Heard
	_ func(*rangedec.Decoder, []int, []int, uint32) ([]int32, api.Errno) = quant.Get

	_ func(int, int) (*coder.Encoder, api.Errno)                            = coder.New
	_ func(*coder.Encoder, uint32, []int16, bool) ([]byte, bool, api.Errno) = (*coder.Encoder).Encode
	_ func([]int32) []int32                                                 = coder.Held
	_ func(*coder.Encoder) []int16                                          = (*coder.Encoder).Heard
	_ func(*coder.Encoder) int64                                            = (*coder.Encoder).Reach

	_ func([]byte) (player.Head, api.Errno)                     = player.Read
	_ func() *player.Player                                     = player.New
	_ func(*player.Player, uint32, []byte) ([]int16, api.Errno) = (*player.Player).Play
	_ func(*player.Player) ([]int16, api.Errno)                 = (*player.Player).Fade
	_ func(*player.Player)                                      = (*player.Player).Lose

	_ func() *conceal.Ear                                       = conceal.New
	_ func(*conceal.Ear, conceal.Packet) ([][]int16, api.Errno) = (*conceal.Ear).Hear
	_ func(*conceal.Ear)                                        = (*conceal.Ear).Break

	_ func(string) string              = word.Fold
	_ func(string) bool                = word.Name
	_ func(string) bool                = word.Mount
	_ func(string) string              = word.Title
	_ func(string, int) int            = word.Number
	_ func(string) ([]byte, api.Errno) = word.Open
	_ func([]byte) string              = word.Seal

	_ func() *request.Reader                        = request.New
	_ func(*request.Reader, byte) (bool, api.Errno) = (*request.Reader).Feed
	_ func(*request.Reader) (request.Request, bool) = (*request.Reader).Request

	_ func(api.Errno) int                        = reply.Code
	_ func(reply.Reply) bool                     = reply.Reply.Right
	_ func(reply.Reply) ([]byte, api.Errno)      = reply.Reply.Text
	_ func([]byte) (reply.Reply, int, api.Errno) = reply.Read

	_ func(conceal.Packet) ([]byte, api.Errno)       = packet.Bytes
	_ func([]byte) (conceal.Packet, int, api.Errno)  = packet.Parse
	_ func(*packet.Reader, ...byte) []conceal.Packet = (*packet.Reader).Feed
	_ func(*packet.Reader) int                       = (*packet.Reader).Lost
	_ func(*packet.Reader) int                       = (*packet.Reader).Left

	_ func(string) []byte                                     = weave.Block
	_ func(int) (*weave.Weaver, api.Errno)                    = weave.New
	_ func(*weave.Weaver, string)                             = (*weave.Weaver).Title
	_ func(*weave.Weaver, ...byte) []byte                     = (*weave.Weaver).Weave
	_ func(int) (*weave.Parter, api.Errno)                    = weave.NewParter
	_ func(*weave.Parter, ...byte) ([]weave.Piece, api.Errno) = (*weave.Parter).Part
	_ func([]weave.Piece) []byte                              = weave.Bytes
	_ func([]weave.Piece) string                              = weave.First

	_ func(int) (*ring.Ring, api.Errno)            = ring.New
	_ func(*ring.Ring, conceal.Packet) int         = (*ring.Ring).Push
	_ func(*ring.Ring) (int, int)                  = (*ring.Ring).Ends
	_ func(*ring.Ring, int) (conceal.Packet, bool) = (*ring.Ring).At
	_ func(*ring.Ring) (int, bool)                 = (*ring.Ring).Join

	_ func(int) (*queue.Queue, api.Errno)   = queue.New
	_ func(*queue.Queue, ...byte)           = (*queue.Queue).Say
	_ func(*queue.Queue, []byte, bool) bool = (*queue.Queue).Offer
	_ func(*queue.Queue, int) []byte        = (*queue.Queue).Take
	_ func(*queue.Queue)                    = (*queue.Queue).Flush
	_ func(*queue.Queue) (int, int)         = (*queue.Queue).Waits
	_ func(*queue.Queue) int                = (*queue.Queue).Lost

	_ func(mount.Config) bool                                 = mount.Config.Right
	_ func(mount.Config) (*mount.Mount, api.Errno)            = mount.New
	_ func(*mount.Mount, uint32) api.Errno                    = (*mount.Mount).Start
	_ func(*mount.Mount) api.Errno                            = (*mount.Mount).Stop
	_ func(*mount.Mount) bool                                 = (*mount.Mount).Live
	_ func(*mount.Mount, []int16) (conceal.Packet, api.Errno) = (*mount.Mount).Frame
	_ func(*mount.Mount, string) api.Errno                    = (*mount.Mount).Title
	_ func(*mount.Mount) string                               = (*mount.Mount).Now
	_ func(*mount.Mount) []string                             = (*mount.Mount).History
	_ func(*mount.Mount) []conceal.Packet                     = (*mount.Mount).Burst

	_ func(int, int, ...mount.Config) (*radio.Server, api.Errno) = radio.New
	_ func(*radio.Server) (int, api.Errno)                       = (*radio.Server).Open
	_ func(*radio.Server, int, ...byte) api.Errno                = (*radio.Server).Send
	_ func(*radio.Server, int, int) ([]byte, bool, api.Errno)    = (*radio.Server).Take
	_ func(*radio.Server, int) api.Errno                         = (*radio.Server).Shut
	_ func(*radio.Server)                                        = (*radio.Server).Tick
	_ func(*radio.Server, string) int                            = (*radio.Server).Listeners
)

// Types whose parts are all told, and types of which a part is.
var (
	_ = struct{ Low, Own, All uint32 }(model.Part{})
	_ = struct {
		Whole, Brief  bool
		Quality, Loss int
	}(player.Head{})
	_ = struct {
		Epoch, Number uint32
		Whole         bool
		Payload       []byte
	}(conceal.Packet{})
	_ = struct {
		Method   request.Method
		Path     string
		Icy      bool
		Told     bool
		Password string
	}(request.Request{})
	_ = struct {
		Code  int
		Name  string
		Every int
	}(reply.Reply{})
	_ = struct {
		Path, Name, Password, Fallback string
		Quality, Budget                int
		Period, Ring, Every            int
	}(mount.Config{})
	_ *bands.Circle  = lapped.Transform{}.Circle
	_ *overlap.Synth = player.Player{}.Synth
	_ *player.Player = conceal.Ear{}.Player
	_ mount.Config   = mount.Mount{}.Config
	_ *ring.Ring     = mount.Mount{}.Ring
	_                = []weave.Piece{weave.Sound([]byte(nil)), weave.Told("title")}
)

// The chapters' constants, and api's errors.
func TestConstants(t *testing.T) {
	for i, c := range []struct{ got, want int }{
		{int(api.OK), 0}, {int(api.ErrArg), 1}, {int(api.ErrCut), 2}, {int(api.ErrForm), 3}, {int(api.ErrSum), 4}, {int(api.ErrLong), 5}, {int(api.ErrNone), 6}, {int(api.ErrFull), 7}, {int(api.ErrState), 8}, {int(api.ErrAuth), 9},
		{logs.Step, 256}, {bands.Quarter, 1024}, {bands.One, 1 << 24}, {bands.Slope, 128}, {bands.Lines, 512}, {bands.Bands, 21},
		{model.Most, 64}, {model.Total, 8192}, {model.Rise, 32}, {lapped.SampleBits, 21}, {lapped.LineBits, 26},
		{energy.Most, 26}, {mask.Best, 10}, {mask.Worst, 31}, {coder.Least, 32}, {coder.Most, 600}, {conceal.Most, 4},
		{word.MostName, 40}, {word.MostMount, 20}, {word.MostTitle, 60}, {request.Most, 600}, {reply.Most, 400}, {packet.Most, 617},
		{int(request.Listen), 1}, {int(request.Push), 2}, {int(request.Kill), 3}, {int(request.Stats), 4},
		{weave.Most, 81}, {ring.Most, 1024}, {queue.Most, 256}, {mount.Titles, 5}, {radio.Conns, 32}, {radio.Ask, 10}, {radio.Idle, 20},
	} {
		if c.got != c.want {
			t.Errorf("constant %d: %d, not %d", i, c.got, c.want)
		}
	}
}

// P1, and the document's fourth rule: a method of a nil pointer never panics.
func TestNilPointers(t *testing.T) {
	for name, call := range nilCalls() {
		t.Run(name, func(t *testing.T) {
			defer func() {
				if r := recover(); r != nil {
					t.Error("it panics:", r)
				}
			}()
			call()
		})
	}
}

func nilCalls() map[string]func() {
	var (
		sum     *check.Sum
		circle  *bands.Circle
		symbols *model.Model
		enc     *rangeenc.Encoder
		dec     *rangedec.Decoder
		turn    *lapped.Transform
		ana     *overlap.Analyser
		synth   *overlap.Synth
		frames  *coder.Encoder
		play    *player.Player
		ear     *conceal.Ear
		asked   *request.Reader
		packets *packet.Reader
		weaver  *weave.Weaver
		parter  *weave.Parter
		kept    *ring.Ring
		waits   *queue.Queue
		place   *mount.Mount
		server  *radio.Server
	)
	return map[string]func(){
		"check": func() { sum.Write(1); sum.Value(); sum.Len() },
		"bands": func() { circle.Cos(1); circle.Rise(1) },
		"model": func() { symbols.Len(); symbols.Part(0); symbols.Find(0); symbols.Learn(0) },
		"rangeenc": func() {
			enc.Put(model.Part{Own: 1, All: 1})
			enc.Symbol(nil, 0)
			enc.Bits(0, 1)
			enc.Len()
			enc.Bytes()
		},
		"rangedec": func() { dec.Symbol(nil); dec.Bits(1); dec.Over() },
		"lapped":   func() { turn.Forward(make([]int32, 256)); turn.Back(make([]int32, 128)) },
		"overlap":  func() { ana.Lines(make([]int16, 512), true); synth.Samples(make([]int32, 512), true); synth.Clone() },
		"energy":   func() { energy.Put(nil, make([]int, 21)); energy.Get(nil) },
		"quant": func() {
			quant.Put(nil, make([]int32, 512), make([]int, 21), make([]int, 21))
			quant.Get(nil, make([]int, 21), make([]int, 21), 1)
		},
		"coder":   func() { frames.Encode(0, make([]int16, 512), true); frames.Heard(); frames.Reach() },
		"player":  func() { play.Play(0, []byte{1}); play.Fade(); play.Lose() },
		"conceal": func() { ear.Hear(conceal.Packet{}); ear.Break() },
		"request": func() { asked.Feed('G'); asked.Request() },
		"packet":  func() { packets.Feed(83); packets.Lost(); packets.Left() },
		"weave":   func() { weaver.Title("a"); weaver.Weave(1); parter.Part(1) },
		"ring":    func() { kept.Push(conceal.Packet{}); kept.Ends(); kept.At(0); kept.Join() },
		"queue": func() {
			waits.Say(1)
			waits.Offer([]byte{1}, true)
			waits.Take(1)
			waits.Flush()
			waits.Waits()
			waits.Lost()
		},
		"mount": func() {
			place.Start(1)
			place.Frame(make([]int16, 512))
			place.Title("a")
			place.Now()
			place.History()
			place.Burst()
			place.Live()
			place.Stop()
		},
		"radio": func() {
			server.Open()
			server.Send(1, 1)
			server.Take(1, 1)
			server.Shut(1)
			server.Tick()
			server.Listeners("/live")
		},
	}
}
