package match

import (
	"fmt"
	"math/rand"
	"testing"

	"roster/api"
)

// P6.1: times, the chapter's examples and more of their kind.
func TestTimeExamples(t *testing.T) {
	for value, want := range map[string]string{
		"20240229120000Z":           "20240229120000",
		"2024022912+0130":           "20240229103000",
		"20231231233000.500-0045":   "20240101001500.5",
		"2024010112Z":               "20240101120000",
		"202401011234Z":             "20240101123400",
		"202401011234-0000":         "20240101123400",
		"20240101123456+00":         "20240101123456",
		"20240101123456,0120Z":      "20240101123456.012",
		"20240101123456.000Z":       "20240101123456",
		"20240101123456.0-2359":     "20240102123356",
		"00000229000000Z":           "00000229000000",
		"0000010100-00":             "00000101000000",
		"9999123123+2359":           "99991230230100",
		"20240301000000+0001":       "20240229235900",
		"20230301000000+0001":       "20230228235900",
		"20240101000000+0001":       "20231231235900",
		"20231231235959.9-0001":     "20240101000059.9",
		"20240228235959-0001":       "20240229000059",
		"99991231235959.999999999Z": "99991231235959.999999999",
	} {
		if got, ok := Normal(api.SynTime, value); !ok || got != want {
			t.Errorf("Normal(SynTime, %q) = %q, %v; want %q", value, got, ok, want)
		}
		holdNormal(t, api.SynTime, value)
	}
}

// P6.1: what is no time.
func TestNoTimes(t *testing.T) {
	for _, value := range []string{
		"", "Z", "20230229120000Z", "19000229000000Z", "000001010000+01", "0000010100+0001", "999912312359-0001", "9999123100-24",
		"20240101120060Z", "2024010112.5Z", "202401011200.5Z", "20240101", "2024010112", "20240101Z", "20240101+01", "202401011",
		"2024010112000Z", "202401011200000Z", "20240101120000.Z", "20240101120000.,5Z", "20240101120000.5.5Z", "20240101120000.5",
		"20240001000000Z", "20241301000000Z", "20240100000000Z", "20240132000000Z", "20240431000000Z", "2024010124Z", "202401010060Z",
		"2024010112z", "2024010112ZZ", "2024010112Z ", " 2024010112Z", "2024010112+", "2024010112+1", "2024010112+24", "2024010112+0160",
		"2024010112+013", "2024010112+01300", "2024010112+01Z", "2024010112Z+01", "2024010112+01-01", "2024010112--01", "+202010112Z", "-02401011200Z",
		"2024+10112Z", "20240101-1Z", "2024010112 00Z",
	} {
		if got, ok := Normal(api.SynTime, value); ok || got != "" {
			t.Errorf("Normal(SynTime, %q) = %q, %v", value, got, ok)
		}
		holdNormal(t, api.SynTime, value)
	}
}

// P6.1: every day that two digits can write, of years of each kind, at the ends of the day and of the zones.
func TestTimesOfTheCalendar(t *testing.T) {
	for _, year := range []int{0, 1, 4, 99, 100, 400, 1600, 1900, 1999, 2000, 2023, 2024, 2100, 9996, 9998, 9999} {
		for month := range 14 {
			for day := range 33 {
				front := fmt.Sprintf("%04d%02d%02d", year, month, day)
				for _, behind := range []string{"00Z", "0000+0001", "2359-0001", "23-2359", "00+2359", "235959.90-00", "12+1159"} {
					holdNormal(t, api.SynTime, front+behind)
				}
			}
		}
	}
}

// P6.1: every number of two digits in each of the fields.
func TestTimesOfEveryNumber(t *testing.T) {
	for number := range 100 {
		two := fmt.Sprintf("%02d", number)
		for _, value := range []string{
			two + "240229121314Z", "20" + two + "0229121314Z", "2024" + two + "29121314Z", "202402" + two + "121314Z", "20240229" + two + "1314Z",
			"2024022912" + two + "14Z", "202402291213" + two + "Z", "20240229121314." + two + "Z", "20240229121314+" + two, "20240229121314+01" + two, "20240229121314-" + two + "59",
		} {
			holdNormal(t, api.SynTime, value)
		}
	}
}

// someTime is a time, most often.
func someTime(r *rand.Rand) string {
	out := fmt.Sprintf("%04d%02d%02d%02d", []int{0, 1, 2023, 2024, 9999}[r.Intn(5)], 1+r.Intn(12), 1+r.Intn(29), r.Intn(24))
	behind := r.Intn(4)
	if behind > 0 {
		out += fmt.Sprintf("%02d", r.Intn(60))
	}
	if behind > 1 {
		out += fmt.Sprintf("%02d", r.Intn(60))
	}
	if behind > 2 {
		out += pick(r, ".", ",") + pick(r, "0", "5", "50", "050", "1")
	}
	return out + pick(r, "Z", "Z", "+", "-") + pick(r, "", "", fmt.Sprintf("%02d", r.Intn(24)), fmt.Sprintf("%02d%02d", r.Intn(24), r.Intn(60)))
}

// P6.1, P6.3: two times are in the order of what they mean, whatever their forms.
func TestTimesAtRandom(t *testing.T) {
	r := rand.New(rand.NewSource(63))
	for range 20000 {
		a, b := someTime(r), someTime(r)
		holdNormal(t, api.SynTime, a)
		holdTruths(t, api.SynTime, a, b)
	}
}
