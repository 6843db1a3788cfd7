"""Teams: matches, Swiss rounds without a repeat, knock-outs."""
