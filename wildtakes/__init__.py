"""Programs that send and take, and which takes meet which sends."""
