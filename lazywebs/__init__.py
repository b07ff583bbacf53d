"""Lazywebs: functions done as webs, each shared part once."""
