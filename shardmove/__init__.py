"""Shardmove: copies of shards that are moved between machines step by step."""
